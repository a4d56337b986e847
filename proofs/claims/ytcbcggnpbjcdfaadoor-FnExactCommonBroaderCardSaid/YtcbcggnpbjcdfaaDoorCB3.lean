/- Contract: the closure of CommonBroader where the second entry is none. -/
import Derived.Test.YtcbcggnpbjcdfaaDoorCB2
namespace Go.Proofs.YtcbcggnpbjcdfaaDoor
open Go.ChangeShapes Go.WideShapes Go.ChangeAt Go.RowKit
attribute [local go_sem] Oper.semAt_some

set_option maxRecDepth 100000 in
set_option maxHeartbeats 4000000 in
theorem common1_miss (ad : Option Addr) (cs : List Et) (c k : Nat) (hk : k < cs.length) (hz : catOk cs = true) (gk gi : Nat) (x : Int) (hx : hasX cs.length x = false) (w : World) (hc : EntsIn w ad cs) (hgk : w.cell? ⟨gk, 0, none⟩ = some (.int .i64 k)) (hgi : w.cell? ⟨gi, 0, none⟩ = some (.int .i64 x)) :
    Calls Tryd.prog 77 #[.slice ad cs.length c, .pointer (some ⟨gk, 0, none⟩), .pointer (some ⟨gi, 0, none⟩)] w fun e w' => e = Missing x ∧ Below w.heap.size w w' := by
  have hmm := fun n W => run_makeMapE Tryd.underlying79 n W
  have hn := (cat_parts hz).1
  have hT := (cat_parts hz).2.1
  have hek := end_of hz hk
  have fts := fun q (hq : q < cs.length) => (hc q hq).1
  have V1 := Lib.hid fun W => path_any ad cs.length c (k : Int) W
  have V2 := Lib.hid fun W => path_any ad cs.length c x W
  have C := Lib.hid hc
  have PB1 := Lib.hid fun bc bi W h => path_by bc bi ad cs c k hk (by omega) hT cs.length W h
  have UP1 := Lib.hid (up_pref hT (firstE_pref hT hk))
  have gkl := cell_lt hgk
  have gil := cell_lt hgi
  clear hc
  generalize firstE cs k = pk at *
  have LT1 := Lib.hid fun m (h : up cs m pk ≠ -1) => plen_lt hek h
  have PL1 := Lib.hid (plen_le hek)
  have BLK := blocks4 w 79
  have bb : Below w.heap.size w ((((w.alloc (.cells #[.int .i64 0] 2)).alloc (.cells #[.int .i64 0] 2)).alloc (.map #[] 0)).alloc (.cells #[.map (some (w.heap.size + 1 + 1))] 79)) := below_new (below_new (below_new (below_new (Below.refl _ _) _) _) _) _
  have sz4 : ((((w.alloc (.cells #[.int .i64 0] 2)).alloc (.cells #[.int .i64 0] 2)).alloc (.map #[] 0)).alloc (.cells #[.map (some (w.heap.size + 1 + 1))] 79)).heap.size = w.heap.size + 4 := by simp
  have kk := (bb.cell (p := ⟨gk, 0, none⟩) gkl).trans hgk
  have M := Lib.hid fun a bc bi l w W hW c1 c2 => pathIt_missing bc bi a cs.length c x hx l w W hW c1 c2
  clear hz hek hx
  refine (callsIn_wide (n := 0)).1 (callsIn_of_wp_marks Tryd.func77 rfl trivial ?_ rfl)
  simp only [Tryd.ntmps77, List.size_toArray, List.length_cons, List.length_nil, Nat.reduceAdd, Nat.reduceSub, Array.replicate_succ, Array.replicate_zero, List.push_toArray, List.append_toArray, List.nil_append, List.cons_append]
  refine wpIn_wide.2 ?_
  go_wp2_with (go_at_call 64; refine (V1.out _).mono ?_; rintro e w1 ⟨rfl, p1, p2, hz, hB⟩; have P1 := Lib.hid p1; have P2 := Lib.hid p2; have BB := Lib.hid hB; clear p1 p2 hB)
  obtain ⟨_, b1, o1, rfl, hb1, _⟩ := C.out k hk
  have B0 : Below w.heap.size w w1 := bb.trans (BB.out.mono (by simp <;> omega))
  have G1 : CBx w w1 := BLK.1.kept BB.out (by simp <;> omega) (Nat.le_refl _)
  have S1 : EntSet w1 (w.heap.size + 1 + 1) [] := BLK.2.kept (BB.out.block _ (by simp <;> omega))
  have sz1 : w.heap.size + 6 ≤ w1.heap.size := by rw [hz]; simp
  have hq := PB1.out _ _ w1 ⟨by simp; omega, by simp; omega, P1.out, P2.out, entsIn_below C.out B0⟩
  simp only [World.size_alloc] at hq
  clear PB1 P1 P2 BB BLK bb sz4 kk hz V1 hmm
  refine wp_rangeA rfl (enters_of Tryd.func96 (by kernel_rfl) rfl) hq (fun _ => rfl) KpP.trans
    (fun A B hAB => ⟨hAB.size, hAB.block _ (by omega), fun b o e => by cases e; exact hAB.block _ (by omega)⟩) (fun A B hAB k _ hk2 => hAB.block k hk2)
    (fun pre W => pre.length ≤ cs.length ∧ CBx w W ∧ EntSet W (w.heap.size + 1 + 1) (pre.map (etAt cs)) ∧ w1.heap.size ≤ W.heap.size ∧ Below w.heap.size w W)
    (fun _ _ _ => False)
    ?i1 (fun _ _ _ _ h => h.elim) ?i3 ?i4 (fun _ _ _ _ _ _ _ _ _ h => h.elim) (fun _ _ h => h.1) ⟨Nat.zero_le _, G1, S1, Nat.le_refl _, B0⟩
    (fun q => .cells #[.string (etAt cs q).s, .int .i64 (etAt cs q).a, .int .i64 (etAt cs q).b] 49)
    (fun q kq => { tmps := #[.slice (some ⟨b1, o1, none⟩) cs.length c, .pointer (some ⟨gk, 0, none⟩), .pointer (some ⟨gi, 0, none⟩), undef, .pointer (some ⟨w.heap.size, 0, none⟩), .pointer (some ⟨w.heap.size + 1, 0, none⟩), .pointer (some ⟨w.heap.size + 1 + 1 + 1, 0, none⟩), undef, .pointer (some ⟨kq, 0, none⟩), undef, undef, .slice (some ⟨b1, o1, none⟩) cs.length c, .int .i64 cs.length, .map (some (w.heap.size + 1 + 1)), .slice (some ⟨b1, o1, none⟩) cs.length c, .int .i64 k, .func (.func 96) #[] #[.pointer (some ⟨w.heap.size + 1 + 1 + 1 + 1, 0, none⟩), .pointer (some ⟨w.heap.size + 1 + 1 + 1 + 1 + 1, 0, none⟩)], .int .i64 q, (.agg #[.string (etAt cs q).s, .int .i64 (etAt cs q).a, .int .i64 (etAt cs q).b]), undef, undef, undef, undef, undef, undef, undef, undef, undef, undef, undef], defers := [] }) ?assign ?body ?done (fun _ _ _ _ h => h.elim)
  case i1 =>
    rintro pre A B ⟨h1, hG, hS, h7, h8⟩ hs
    exact ⟨h1, hG.kept hs (by omega) (Nat.le_refl _), hS.kept (hs.block _ (by omega)), Nat.le_trans h7 hs.size, h8.trans (hs.mono (by omega))⟩
  case i3 =>
    rintro pre A o hA ⟨h1, hG, hS, h7, h8⟩
    have hs := below_new (Below.refl A.heap.size A) o
    exact ⟨h1, hG.kept hs (by omega) (Nat.le_refl _), hS.kept (hs.block _ (by omega)), Nat.le_trans h7 hs.size, h8.trans (hs.mono (by omega))⟩
  case i4 =>
    rintro pre A k o o' hk hl ho ⟨h1, hG, hS, h7, h8⟩
    have hs : Below w1.heap.size A (A.putObj k o') := below_put hk
    exact ⟨h1, hG.kept hs (by omega) h7, hS.kept (hs.block _ (by omega)), by simpa using h7, h8.trans (hs.mono (by omega))⟩
  case assign =>
    intro l x W K hK
    unfold etVal
    gi_wp2
    first | exact hK | (go_simp; exact hK) | (simp; exact hK)
  case body =>
    rintro l pre x V kq ⟨h1, hG, hS, h7, h8⟩ ⟨m, rfl, hTh, rfl⟩ hlt hkq hob
    rw [seg_len] at h1
    have hm := hTh m (Nat.lt_succ_self m)
    have hp := pref_iff.1 ((UP1.out m).resolve_left hm)
    have hml := LT1.out m hm
    have hpl := PL1.out
    have hl : (seg cs pk m ++ [(up cs m pk).toNat]).length = m + 1 := by simp [seg_len]
    obtain ⟨q, hQ⟩ : ∃ q : Nat, up cs m pk = (q : Int) := ⟨(up cs m pk).toNat, by omega⟩
    have eq : (up cs m pk).toNat = q := by omega
    rw [eq] at hl hob ⊢
    obtain ⟨V', hrun, hset, hg⟩ := hS.added (etAt cs q) (fts q (by omega)) (by rw [List.length_map, seg_len]; unfold maxLen; omega)
    have hset : EntSet V' (w.heap.size + 1 + 1) ((seg cs pk m ++ [q]).map (etAt cs)) := by rw [List.map_append]; exact hset
    have c0 : V.cell? ⟨kq, 0, none⟩ = some (.string (etAt cs q).s) := cell_of_block hob 0
    have c1 : V.cell? ⟨kq, 1, none⟩ = some (.int .i64 (etAt cs q).a) := cell_of_block hob 1
    have c2 : V.cell? ⟨kq, 2, none⟩ = some (.int .i64 (etAt cs q).b) := cell_of_block hob 2
    have c3 := hG.2.2.2.2
    unfold etVal at hrun
    have HS := Lib.hid hset
    have HG := Lib.hid (hG.grown hg)
    have HB := Lib.hid (Below.grown h8 hg (by omega) (fun j hj => by cases hj; omega))
    have GG := Lib.hid hg
    clear hq C hTh hm hp eq hQ hset hg hS hob hG h8
    generalize seg cs pk m ++ [q] = pre at *
    gi_wp2
    have gs := GG.out.size
    exact ⟨⟨GG.out.block _ (by omega) (by simp <;> omega), GG.out.block _ (by omega) (by simp <;> omega)⟩, ⟨gs, GG.out.block _ (by omega) (by simp <;> omega), fun b o e => by cases e; exact GG.out.block _ (by omega) (by simp <;> omega)⟩, by omega, HG.out, HS.out, by omega, HB.out⟩
  case done =>
    rintro xs W ⟨m, rfl, hTh, hup⟩ ⟨_, hG, hS, h7, h8⟩ hK
    have ii := (h8.cell (p := ⟨gi, 0, none⟩) gil).trans hgi
    clear hq hup hTh G1 S1 hS hG
    go_wp2_with (go_at_call 64; refine (V2.out _).mono ?_; rintro e w2 ⟨rfl, p1, p2, hz, hB⟩; have P1 := Lib.hid p1; have P2 := Lib.hid p2; have BB := Lib.hid hB; clear p1 p2 hB)
    have hk1 := lt_of_block hK
    have hs2 := BB.out.size
    have B2 : Below w.heap.size w w2 := h8.trans (BB.out.mono h8.size)
    have K2 : w2.heap[w1.heap.size]? = some (.deferred (some [])) := (BB.out.block _ (lt_of_block hK)).trans hK
    refine wp_range_panics (R := fun e => e = Missing x) rfl (enters_of Tryd.func96 (by kernel_rfl) rfl) (fun e h => ⟨_, h⟩) (fun l W' hW => M.out _ _ _ l w2 W' hW P1.out P2.out) ?_
    rintro ch W' hR hB hK'
    have hB2 := hB.size
    refine ⟨by simp, .inl ⟨_, _, rfl, run_takeDeferred hK', ?_⟩⟩
    refine ⟨by simp, .inl ⟨_, _, rfl, run_takeDeferred ((World.putObj_heap_other (by omega)).trans ((hB.block _ (by omega)).trans K2)), ?_⟩⟩
    exact ⟨hR, ((B2.trans (hB.mono B2.size)).trans (below_put (by omega))).trans (below_put (by omega))⟩
end Go.Proofs.YtcbcggnpbjcdfaaDoor
