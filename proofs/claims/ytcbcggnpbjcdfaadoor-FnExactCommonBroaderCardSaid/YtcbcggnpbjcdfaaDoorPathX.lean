/- Contracts: the path of an entry, told into a list of the call's own; the path of an entry that is none. -/
import Derived.Test.YtcbcggnpbjcdfaaDoorLeadsI
import Derived.Test.YtcbcggnpbjcdfaaDoorRngO
import Derived.RangeFuncBox
namespace Go.Proofs.YtcbcggnpbjcdfaaDoor
open Go.ChangeShapes Go.WideShapes Go.ChangeAt Go.RowKit
attribute [local go_sem] Oper.semAt_some

set_option maxRecDepth 100000 in
theorem pathIt_missing (bc bi : Nat) (ad : Option Addr) (n c : Nat) (x : Int) (hx : hasX n x = false) (l : Nat) (w W : World) (hW : Below w.heap.size w W) (c1 : w.cell? ⟨bc, 0, none⟩ = some (.slice ad n c)) (c2 : w.cell? ⟨bi, 0, none⟩ = some (.int .i64 x)) :
    CallsIn Fence.wide 0 Tryd.prog 96 (#[.func (.yield l) #[] #[]] ++ #[.pointer (some ⟨bc, 0, none⟩), .pointer (some ⟨bi, 0, none⟩)]) W fun e W2 => e = Missing x ∧ Below W.heap.size W W2 := by
  have C1 := (hW.cell (p := ⟨bc, 0, none⟩) (cell_lt c1)).trans c1
  have C2 := (hW.cell (p := ⟨bi, 0, none⟩) (cell_lt c2)).trans c2
  have PF := Lib.hid fun W => preferred_missing ad n c x hx W
  unfold Missing at *
  clear hW c1 c2 hx
  refine callsIn_of_wp Tryd.func96 rfl trivial ?_ rfl
  simp only [Tryd.ntmps96, List.size_toArray, List.length_cons, List.length_nil, Nat.reduceAdd, Nat.reduceSub, Array.replicate_succ, Array.replicate_zero, List.push_toArray, List.append_toArray, List.nil_append, List.cons_append]
  gi_wp2_with (refine ⟨trivial, rfl, ?_⟩; gi_at_call 60; refine (callsIn_wide.2 (PF.out _)).mono ?_; rintro e w9 ⟨rfl, hB⟩; have b9 := Lib.hid hB; clear hB)
  exact ⟨rfl, rfl, b9.out⟩

theorem ownI_push2 {B : Nat} {cs : List Et} {p : Int} {m : Nat} {q : Nat} {v : Value} {w : World} (hq : up cs m p = (q : Int)) (h : w.ownsRow B 2 1 v (m + 1) ((segI cs p m).map (Value.int .i64) ++ [.int .i64 (q : Int)])) : OwnInts B (segI cs p (m + 1)) v w := by
  unfold OwnInts; rw [segI_next, hq, List.length_append, segI_len]; simpa using h
theorem ownI_row {B : Nat} {cs : List Et} {p : Int} {m : Nat} {v : Value} {w : World} (h : OwnInts B (segI cs p m) v w) : w.ownsRow B 2 1 v m ((segI cs p m).map (Value.int .i64)) := by
  unfold OwnInts at h; rwa [segI_len] at h

set_option maxRecDepth 100000 in
set_option maxHeartbeats 2000000 in
theorem pathUp1_ok (ad : Option Addr) (cs : List Et) (c j : Nat) (hj : j < cs.length) (hz : catOk cs = true) (g : Nat) (w : World) (hc : EntsIn w ad cs) (_hlt : g < w.heap.size) (hg : w.cell? ⟨g, 0, none⟩ = some (.int .i64 j)) :
    Calls Tryd.prog 63 #[.slice ad cs.length c, .pointer (some ⟨g, 0, none⟩)] w fun e w' => ∃ v, e = .returned (.tuple #[v, .int .i64 0]) ∧ OwnInts w.heap.size (segI cs (firstE cs j) (plen cs (firstE cs j))) v w' ∧ Below w.heap.size w w' := by
  obtain ⟨i0, hi, hz0, hz1, hz2⟩ := info_parts info_i64
  have hn := (cat_parts hz).1
  have hT := (cat_parts hz).2.1
  have he := end_of hz hj
  have V := Lib.hid fun W => path_any ad cs.length c (j : Int) W
  have C := Lib.hid hc
  have PB := Lib.hid fun bc bi W h => path_by bc bi ad cs c j hj (by omega) hT cs.length W h
  have UP := Lib.hid (up_pref hT (firstE_pref hT hj))
  have b0 := Lib.hid (below_new (Below.refl w.heap.size w) (.cells #[.slice none 0 0] 35))
  have g0 : (w.alloc (.cells #[.slice none 0 0] 35)).cell? ⟨g, 0, none⟩ = some (.int .i64 j) := (b0.out.cell (p := ⟨g, 0, none⟩) (cell_lt hg)).trans hg
  clear hc hg
  generalize firstE cs j = p at *
  have LT := Lib.hid fun m (h : up cs m p ≠ -1) => plen_lt he h
  have PL := Lib.hid (plen_le he)
  refine (callsIn_wide (n := 0)).1 (callsIn_of_wp_marks Tryd.func63 rfl trivial ?_ rfl)
  simp only [Tryd.ntmps63, List.size_toArray, List.length_cons, List.length_nil, Nat.reduceAdd, Nat.reduceSub, Array.replicate_succ, Array.replicate_zero, List.push_toArray, List.append_toArray, List.nil_append, List.cons_append]
  refine wpIn_wide.2 ?_
  go_wp2_with (go_at_call 64; refine (V.out _).mono ?_; rintro e w1 ⟨rfl, p1, p2, hz, hB⟩; have P1 := Lib.hid p1; have P2 := Lib.hid p2; have BB := Lib.hid hB; clear p1 p2 hB)
  obtain ⟨_, b1, o1, rfl, hb1, _⟩ := C.out j hj
  have B0 : Below w.heap.size w w1 := b0.out.trans (BB.out.mono (by simp))
  have c1 : w1.cell? ⟨w.heap.size, 0, none⟩ = some (.slice none 0 0) := (BB.out.cell (p := ⟨w.heap.size, 0, none⟩) (by simp)).trans (by simp)
  have f1 : w1.frozen? ⟨w.heap.size, 0, none⟩ = false := (BB.out.frozen (p := ⟨w.heap.size, 0, none⟩) (by simp)).trans (by simp)
  have sz1 : w1.heap.size = w.heap.size + 3 := by rw [hz]; simp
  have hq := PB.out _ _ w1 ⟨by simp; omega, by simp; omega, P1.out, P2.out, entsIn_below C.out B0⟩
  simp only [World.size_alloc] at hq
  clear PB P1 P2 BB V hz b0
  refine wp_rangeO rfl (enters_of Tryd.func96 (by kernel_rfl) rfl) hq (fun _ => rfl) KpP.trans
    (fun A B hAB => ⟨hAB.size, hAB.block _ (by omega), fun b o e => by cases e; exact hAB.block _ (by omega)⟩) (fun A B hAB k _ hk2 => hAB.block k hk2)
    (fun pre W => pre.length ≤ cs.length ∧ (∃ v, W.cell? ⟨w.heap.size, 0, none⟩ = some v ∧ OwnInts (w1.heap.size + 2) (segI cs p pre.length) v W) ∧ W.frozen? ⟨w.heap.size, 0, none⟩ = false ∧ w1.heap.size ≤ W.heap.size ∧ Below w.heap.size w W)
    (fun _ _ _ => False)
    ?i1 (fun _ _ _ _ h => h.elim) ?i3 ?i4 (fun _ _ _ _ _ _ _ _ _ h => h.elim) (fun _ _ h => h.1) ⟨Nat.zero_le _, ⟨_, c1, ownI_nil _ _⟩, f1, Nat.le_refl _, B0⟩
    (fun q => { tmps := #[.slice (some ⟨b1, o1, none⟩) cs.length c, .pointer (some ⟨g, 0, none⟩), undef, .slice none 0 0, .int .i64 0, .pointer (some ⟨w.heap.size, 0, none⟩), .int .i64 q, .slice (some ⟨b1, o1, none⟩) cs.length c, .int .i64 j, .func (.func 96) #[] #[.pointer (some ⟨w.heap.size + 1, 0, none⟩), .pointer (some ⟨w.heap.size + 1 + 1, 0, none⟩)], .int .i64 q, etVal (etAt cs q), undef, undef, undef, undef, undef], defers := [] }) ?assign ?body ?done (fun _ _ _ _ h => h.elim)
  case i1 =>
    rintro pre A B ⟨h1, ⟨v, h2, hO⟩, h4, h7, h8⟩ hs
    exact ⟨h1, ⟨v, (hs.cell (p := ⟨w.heap.size, 0, none⟩) (by simp; omega)).trans h2, ownInts_kept hO hs⟩, (hs.frozen (p := ⟨w.heap.size, 0, none⟩) (by simp; omega)).trans h4, Nat.le_trans h7 hs.size, h8.trans (hs.mono (by omega))⟩
  case i3 =>
    rintro pre A o hA ⟨h1, ⟨v, h2, hO⟩, h4, h7, h8⟩
    have hs := below_new (Below.refl A.heap.size A) o
    exact ⟨h1, ⟨v, (hs.cell (p := ⟨w.heap.size, 0, none⟩) (by simp; omega)).trans h2, World.ownsRow.alloc hO _⟩, (hs.frozen (p := ⟨w.heap.size, 0, none⟩) (by simp; omega)).trans h4, Nat.le_trans h7 hs.size, h8.trans (hs.mono (by omega))⟩
  case i4 =>
    rintro pre A k o o' hk hl ho ⟨h1, ⟨v, h2, hO⟩, h4, h7, h8⟩
    have hs : Below w1.heap.size A (A.putObj k o') := below_put hk
    exact ⟨h1, ⟨v, (hs.cell (p := ⟨w.heap.size, 0, none⟩) (by simp; omega)).trans h2, ownsRow_putObj hO o' hl ho⟩, (hs.frozen (p := ⟨w.heap.size, 0, none⟩) (by simp; omega)).trans h4, by simpa using h7, h8.trans (hs.mono (by omega))⟩
  case assign =>
    intro l x W K hK
    gi_wp2
    first | exact hK | (go_simp; exact hK) | (simp; exact hK)
  case body =>
    rintro l pre x W ⟨h1, ⟨v, h2, hO⟩, h4, h7, h8⟩ ⟨m, rfl, hTh, rfl⟩ hlt
    rw [seg_len] at h1 hO
    have hm := hTh m (Nat.lt_succ_self m)
    have hp := pref_iff.1 ((UP.out m).resolve_left hm)
    have hml := LT.out m hm
    have hpl := PL.out
    have hl : (seg cs p m ++ [(up cs m p).toNat]).length = m + 1 := by simp [seg_len]
    obtain ⟨q, hQ⟩ : ∃ q : Nat, up cs m p = (q : Int) := ⟨(up cs m p).toNat, by omega⟩
    have eq : (up cs m p).toNat = q := by omega
    rw [eq] at hl ⊢
    have R := Lib.hid (ownI_row hO)
    have HQ := Lib.hid hQ
    have BW := Lib.hid h8
    have lt := ownI_lt hO
    clear hq C hTh hm hp eq hQ hO h8
    generalize seg cs p m ++ [q] = pre at *
    gi_wp2_with (gi_at_builtin; go_loud (refine wpListIn_append_own _ rfl _ _ 35 rfl (w1.heap.size + 2) 2 i0 (.int .i64 0) 1 8 Tryd.underlying35 hi hz0 hz1 hz2 rfl (by decide) _ _ _ rfl (World.ownsRow.alloc R.out _) ⟨W.heap.size, 0, none⟩ 1 1 [.int .i64 (q : Int)] rfl rfl (one_newS _ _ _) (fun x hx => by simp at hx; subst hx; rfl) (by unfold maxLen; omega) (by omega) (by simp; omega) ?_; intro v' w5 hown hgrow _; have P0 := ownI_push2 HQ.out hown; obtain ⟨av, cv, rfl, _⟩ := ownInts_in P0; have P := Lib.hid P0; clear P0; have G := Lib.hid (Below.grown ((Below.refl (w1.heap.size + 2) W).alloc (by omega) (.cells #[.int .i64 (q : Int)] 2)) hgrow (by simp; omega) lt); have k5 := (G.out.cell (p := ⟨w.heap.size, 0, none⟩) (by simp; omega)).trans h2; have z5 := G.out.frozen (p := ⟨w.heap.size, 0, none⟩) (by simp; omega); rw [h4] at z5; clear hown hgrow))
    have bk : ∀ k, k < w1.heap.size + 2 → k ≠ w.heap.size → (w5.setCell ⟨w.heap.size, 0, none⟩ (.slice av (segI cs p (m + 1)).length cv)).heap[k]? = W.heap[k]? := fun k hk hne => (Below.heap_setCell _ _ _ _ (by simp; omega)).trans (G.out.block k hk)
    have gs := G.out.size
    refine ⟨⟨bk _ (by omega) (by omega), bk _ (by omega) (by omega)⟩, ⟨by simp [World.setCell]; omega, bk _ (by omega) (by omega), fun b o e => by cases e; exact bk _ (by omega) (by omega)⟩, by omega, ⟨_, World.cell?_setCell_same' _ _ _ (by rw [k5]; rfl), by rw [hl]; exact ownsRow_setCell_below P.out (by simp; omega) _⟩, by rw [World.frozen?_setCell]; exact z5, by simp [World.setCell]; omega, (BW.out.trans (G.out.mono (by omega))).setCell (p := ⟨w.heap.size, 0, none⟩) (by simp) _⟩
  case done =>
    rintro xs W ⟨m, rfl, hTh, hup⟩ ⟨_, ⟨v, h2, hO⟩, h4, h7, h8⟩ hK
    rw [seg_len] at hO
    have hm := plen_there hTh hup
    rw [hm] at hO
    have OO := Lib.hid hO
    clear hTh hup hm hO
    go_wp2
    refine ⟨by simp, .inl ⟨_, _, rfl, run_takeDeferred hK, ?_⟩⟩
    refine ⟨.tuple #[v, .int .i64 0], ?_, v, rfl, ownI_mono (ownsRow_putObj OO.out _ hK rfl) (by omega), h8.trans (below_put (by omega))⟩
    simp [results, Tryd.results63, go_sem]
set_option maxRecDepth 100000 in
theorem pathUp1_missing (ad : Option Addr) (n c : Nat) (x : Int) (hx : hasX n x = false) (g : Nat) (w : World) (hg : w.cell? ⟨g, 0, none⟩ = some (.int .i64 x)) :
    Calls Tryd.prog 63 #[.slice ad n c, .pointer (some ⟨g, 0, none⟩)] w fun e w' => e = Missing x ∧ Below w.heap.size w w' := by
  have V := Lib.hid fun W => path_any ad n c x W
  have M := Lib.hid fun bc bi l w W hW c1 c2 => pathIt_missing bc bi ad n c x hx l w W hW c1 c2
  have b0 := Lib.hid (below_new (Below.refl w.heap.size w) (.cells #[.slice none 0 0] 35))
  have g0 : (w.alloc (.cells #[.slice none 0 0] 35)).cell? ⟨g, 0, none⟩ = some (.int .i64 x) := (b0.out.cell (p := ⟨g, 0, none⟩) (cell_lt hg)).trans hg
  clear hx
  refine (callsIn_wide (n := 0)).1 (callsIn_of_wp_marks Tryd.func63 rfl trivial ?_ rfl)
  simp only [Tryd.ntmps63, List.size_toArray, List.length_cons, List.length_nil, Nat.reduceAdd, Nat.reduceSub, Array.replicate_succ, Array.replicate_zero, List.push_toArray, List.append_toArray, List.nil_append, List.cons_append]
  refine wpIn_wide.2 ?_
  go_wp2_with (go_at_call 64; refine (V.out _).mono ?_; rintro e w1 ⟨rfl, p1, p2, hz, hB⟩; simp only [World.size_alloc] at p1 p2; have P1 := Lib.hid p1; have P2 := Lib.hid p2; have B0 := Lib.hid (b0.out.trans (hB.mono b0.out.size)); clear p1 p2 hB)
  have hz1 := B0.out.size
  clear hz
  refine wp_range_panics (R := fun e => e = Missing x) rfl (enters_of Tryd.func96 (by kernel_rfl) rfl) (fun e h => ⟨_, h⟩) (fun l W hW => M.out _ _ l w1 W hW P1.out P2.out) ?_
  rintro ch W hR hB hK
  refine ⟨by simp, .inl ⟨_, _, rfl, run_takeDeferred hK, ?_⟩⟩
  exact ⟨hR, (B0.out.trans (hB.mono hz1)).trans (below_put hz1)⟩
end Go.Proofs.YtcbcggnpbjcdfaaDoor
