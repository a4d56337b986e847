/- Contract: the closure of CommonBroader. -/
import Derived.Test.YtcbcggnpbjcdfaaDoorCB
namespace Go.Proofs.YtcbcggnpbjcdfaaDoor
open Go.ChangeShapes Go.WideShapes Go.ChangeAt Go.RowKit
attribute [local go_sem] Oper.semAt_some

set_option maxRecDepth 100000 in
set_option maxHeartbeats 4000000 in
theorem common1_ok (ad : Option Addr) (cs : List Et) (c i k : Nat) (hi : i < cs.length) (hk : k < cs.length) (hz : catOk cs = true) (gk gi : Nat) (v cd : Int) (hR : CBR cs (firstE cs i) (firstE cs k) v cd) (w : World) (hc : EntsIn w ad cs) (hgk : w.cell? ⟨gk, 0, none⟩ = some (.int .i64 k)) (hgi : w.cell? ⟨gi, 0, none⟩ = some (.int .i64 i)) :
    Calls Tryd.prog 77 #[.slice ad cs.length c, .pointer (some ⟨gk, 0, none⟩), .pointer (some ⟨gi, 0, none⟩)] w fun e w' => e = .returned (.tuple #[.int .i64 v, .int .i64 cd]) ∧ Below w.heap.size w w' := by
  have hmm := fun n W => run_makeMapE Tryd.underlying79 n W
  have hn := (cat_parts hz).1
  have hT := (cat_parts hz).2.1
  have hei := end_of hz hi
  have hek := end_of hz hk
  have fts := fun q (hq : q < cs.length) => (hc q hq).1
  have V1 := Lib.hid fun W => path_any ad cs.length c (k : Int) W
  have V2 := Lib.hid fun W => path_any ad cs.length c (i : Int) W
  have C := Lib.hid hc
  have PB1 := Lib.hid fun bc bi W h => path_by bc bi ad cs c k hk (by omega) hT cs.length W h
  have PB2 := Lib.hid fun bc bi W h => path_by bc bi ad cs c i hi (by omega) hT cs.length W h
  have UP1 := Lib.hid (up_pref hT (firstE_pref hT hk))
  have UP2 := Lib.hid (up_pref hT (firstE_pref hT hi))
  have PK := firstE_pref hT hk
  have gkl := cell_lt hgk
  have gil := cell_lt hgi
  clear hc
  generalize firstE cs i = pi at *
  generalize firstE cs k = pk at *
  have LT1 := Lib.hid fun m (h : up cs m pk ≠ -1) => plen_lt hek h
  have LT2 := Lib.hid fun m (h : up cs m pi ≠ -1) => plen_lt hei h
  have PL1 := Lib.hid (plen_le hek)
  have PL2 := Lib.hid (plen_le hei)
  have RR := Lib.hid hR
  have BLK := blocks4 w 79
  have bb : Below w.heap.size w ((((w.alloc (.cells #[.int .i64 0] 2)).alloc (.cells #[.int .i64 0] 2)).alloc (.map #[] 0)).alloc (.cells #[.map (some (w.heap.size + 1 + 1))] 79)) := below_new (below_new (below_new (below_new (Below.refl _ _) _) _) _) _
  have sz4 : ((((w.alloc (.cells #[.int .i64 0] 2)).alloc (.cells #[.int .i64 0] 2)).alloc (.map #[] 0)).alloc (.cells #[.map (some (w.heap.size + 1 + 1))] 79)).heap.size = w.heap.size + 4 := by simp
  have kk := (bb.cell (p := ⟨gk, 0, none⟩) gkl).trans hgk
  clear hz hei hek hR
  refine (callsIn_wide (n := 0)).1 (callsIn_of_wp_marks Tryd.func77 rfl trivial ?_ rfl)
  simp only [Tryd.ntmps77, List.size_toArray, List.length_cons, List.length_nil, Nat.reduceAdd, Nat.reduceSub, Array.replicate_succ, Array.replicate_zero, List.push_toArray, List.append_toArray, List.nil_append, List.cons_append]
  refine wpIn_wide.2 ?_
  go_wp2_with (go_at_call 64; refine (V1.out _).mono ?_; rintro e w1 ⟨rfl, p1, p2, hz, hB⟩; have P1 := Lib.hid p1; have P2 := Lib.hid p2; have BB := Lib.hid hB; clear p1 p2 hB)
  obtain ⟨_, b1, o1, rfl, hb1, _⟩ := C.out i hi
  have B0 : Below w.heap.size w w1 := bb.trans (BB.out.mono (by simp <;> omega))
  have G1 : CBx w w1 := BLK.1.kept BB.out (by simp <;> omega) (Nat.le_refl _)
  have S1 : EntSet w1 (w.heap.size + 1 + 1) [] := BLK.2.kept (BB.out.block _ (by simp <;> omega))
  have sz1 : w.heap.size + 6 ≤ w1.heap.size := by rw [hz]; simp
  have hq := PB1.out _ _ w1 ⟨by simp; omega, by simp; omega, P1.out, P2.out, entsIn_below C.out B0⟩
  simp only [World.size_alloc] at hq
  clear PB1 P1 P2 BB BLK bb sz4 kk hz V1 hmm
  refine wp_rangeA rfl (enters_of Tryd.func96 (by kernel_rfl) rfl) hq (fun _ => rfl) KpP.trans
    (fun A B hAB => ⟨hAB.size, hAB.block _ (by omega), fun b o e => by cases e; exact hAB.block _ (by omega)⟩) (fun A B hAB k _ hk2 => hAB.block k hk2)
    (fun pre W => pre.length ≤ cs.length ∧ CBx w W ∧ EntSet W (w.heap.size + 1 + 1) (pre.map (etAt cs)) ∧ w1.heap.size ≤ W.heap.size ∧ Below w.heap.size w W)
    (fun _ _ _ => False)
    ?i1 (fun _ _ _ _ h => h.elim) ?i3 ?i4 (fun _ _ _ _ _ _ _ _ _ h => h.elim) (fun _ _ h => h.1) ⟨Nat.zero_le _, G1, S1, Nat.le_refl _, B0⟩
    (fun q => .cells #[.string (etAt cs q).s, .int .i64 (etAt cs q).a, .int .i64 (etAt cs q).b] 49)
    (fun q kq => { tmps := #[.slice (some ⟨b1, o1, none⟩) cs.length c, .pointer (some ⟨gk, 0, none⟩), .pointer (some ⟨gi, 0, none⟩), undef, .pointer (some ⟨w.heap.size, 0, none⟩), .pointer (some ⟨w.heap.size + 1, 0, none⟩), .pointer (some ⟨w.heap.size + 1 + 1 + 1, 0, none⟩), undef, .pointer (some ⟨kq, 0, none⟩), undef, undef, .slice (some ⟨b1, o1, none⟩) cs.length c, .int .i64 cs.length, .map (some (w.heap.size + 1 + 1)), .slice (some ⟨b1, o1, none⟩) cs.length c, .int .i64 k, .func (.func 96) #[] #[.pointer (some ⟨w.heap.size + 1 + 1 + 1 + 1, 0, none⟩), .pointer (some ⟨w.heap.size + 1 + 1 + 1 + 1 + 1, 0, none⟩)], .int .i64 q, (.agg #[.string (etAt cs q).s, .int .i64 (etAt cs q).a, .int .i64 (etAt cs q).b]), undef, undef, undef, undef, undef, undef, undef, undef, undef, undef, undef], defers := [] }) ?assign ?body ?done (fun _ _ _ _ h => h.elim)
  case i1 =>
    rintro pre A B ⟨h1, hG, hS, h7, h8⟩ hs
    exact ⟨h1, hG.kept hs (by omega) (Nat.le_refl _), hS.kept (hs.block _ (by omega)), Nat.le_trans h7 hs.size, h8.trans (hs.mono (by omega))⟩
  case i3 =>
    rintro pre A o hA ⟨h1, hG, hS, h7, h8⟩
    have hs := below_new (Below.refl A.heap.size A) o
    exact ⟨h1, hG.kept hs (by omega) (Nat.le_refl _), hS.kept (hs.block _ (by omega)), Nat.le_trans h7 hs.size, h8.trans (hs.mono (by omega))⟩
  case i4 =>
    rintro pre A k o o' hk hl ho ⟨h1, hG, hS, h7, h8⟩
    have hs : Below w1.heap.size A (A.putObj k o') := below_put hk
    exact ⟨h1, hG.kept hs (by omega) h7, hS.kept (hs.block _ (by omega)), by simpa using h7, h8.trans (hs.mono (by omega))⟩
  case assign =>
    intro l x W K hK
    unfold etVal
    gi_wp2
    first | exact hK | (go_simp; exact hK) | (simp; exact hK)
  case body =>
    rintro l pre x V kq ⟨h1, hG, hS, h7, h8⟩ ⟨m, rfl, hTh, rfl⟩ hlt hkq hob
    rw [seg_len] at h1
    have hm := hTh m (Nat.lt_succ_self m)
    have hp := pref_iff.1 ((UP1.out m).resolve_left hm)
    have hml := LT1.out m hm
    have hpl := PL1.out
    have hl : (seg cs pk m ++ [(up cs m pk).toNat]).length = m + 1 := by simp [seg_len]
    obtain ⟨q, hQ⟩ : ∃ q : Nat, up cs m pk = (q : Int) := ⟨(up cs m pk).toNat, by omega⟩
    have eq : (up cs m pk).toNat = q := by omega
    rw [eq] at hl hob ⊢
    obtain ⟨V', hrun, hset, hg⟩ := hS.added (etAt cs q) (fts q (by omega)) (by rw [List.length_map, seg_len]; unfold maxLen; omega)
    have hset : EntSet V' (w.heap.size + 1 + 1) ((seg cs pk m ++ [q]).map (etAt cs)) := by rw [List.map_append]; exact hset
    have c0 : V.cell? ⟨kq, 0, none⟩ = some (.string (etAt cs q).s) := cell_of_block hob 0
    have c1 : V.cell? ⟨kq, 1, none⟩ = some (.int .i64 (etAt cs q).a) := cell_of_block hob 1
    have c2 : V.cell? ⟨kq, 2, none⟩ = some (.int .i64 (etAt cs q).b) := cell_of_block hob 2
    have c3 := hG.2.2.2.2
    unfold etVal at hrun
    have HS := Lib.hid hset
    have HG := Lib.hid (hG.grown hg)
    have HB := Lib.hid (Below.grown h8 hg (by omega) (fun j hj => by cases hj; omega))
    have GG := Lib.hid hg
    clear hq C hTh hm hp eq hQ hset hg hS hob hG h8
    generalize seg cs pk m ++ [q] = pre at *
    gi_wp2
    have gs := GG.out.size
    exact ⟨⟨GG.out.block _ (by omega) (by simp <;> omega), GG.out.block _ (by omega) (by simp <;> omega)⟩, ⟨gs, GG.out.block _ (by omega) (by simp <;> omega), fun b o e => by cases e; exact GG.out.block _ (by omega) (by simp <;> omega)⟩, by omega, HG.out, HS.out, by omega, HB.out⟩
  case done =>
    rintro xs W ⟨m, rfl, hTh, hup⟩ ⟨_, hG, hS, h7, h8⟩ hK
    have hm := plen_there hTh hup
    have ii := (h8.cell (p := ⟨gi, 0, none⟩) gil).trans hgi
    have HIT := Lib.hid fun q (hq : q < cs.length) => set_hit hT PK hTh hq
    clear hq hup hTh G1 S1
    generalize hXS : (seg cs pk m).map (etAt cs) = XS at *
    clear hXS
    go_wp2_with (go_at_call 64; refine (V2.out _).mono ?_; rintro e w2 ⟨rfl, p1, p2, hz, hB⟩; have P1 := Lib.hid p1; have P2 := Lib.hid p2; have BB := Lib.hid hB; clear p1 p2 hB)
    have B2 : Below w.heap.size w w2 := h8.trans (BB.out.mono h8.size)
    have G2 : CBx w w2 := hG.kept BB.out (by omega) (Nat.le_refl _)
    have S2 : EntSet w2 (w.heap.size + 1 + 1) XS := hS.kept (BB.out.block _ (by omega))
    have K2 : w2.heap[w1.heap.size]? = some (.deferred (some [])) := (BB.out.block _ (lt_of_block hK)).trans hK
    have hk1 := lt_of_block hK
    have hq := PB2.out _ _ w2 ⟨by omega, by omega, P1.out, P2.out, entsIn_below C.out B2⟩
    clear PB2 P1 P2 BB V2 hS hG hK
    refine wp_rangeA rfl (enters_of Tryd.func96 (by kernel_rfl) rfl) hq (fun _ => rfl) KpP.trans
      (fun A B hAB => ⟨hAB.size, hAB.block _ (by omega), fun b o e => by cases e; exact hAB.block _ (by omega)⟩) (fun A B hAB k _ hk2 => hAB.block k hk2)
      (fun pre W' => (pre.length ≤ cs.length ∧ ∀ j, j < pre.length → ¬ hitB cs pi pk j) ∧ CBx w W' ∧ EntSet W' (w.heap.size + 1 + 1) XS ∧ W'.heap[w1.heap.size]? = some (.deferred (some [])) ∧ w2.heap.size ≤ W'.heap.size ∧ Below w.heap.size w W')
      (fun c _ W' => (c = .ret ∧ cd = 0) ∧ W'.cell? ⟨w.heap.size, 0, none⟩ = some (.int .i64 v) ∧ W'.cell? ⟨w.heap.size + 1, 0, none⟩ = some (.int .i64 0) ∧ W'.heap[w1.heap.size]? = some (.deferred (some [])) ∧ w2.heap.size ≤ W'.heap.size ∧ Below w.heap.size w W')
      ?j1 ?j2 ?j3 ?j4 ?j5 (fun _ _ h => h.1.1) ⟨⟨Nat.zero_le _, fun j hj => absurd hj (Nat.not_lt_zero _)⟩, G2, S2, K2, Nat.le_refl _, B2⟩
      (fun q => .cells #[.string (etAt cs q).s, .int .i64 (etAt cs q).a, .int .i64 (etAt cs q).b] 49)
      (fun q kq => { tmps := #[.slice (some ⟨b1, o1, none⟩) cs.length c, .pointer (some ⟨gk, 0, none⟩), .pointer (some ⟨gi, 0, none⟩), undef, .pointer (some ⟨w.heap.size, 0, none⟩), .pointer (some ⟨w.heap.size + 1, 0, none⟩), .pointer (some ⟨w.heap.size + 1 + 1 + 1, 0, none⟩), undef, undef, .int .i64 q, .pointer (some ⟨kq, 0, none⟩), .slice (some ⟨b1, o1, none⟩) cs.length c, .int .i64 cs.length, .map (some (w.heap.size + 1 + 1)), .slice (some ⟨b1, o1, none⟩) cs.length c, .int .i64 k, .func (.func 96) #[] #[.pointer (some ⟨w.heap.size + 1 + 1 + 1 + 1, 0, none⟩), .pointer (some ⟨w.heap.size + 1 + 1 + 1 + 1 + 1, 0, none⟩)], undef, undef, undef, undef, .slice (some ⟨b1, o1, none⟩) cs.length c, .int .i64 i, .func (.func 96) #[] #[.pointer (some ⟨W.heap.size, 0, none⟩), .pointer (some ⟨W.heap.size + 1, 0, none⟩)], .int .i64 q, (.agg #[.string (etAt cs q).s, .int .i64 (etAt cs q).a, .int .i64 (etAt cs q).b]), undef, undef, undef, undef], defers := [] }) ?assign2 ?body2 ?done2 ?stop2
    case j1 =>
      rintro pre A B ⟨h1, hG, hS, hD, h7, h9⟩ hs
      exact ⟨h1, hG.kept hs (by omega) (Nat.le_refl _), hS.kept (hs.block _ (by omega)), (hs.block _ (by omega)).trans hD, Nat.le_trans h7 hs.size, h9.trans (hs.mono (by omega))⟩
    case j2 =>
      rintro c pre A B ⟨h1, hc0, hc1, hD, h7, h9⟩ hs
      exact ⟨h1, (hs.cell (p := ⟨w.heap.size, 0, none⟩) (by simp; omega)).trans hc0, (hs.cell (p := ⟨w.heap.size + 1, 0, none⟩) (by simp; omega)).trans hc1, (hs.block _ (by omega)).trans hD, Nat.le_trans h7 hs.size, h9.trans (hs.mono (by omega))⟩
    case j3 =>
      rintro pre A o hA ⟨h1, hG, hS, hD, h7, h9⟩
      have hs := below_new (Below.refl A.heap.size A) o
      exact ⟨h1, hG.kept hs (by omega) (Nat.le_refl _), hS.kept (hs.block _ (by omega)), (hs.block _ (by omega)).trans hD, Nat.le_trans h7 hs.size, h9.trans (hs.mono (by omega))⟩
    case j4 =>
      rintro pre A k o o' hk hl ho ⟨h1, hG, hS, hD, h7, h9⟩
      have hs : Below w2.heap.size A (A.putObj k o') := below_put hk
      exact ⟨h1, hG.kept hs (by omega) h7, hS.kept (hs.block _ (by omega)), (hs.block _ (by omega)).trans hD, by simpa using h7, h9.trans (hs.mono (by omega))⟩
    case j5 =>
      rintro c pre A k o o' hk hl ho ⟨h1, hc0, hc1, hD, h7, h9⟩
      have hs : Below w2.heap.size A (A.putObj k o') := below_put hk
      exact ⟨h1, (hs.cell (p := ⟨w.heap.size, 0, none⟩) (by simp; omega)).trans hc0, (hs.cell (p := ⟨w.heap.size + 1, 0, none⟩) (by simp; omega)).trans hc1, (hs.block _ (by omega)).trans hD, by simpa using h7, h9.trans (hs.mono (by omega))⟩
    case assign2 =>
      intro l x W K hK
      unfold etVal
      gi_wp2
      first | exact hK | (go_simp; exact hK) | (simp; exact hK)
    case body2 =>
      rintro l pre x V kq ⟨⟨h1, hno⟩, hG, hS, hD, h7', h9⟩ ⟨m', rfl, hTh, rfl⟩ hlt hkq hob
      rw [seg_len] at h1 hno
      have hm' := hTh m' (Nat.lt_succ_self m')
      have hp := pref_iff.1 ((UP2.out m').resolve_left hm')
      have hml := LT2.out m' hm'
      have hpl := PL2.out
      have hl : (seg cs pi m' ++ [(up cs m' pi).toNat]).length = m' + 1 := by simp [seg_len]
      obtain ⟨q, hQ⟩ : ∃ q : Nat, up cs m' pi = (q : Int) := ⟨(up cs m' pi).toNat, by omega⟩
      have eq : (up cs m' pi).toNat = q := by omega
      rw [eq] at hl hob ⊢
      have hrun := hS.asked (zero_boolE V) (etAt cs q) (fts q (by omega))
      rw [HIT.out q (by omega), hm] at hrun
      have c0 : V.cell? ⟨kq, 0, none⟩ = some (.string (etAt cs q).s) := cell_of_block hob 0
      have c1 : V.cell? ⟨kq, 1, none⟩ = some (.int .i64 (etAt cs q).a) := cell_of_block hob 1
      have c2 : V.cell? ⟨kq, 2, none⟩ = some (.int .i64 (etAt cs q).b) := cell_of_block hob 2
      have c3 := hG.2.2.2.2
      unfold etVal at hrun
      have HG := Lib.hid hG
      have HS := Lib.hid hS
      by_cases hit : hitB cs pi pk m'
      · have hit2 : (q : Int) ∈ segI cs pk (plen cs pk) := by rw [← hQ]; exact hit
        rw [decide_eq_true hit2] at hrun
        obtain ⟨e1, e2⟩ := cbr_one RR.out (.inl ⟨m', hml, hit, hno, rfl, rfl⟩)
        rw [hQ] at e1
        obtain ⟨r0, f0, r1, f1, _⟩ := hG
        have R1 := Lib.hid r1
        have E2 := Lib.hid e2
        have E1 := Lib.hid e1
        have r1' : (V.setCell ⟨w.heap.size, 0, none⟩ (.int .i64 (q : Int))).cell? ⟨w.heap.size + 1, 0, none⟩ = some (.int .i64 0) := (World.cell?_setCell_other _ _ _ _ (by intro hc; simp at hc)).trans r1
        have r0' : (V.setCell ⟨w.heap.size, 0, none⟩ (.int .i64 (q : Int))).cell? ⟨w.heap.size, 0, none⟩ = some (.int .i64 (q : Int)) := World.cell?_setCell_same' _ _ _ (by rw [r0]; rfl)
        clear hq C hTh hm' hp eq hQ hit hit2 hno e1 e2 hS
        generalize seg cs pi m' ++ [q] = pre at *
        gi_wp2
        have bk : ∀ k, k ≠ w.heap.size → k ≠ w.heap.size + 1 → ((V.setCell ⟨w.heap.size, 0, none⟩ (.int .i64 (q : Int))).setCell ⟨w.heap.size + 1, 0, none⟩ (.int .i64 0)).heap[k]? = V.heap[k]? := fun k n1 n2 => (Below.heap_setCell _ _ _ _ (by simp; omega)).trans (Below.heap_setCell _ _ _ _ (by simp; omega))
        exact ⟨⟨bk _ (by omega) (by omega), bk _ (by omega) (by omega)⟩, ⟨rfl, E2.out⟩, by rw [E1.out]; exact (World.cell?_setCell_other _ _ _ _ (by intro hc; simp at hc)).trans r0', World.cell?_setCell_same' _ _ _ (by rw [r1']; rfl), (bk _ (by omega) (by omega)).trans hD, by simp [World.setCell]; omega, (h9.setCell (p := ⟨w.heap.size, 0, none⟩) (by simp) _).setCell (p := ⟨w.heap.size + 1, 0, none⟩) (by simp) _⟩
      · have hit2 : ¬ (q : Int) ∈ segI cs pk (plen cs pk) := by rw [← hQ]; exact hit
        rw [decide_eq_false hit2] at hrun
        have H1 : ∀ j, j < (seg cs pi m' ++ [q]).length → ¬ hitB cs pi pk j := fun j hj => by
          rw [hl] at hj
          by_cases e : j = m'
          · subst e; exact hit
          · exact hno j (by omega)
        have H1 := Lib.hid H1
        clear hq C hTh hm' hp eq hQ hit hit2 hno hG hS
        generalize seg cs pi m' ++ [q] = pre at *
        gi_wp2
        exact ⟨Kept.refl _ _, ⟨Nat.le_refl _, rfl, fun _ _ _ => rfl⟩, ⟨by omega, H1.out⟩, HG.out, HS.out, hD, h7', h9⟩
    case done2 =>
      rintro xs W' ⟨m', rfl, hTh, hup⟩ ⟨⟨_, hno⟩, hG, hS, hD, h7', h9⟩ hK
      rw [seg_len] at hno
      have hm' := plen_there hTh hup
      obtain ⟨e1, e2⟩ := cbr_one RR.out (.inr ⟨fun j hj => hno j (by omega), rfl, rfl⟩)
      have E1 := Lib.hid e1
      have E2 := Lib.hid e2
      obtain ⟨r0, f0, r1, f1, _⟩ := hG
      have r1' : (W'.setCell ⟨w.heap.size, 0, none⟩ (.int .i64 0)).cell? ⟨w.heap.size + 1, 0, none⟩ = some (.int .i64 0) := (World.cell?_setCell_other _ _ _ _ (by intro hc; simp at hc)).trans r1
      have r0' : (W'.setCell ⟨w.heap.size, 0, none⟩ (.int .i64 0)).cell? ⟨w.heap.size, 0, none⟩ = some (.int .i64 0) := World.cell?_setCell_same' _ _ _ (by rw [r0]; rfl)
      clear hTh hup hno e1 e2 hq
      go_wp2
      have bk : ∀ k, k ≠ w.heap.size → k ≠ w.heap.size + 1 → ((W'.setCell ⟨w.heap.size, 0, none⟩ (.int .i64 0)).setCell ⟨w.heap.size + 1, 0, none⟩ (.int .i64 6)).heap[k]? = W'.heap[k]? := fun k n1 n2 => (Below.heap_setCell _ _ _ _ (by simp; omega)).trans (Below.heap_setCell _ _ _ _ (by simp; omega))
      refine ⟨by simp, .inl ⟨_, _, rfl, run_takeDeferred ((bk _ (by omega) (by omega)).trans hK), ?_⟩⟩
      refine ⟨by simp, .inl ⟨_, _, rfl, run_takeDeferred ((World.putObj_heap_other (by omega)).trans ((bk _ (by omega) (by omega)).trans hD)), ?_⟩⟩
      have c4 : ((((W'.setCell ⟨w.heap.size, 0, none⟩ (.int .i64 0)).setCell ⟨w.heap.size + 1, 0, none⟩ (.int .i64 6)).putObj w2.heap.size (.deferred none)).putObj w1.heap.size (.deferred none)).cell? ⟨w.heap.size, 0, none⟩ = some (.int .i64 0) := (cell_same (World.putObj_heap_other (by omega))).trans ((cell_same (World.putObj_heap_other (by omega))).trans ((World.cell?_setCell_other _ _ _ _ (by intro hc; simp at hc)).trans r0'))
      have c5 : ((((W'.setCell ⟨w.heap.size, 0, none⟩ (.int .i64 0)).setCell ⟨w.heap.size + 1, 0, none⟩ (.int .i64 6)).putObj w2.heap.size (.deferred none)).putObj w1.heap.size (.deferred none)).cell? ⟨w.heap.size + 1, 0, none⟩ = some (.int .i64 6) := (cell_same (World.putObj_heap_other (by omega))).trans ((cell_same (World.putObj_heap_other (by omega))).trans (World.cell?_setCell_same' _ _ _ (by rw [r1']; rfl)))
      refine ⟨.tuple #[.int .i64 0, .int .i64 6], by simp [results, Tryd.results77, go_sem, c4, c5], by rw [E1.out, E2.out], (((h9.setCell (p := ⟨w.heap.size, 0, none⟩) (by simp) _).setCell (p := ⟨w.heap.size + 1, 0, none⟩) (by simp) _).trans (below_put (by omega))).trans (below_put (by omega))⟩
    case stop2 =>
      rintro c pre W' ⟨m', rfl, hTh, _⟩ ⟨⟨rfl, e2⟩, r0, r1, hD, h7', h9⟩ hK
      have E2 := Lib.hid e2
      clear hTh e2 hq
      go_wp2
      refine ⟨by simp, .inl ⟨_, _, rfl, run_takeDeferred hK, ?_⟩⟩
      refine ⟨by simp, .inl ⟨_, _, rfl, run_takeDeferred ((World.putObj_heap_other (by omega)).trans hD), ?_⟩⟩
      have c4 : ((W'.putObj w2.heap.size (.deferred none)).putObj w1.heap.size (.deferred none)).cell? ⟨w.heap.size, 0, none⟩ = some (.int .i64 v) := (cell_same (World.putObj_heap_other (by omega))).trans ((cell_same (World.putObj_heap_other (by omega))).trans r0)
      have c5 : ((W'.putObj w2.heap.size (.deferred none)).putObj w1.heap.size (.deferred none)).cell? ⟨w.heap.size + 1, 0, none⟩ = some (.int .i64 0) := (cell_same (World.putObj_heap_other (by omega))).trans ((cell_same (World.putObj_heap_other (by omega))).trans r1)
      refine ⟨.tuple #[.int .i64 v, .int .i64 0], by simp [results, Tryd.results77, go_sem, c4, c5], by rw [E2.out], (h9.trans (below_put (by omega))).trans (below_put (by omega))⟩
end Go.Proofs.YtcbcggnpbjcdfaaDoor
