/- Contract: does the path of an entry lead to one, the program's. -/
import Derived.Test.YtcbcggnpbjcdfabDoorLeads
namespace Go.Proofs.YtcbcggnpbjcdfabDoor
open Go.ChangeShapes Go.WideShapes Go.ChangeAt Go.RowKit
attribute [local go_sem] Oper.semAt_some

theorem cell_lt {w : World} {k j : Nat} {v : Value} (h : w.cell? ⟨k, j, none⟩ = some v) : k < w.heap.size := by
  rcases Nat.lt_or_ge k w.heap.size with q | q
  · exact q
  · have e : w.heap[k]? = none := Array.getElem?_eq_none q
    simp [World.cell?, e] at h

set_option maxRecDepth 100000 in
set_option maxHeartbeats 2000000 in
theorem leadsTo_any (ad : Option Addr) (cs : List Et) (c : Nat) (j : Nat) (hj : j < cs.length) (tq : Int) (hz : catOk cs = true) (w : World) (hc : EntsIn w ad cs) :
    Calls Tryd.prog 73 #[.slice ad cs.length c, .int .i64 j, .int .i64 tq] w fun e w' => e = .returned (.bool (leads cs (firstE cs j) tq)) ∧ Below w.heap.size w w' := by
  have hn := (cat_parts hz).1
  have hT := (cat_parts hz).2.1
  have he := end_of hz hj
  have V := Lib.hid fun W => path_any ad cs.length c (j : Int) W
  have C := Lib.hid hc
  have PB := Lib.hid fun bc bi W h => path_by bc bi ad cs c j hj (by omega) hT cs.length W h
  have UP := Lib.hid (up_pref hT (firstE_pref hT hj))
  clear hc
  generalize firstE cs j = p at *
  have LT := Lib.hid fun m (h : up cs m p ≠ -1) => plen_lt he h
  have PL := Lib.hid (plen_le he)
  refine (callsIn_wide (n := 0)).1 (callsIn_of_wp_marks Tryd.func73 rfl trivial ?_ rfl)
  simp only [Tryd.ntmps73, List.size_toArray, List.length_cons, List.length_nil, Nat.reduceAdd, Nat.reduceSub, Array.replicate_succ, Array.replicate_zero, List.push_toArray, List.append_toArray, List.nil_append, List.cons_append]
  refine wpIn_wide.2 ?_
  go_wp2_with (go_at_call 109; refine (V.out _).mono ?_; rintro e w1 ⟨rfl, p1, p2, hz, hB⟩; have P1 := Lib.hid p1; have P2 := Lib.hid p2; have BB := Lib.hid hB; clear p1 p2 hB)
  obtain ⟨_, b1, o1, rfl, hb1, _⟩ := C.out j hj
  have B3 : Below w.heap.size w ((w.alloc (.cells #[.int .i64 tq] 2)).alloc (.cells #[.bool false] 4)) := below_new (below_new (Below.refl _ _) _) _
  have B0 : Below w.heap.size w w1 := B3.trans (BB.out.mono (by simp; omega))
  have c0 : w1.cell? ⟨w.heap.size, 0, none⟩ = some (.int .i64 tq) := (BB.out.cell (p := ⟨w.heap.size, 0, none⟩) (by simp; omega)).trans ((box2_0 ..).trans rfl)
  have c1 : w1.cell? ⟨w.heap.size + 1, 0, none⟩ = some (.bool false) := (BB.out.cell (p := ⟨w.heap.size + 1, 0, none⟩) (by simp)).trans ((box2_1 ..).trans rfl)
  have f1 : w1.frozen? ⟨w.heap.size + 1, 0, none⟩ = false := (BB.out.frozen (p := ⟨w.heap.size + 1, 0, none⟩) (by simp)).trans (box2f_1 ..)
  have g0 : w1.heap.size = w.heap.size + 4 := by rw [hz]; simp
  have hq := PB.out _ _ w1 ⟨by simp; omega, by simp; omega, P1.out, P2.out, entsIn_below C.out B0⟩
  simp only [World.size_alloc] at hq
  clear PB P1 P2 BB B3 V hz
  refine wp_range rfl (enters_of Tryd.func146 (by kernel_rfl) rfl) hq (fun _ => rfl) KpP.trans
    (fun A B hAB => ⟨hAB.size, hAB.block _ (by omega), fun b o e => by cases e; exact hAB.block _ (by omega)⟩) (fun A B hAB k _ hk2 => hAB.block k hk2)
    (fun pre W => (pre.length ≤ cs.length ∧ ∀ k, k < pre.length → up cs k p ≠ tq) ∧ W.cell? ⟨w.heap.size, 0, none⟩ = some (.int .i64 tq) ∧ W.cell? ⟨w.heap.size + 1, 0, none⟩ = some (.bool false) ∧ W.frozen? ⟨w.heap.size + 1, 0, none⟩ = false ∧ w1.heap.size ≤ W.heap.size ∧ Below w.heap.size w W)
    (fun c pre W => (c = .ret ∧ leads cs p tq = true) ∧ W.cell? ⟨w.heap.size + 1, 0, none⟩ = some (.bool true) ∧ w1.heap.size ≤ W.heap.size ∧ Below w.heap.size w W)
    ?i1 ?i2 ?i3 ?i4 (fun _ _ h => h.1.1) ⟨⟨Nat.zero_le _, fun k hk => absurd hk (Nat.not_lt_zero _)⟩, c0, c1, f1, Nat.le_refl _, B0⟩
    (fun q => { tmps := #[.slice (some ⟨b1, o1, none⟩) cs.length c, .int .i64 j, .int .i64 tq, undef, undef, .pointer (some ⟨w.heap.size, 0, none⟩), .pointer (some ⟨w.heap.size + 1, 0, none⟩), .int .i64 q, .slice (some ⟨b1, o1, none⟩) cs.length c, .int .i64 j, .func (.func 146) #[] #[.pointer (some ⟨w.heap.size + 1 + 1, 0, none⟩), .pointer (some ⟨w.heap.size + 1 + 1 + 1, 0, none⟩)], .int .i64 q, etVal (etAt cs q), undef, undef, undef], defers := [] }) ?assign ?body ?done ?stop
  case i1 =>
    rintro pre A B ⟨h1, h2, h3, h4, h7, h8⟩ hs
    exact ⟨h1, (hs.cell (p := ⟨w.heap.size, 0, none⟩) (by simp; omega)).trans h2, (hs.cell (p := ⟨w.heap.size + 1, 0, none⟩) (by simp; omega)).trans h3, (hs.frozen (p := ⟨w.heap.size + 1, 0, none⟩) (by simp; omega)).trans h4, Nat.le_trans h7 hs.size, h8.trans (hs.mono (by omega))⟩
  case i2 =>
    rintro c pre A B ⟨h1, h3, h7, h8⟩ hs
    exact ⟨h1, (hs.cell (p := ⟨w.heap.size + 1, 0, none⟩) (by simp; omega)).trans h3, Nat.le_trans h7 hs.size, h8.trans (hs.mono (by omega))⟩
  case i3 =>
    rintro pre A B ⟨h1, h2, h3, h4, h7, h8⟩ hs
    exact ⟨h1, (hs.cell (p := ⟨w.heap.size, 0, none⟩) (by simp; omega)).trans h2, (hs.cell (p := ⟨w.heap.size + 1, 0, none⟩) (by simp; omega)).trans h3, (hs.frozen (p := ⟨w.heap.size + 1, 0, none⟩) (by simp; omega)).trans h4, Nat.le_trans h7 hs.size, h8.trans (hs.mono (by omega))⟩
  case i4 =>
    rintro c pre A B ⟨h1, h3, h7, h8⟩ hs
    exact ⟨h1, (hs.cell (p := ⟨w.heap.size + 1, 0, none⟩) (by simp; omega)).trans h3, Nat.le_trans h7 hs.size, h8.trans (hs.mono (by omega))⟩
  case assign =>
    intro l x W K hK
    gi_wp2
    first | exact hK | (go_simp; exact hK) | (simp; exact hK)
  case body =>
    rintro l pre x W ⟨⟨h0, h1⟩, h2, h3, h4, h7, h8⟩ ⟨m, rfl, hTh, rfl⟩ hlt
    rw [seg_len] at h0 h1
    have hm := hTh m (Nat.lt_succ_self m)
    have hp := pref_iff.1 ((UP.out m).resolve_left hm)
    have hml := LT.out m hm
    have hpl := PL.out
    have hl : (seg cs p m ++ [(up cs m p).toNat]).length = m + 1 := by simp [seg_len]
    obtain ⟨q, hQ⟩ : ∃ q : Nat, up cs m p = (q : Int) := ⟨(up cs m p).toNat, by omega⟩
    have eq : (up cs m p).toNat = q := by omega
    rw [eq] at hl ⊢
    clear hq C hTh
    generalize seg cs p m ++ [q] = pre at *
    by_cases hm : up cs m p = tq
    · have d1 : ((q : Int) == tq) = true := by rw [← hQ]; simpa using hm
      have Y := Lib.hid (leads_yes hml hm)
      clear hm hQ eq hp
      gi_wp2
      exact ⟨Kept.set _ 0 _ (by omega), ⟨rfl, Y.out⟩, World.cell?_setCell_same' _ _ _ (by rw [h3]; rfl), by simp [World.setCell]; omega, h8.setCell (p := ⟨w.heap.size + 1, 0, none⟩) (by simp) _⟩
    · have d1 : ((q : Int) == tq) = false := by rw [← hQ]; simpa using hm
      have H1 : ∀ k, k < pre.length → up cs k p ≠ tq := fun k hk => by
        rw [hl] at hk
        by_cases e : k = m
        · subst e; exact hm
        · exact h1 k (by omega)
      have H1 := Lib.hid H1
      clear hm hQ eq hp h1
      gi_wp2
      exact ⟨Kept.refl _ _, ⟨Nat.le_refl _, rfl, fun _ _ _ => rfl⟩, ⟨by omega, H1.out⟩, h2, h3, h4, h7, h8⟩
  case done =>
    rintro xs W ⟨m, rfl, hTh, hup⟩ ⟨⟨_, h1⟩, h2, h3, h4, h7, h8⟩ hK
    rw [seg_len] at h1
    have hm := plen_there hTh hup
    have L := Lib.hid (leads_no (cs := cs) (p := p) (q := tq) (fun k hk => h1 k (by omega)))
    clear hTh hup h1
    go_wp2
    have k2 : (W.setCell ⟨w.heap.size + 1, 0, none⟩ (.bool false)).heap[w1.heap.size]? = some (.deferred (some [])) := (Below.heap_setCell _ _ _ _ (by simp; omega)).trans hK
    refine ⟨by simp, .inl ⟨_, _, rfl, run_takeDeferred k2, ?_⟩⟩
    have c5 : ((W.setCell ⟨w.heap.size + 1, 0, none⟩ (.bool false)).putObj w1.heap.size (.deferred none)).cell? ⟨w.heap.size + 1, 0, none⟩ = some (.bool false) := (cell_same (World.putObj_heap_other (by omega))).trans (World.cell?_setCell_same' _ _ _ (by rw [h3]; rfl))
    refine ⟨.bool false, ?_, by rw [L.out], (h8.setCell (p := ⟨w.heap.size + 1, 0, none⟩) (by simp) _).trans (below_put (by omega))⟩
    simp [results, Tryd.results73, go_sem, c5]
  case stop =>
    rintro c pre W ⟨m, rfl, hTh, _⟩ ⟨⟨rfl, h1⟩, h3, h7, h8⟩ hK
    have L := Lib.hid h1
    clear h1 hTh
    go_wp2
    refine ⟨by simp, .inl ⟨_, _, rfl, run_takeDeferred hK, ?_⟩⟩
    have c5 : (W.putObj w1.heap.size (.deferred none)).cell? ⟨w.heap.size + 1, 0, none⟩ = some (.bool true) := (cell_same (World.putObj_heap_other (by omega))).trans h3
    refine ⟨.bool true, ?_, by rw [L.out], h8.trans (below_put (by omega))⟩
    simp [results, Tryd.results73, go_sem, c5]
end Go.Proofs.YtcbcggnpbjcdfabDoor
