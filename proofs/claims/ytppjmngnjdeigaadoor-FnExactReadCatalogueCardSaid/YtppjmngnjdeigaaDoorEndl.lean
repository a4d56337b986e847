/- Contract: does the path of an entry go on in a circle, the program's. -/
import Derived.Test.YtppjmngnjdeigaaDoorPath
namespace Go.Proofs.YtppjmngnjdeigaaDoor
open Go.ChangeShapes Go.WideShapes Go.ChangeAt Go.RowKit
attribute [local go_sem] Oper.semAt_some

set_option maxRecDepth 100000 in
set_option maxHeartbeats 2000000 in
theorem endless_any (ad : Option Addr) (cs : List Et) (c : Nat) (j : Nat) (hj : j < cs.length) (hn : cs.length ≤ 1048576) (hT : eTo cs cs.length = true) (w : World) (hc : EntsIn w ad cs) :
    Calls Tryd.prog 112 #[.slice ad cs.length c, .int .i64 j] w fun e w' => e = .returned (.bool (!decide (up cs cs.length (firstE cs j) = -1))) ∧ Below w.heap.size w w' := by
  have V := Lib.hid fun W => path_any ad cs.length c (j : Int) W
  have C := Lib.hid hc
  have PB := Lib.hid fun bc bi W h => path_by bc bi ad cs c j hj (by omega) hT cs.length W h
  clear hc
  generalize firstE cs j = p at *
  refine (callsIn_wide (n := 0)).1 (callsIn_of_wp_marks Tryd.func112 rfl trivial ?_ rfl)
  simp only [Tryd.ntmps112, List.size_toArray, List.length_cons, List.length_nil, Nat.reduceAdd, Nat.reduceSub, Array.replicate_succ, Array.replicate_zero, List.push_toArray, List.append_toArray, List.nil_append, List.cons_append]
  refine wpIn_wide.2 ?_
  go_wp2_with (go_at_call 138; refine (V.out _).mono ?_; rintro e w1 ⟨rfl, p1, p2, hz, hB⟩; have P1 := Lib.hid p1; have P2 := Lib.hid p2; have BB := Lib.hid hB; clear p1 p2 hB)
  obtain ⟨_, b1, o1, rfl, hb1, _⟩ := C.out j hj
  have B3 : Below w.heap.size w (((w.alloc (.cells #[.slice (some ⟨b1, o1, none⟩) cs.length c] 156)).alloc (.cells #[.bool false] 4)).alloc (.cells #[.int .i64 0] 3)) := below_new (below_new (below_new (Below.refl _ _) _) _) _
  have B0 : Below w.heap.size w w1 := B3.trans (BB.out.mono (by simp; omega))
  have c0 : w1.cell? ⟨w.heap.size, 0, none⟩ = some (.slice (some ⟨b1, o1, none⟩) cs.length c) := (BB.out.cell (p := ⟨w.heap.size, 0, none⟩) (by simp; omega)).trans ((box3_0 ..).trans rfl)
  have c1 : w1.cell? ⟨w.heap.size + 1, 0, none⟩ = some (.bool false) := (BB.out.cell (p := ⟨w.heap.size + 1, 0, none⟩) (by simp)).trans ((box3_1 ..).trans rfl)
  have c2 : w1.cell? ⟨w.heap.size + 1 + 1, 0, none⟩ = some (.int .i64 0) := (BB.out.cell (p := ⟨w.heap.size + 1 + 1, 0, none⟩) (by simp)).trans ((box3_2 ..).trans rfl)
  have f1 : w1.frozen? ⟨w.heap.size + 1, 0, none⟩ = false := (BB.out.frozen (p := ⟨w.heap.size + 1, 0, none⟩) (by simp)).trans (box3f_1 ..)
  have f2 : w1.frozen? ⟨w.heap.size + 1 + 1, 0, none⟩ = false := (BB.out.frozen (p := ⟨w.heap.size + 1 + 1, 0, none⟩) (by simp)).trans (box3f_2 ..)
  have g0 : w1.heap.size = w.heap.size + 5 := by rw [hz]; simp
  have hq := PB.out _ _ w1 ⟨by simp; omega, by simp; omega, P1.out, P2.out, entsIn_below C.out B0⟩
  simp only [World.size_alloc] at hq
  clear PB P1 P2 BB B3 V hz
  refine wp_range rfl (enters_of Tryd.func152 (by kernel_rfl) rfl) hq (fun _ => rfl) KpP.trans
    (fun A B hAB => ⟨hAB.size, hAB.block _ (by omega), fun b o e => by cases e; exact hAB.block _ (by omega)⟩) (fun A B hAB k _ hk2 => hAB.block k hk2)
    (fun pre W => pre.length ≤ cs.length ∧ W.cell? ⟨w.heap.size, 0, none⟩ = some (.slice (some ⟨b1, o1, none⟩) cs.length c) ∧ W.cell? ⟨w.heap.size + 1, 0, none⟩ = some (.bool false) ∧ W.frozen? ⟨w.heap.size + 1, 0, none⟩ = false ∧ W.cell? ⟨w.heap.size + 1 + 1, 0, none⟩ = some (.int .i64 pre.length) ∧ W.frozen? ⟨w.heap.size + 1 + 1, 0, none⟩ = false ∧ w1.heap.size ≤ W.heap.size ∧ Below w.heap.size w W)
    (fun c pre W => (c = .ret ∧ pre.length = cs.length + 1) ∧ W.cell? ⟨w.heap.size + 1, 0, none⟩ = some (.bool true) ∧ w1.heap.size ≤ W.heap.size ∧ Below w.heap.size w W)
    ?i1 ?i2 ?i3 ?i4 (fun _ _ h => h.1) ⟨Nat.zero_le _, c0, c1, f1, c2, f2, Nat.le_refl _, B0⟩
    (fun q => { tmps := #[.slice (some ⟨b1, o1, none⟩) cs.length c, .int .i64 j, .pointer (some ⟨w.heap.size, 0, none⟩), undef, .pointer (some ⟨w.heap.size + 1, 0, none⟩), .pointer (some ⟨w.heap.size + 1 + 1, 0, none⟩), .slice (some ⟨b1, o1, none⟩) cs.length c, .int .i64 j, .func (.func 152) #[] #[.pointer (some ⟨w.heap.size + 1 + 1 + 1, 0, none⟩), .pointer (some ⟨w.heap.size + 1 + 1 + 1 + 1, 0, none⟩)], .int .i64 q, etVal (etAt cs q), undef, undef, undef, undef, undef, undef], defers := [] }) ?assign ?body ?done ?stop
  case i1 =>
    rintro pre A B ⟨h1, h2, h3, h4, h5, h6, h7, h8⟩ hs
    exact ⟨h1, (hs.cell (p := ⟨w.heap.size, 0, none⟩) (by simp; omega)).trans h2, (hs.cell (p := ⟨w.heap.size + 1, 0, none⟩) (by simp; omega)).trans h3, (hs.frozen (p := ⟨w.heap.size + 1, 0, none⟩) (by simp; omega)).trans h4, (hs.cell (p := ⟨w.heap.size + 1 + 1, 0, none⟩) (by simp; omega)).trans h5, (hs.frozen (p := ⟨w.heap.size + 1 + 1, 0, none⟩) (by simp; omega)).trans h6, Nat.le_trans h7 hs.size, h8.trans (hs.mono (by omega))⟩
  case i2 =>
    rintro c pre A B ⟨h1, h3, h7, h8⟩ hs
    exact ⟨h1, (hs.cell (p := ⟨w.heap.size + 1, 0, none⟩) (by simp; omega)).trans h3, Nat.le_trans h7 hs.size, h8.trans (hs.mono (by omega))⟩
  case i3 =>
    rintro pre A B ⟨h1, h2, h3, h4, h5, h6, h7, h8⟩ hs
    exact ⟨h1, (hs.cell (p := ⟨w.heap.size, 0, none⟩) (by simp; omega)).trans h2, (hs.cell (p := ⟨w.heap.size + 1, 0, none⟩) (by simp; omega)).trans h3, (hs.frozen (p := ⟨w.heap.size + 1, 0, none⟩) (by simp; omega)).trans h4, (hs.cell (p := ⟨w.heap.size + 1 + 1, 0, none⟩) (by simp; omega)).trans h5, (hs.frozen (p := ⟨w.heap.size + 1 + 1, 0, none⟩) (by simp; omega)).trans h6, Nat.le_trans h7 hs.size, h8.trans (hs.mono (by omega))⟩
  case i4 =>
    rintro c pre A B ⟨h1, h3, h7, h8⟩ hs
    exact ⟨h1, (hs.cell (p := ⟨w.heap.size + 1, 0, none⟩) (by simp; omega)).trans h3, Nat.le_trans h7 hs.size, h8.trans (hs.mono (by omega))⟩
  case assign =>
    intro l x W K hK
    gi_wp2
    first | exact hK | (go_simp; exact hK) | (simp; exact hK)
  case body =>
    rintro l pre x W ⟨h1, h2, h3, h4, h5, h6, h7, h8⟩ _ hlt
    have hl : (pre ++ [x]).length = pre.length + 1 := by simp
    have hw : IntKind.i64.wrap ((pre.length : Int) + 1) = (pre.length : Int) + 1 := IntWalk.i64_in _ (by omega)
    have s1 : (W.setCell ⟨w.heap.size + 1 + 1, 0, none⟩ (.int .i64 ((pre.length : Int) + 1))).cell? ⟨w.heap.size + 1 + 1, 0, none⟩ = some (.int .i64 ((pre.length : Int) + 1)) := World.cell?_setCell_same' _ _ _ (by rw [h5]; rfl)
    have s2 : (W.setCell ⟨w.heap.size + 1 + 1, 0, none⟩ (.int .i64 ((pre.length : Int) + 1))).cell? ⟨w.heap.size, 0, none⟩ = some (.slice (some ⟨b1, o1, none⟩) cs.length c) := (World.cell?_setCell_other _ _ _ _ (by intro hc; simp at hc <;> omega)).trans h2
    have s3 : (W.setCell ⟨w.heap.size + 1 + 1, 0, none⟩ (.int .i64 ((pre.length : Int) + 1))).cell? ⟨w.heap.size + 1, 0, none⟩ = some (.bool false) := (World.cell?_setCell_other _ _ _ _ (by intro hc; simp at hc <;> omega)).trans h3
    have Kx := (Kept.set W 0 (.int .i64 ((pre.length : Int) + 1)) (show w.heap.size + 1 + 1 < w1.heap.size by omega))
    have Bx := h8.setCell (p := ⟨w.heap.size + 1 + 1, 0, none⟩) (by simp; omega) (.int .i64 ((pre.length : Int) + 1))
    clear hq C
    by_cases hm : pre.length = cs.length
    · have d1 : decide ((cs.length : Int) < (pre.length : Int) + 1) = true := decide_eq_true (by omega)
      gi_wp2
      rw [hm] at s3 Kx Bx
      exact ⟨Kx.trans (Kept.set _ 0 _ (by omega)), ⟨rfl, by rw [hl, hm]⟩, World.cell?_setCell_same' _ _ _ (by rw [s3]; rfl), by simp [World.setCell]; omega, Bx.setCell (p := ⟨w.heap.size + 1, 0, none⟩) (by simp) _⟩
    · have d1 : decide ((cs.length : Int) < (pre.length : Int) + 1) = false := decide_eq_false (by omega)
      gi_wp2
      exact ⟨Kx, ⟨by simp [World.setCell], Below.heap_setCell _ _ _ _ (by simp), fun b o e => by cases e; exact Below.heap_setCell _ _ _ _ (by simp; omega)⟩, by omega, s2, s3, by rw [World.frozen?_setCell]; exact h4, by rw [hl, Int.natCast_succ]; exact s1, by rw [World.frozen?_setCell]; exact h6, by simp [World.setCell]; omega, Bx⟩
  case done =>
    rintro xs W ⟨m, rfl, hTh, hup⟩ ⟨h1, h2, h3, h4, h5, h6, h7, h8⟩ hK
    rw [seg_len] at h1
    have hup2 : up cs cs.length p = -1 := by have := up_stay hup (cs.length - m); rwa [show m + (cs.length - m) = cs.length by omega] at this
    go_wp2
    have k2 : (W.setCell ⟨w.heap.size + 1, 0, none⟩ (.bool false)).heap[w1.heap.size]? = some (.deferred (some [])) := (Below.heap_setCell _ _ _ _ (by simp; omega)).trans hK
    refine ⟨by simp, .inl ⟨_, _, rfl, run_takeDeferred k2, ?_⟩⟩
    have c5 : ((W.setCell ⟨w.heap.size + 1, 0, none⟩ (.bool false)).putObj w1.heap.size (.deferred none)).cell? ⟨w.heap.size + 1, 0, none⟩ = some (.bool false) := (cell_same (World.putObj_heap_other (by omega))).trans (World.cell?_setCell_same' _ _ _ (by rw [h3]; rfl))
    refine ⟨.bool false, ?_, by rw [decide_eq_true hup2]; rfl, (h8.setCell (p := ⟨w.heap.size + 1, 0, none⟩) (by simp) _).trans (below_put (by omega))⟩
    simp [results, Tryd.results112, go_sem, c5]
  case stop =>
    rintro c pre W ⟨m, rfl, hTh, _⟩ ⟨⟨rfl, h1⟩, h3, h7, h8⟩ hK
    rw [seg_len] at h1
    have hup2 : up cs cs.length p ≠ -1 := hTh _ (by omega)
    go_wp2
    refine ⟨by simp, .inl ⟨_, _, rfl, run_takeDeferred hK, ?_⟩⟩
    have c5 : (W.putObj w1.heap.size (.deferred none)).cell? ⟨w.heap.size + 1, 0, none⟩ = some (.bool true) := (cell_same (World.putObj_heap_other (by omega))).trans h3
    refine ⟨.bool true, ?_, by rw [decide_eq_false hup2]; rfl, h8.trans (below_put (by omega))⟩
    simp [results, Tryd.results112, go_sem, c5]
end Go.Proofs.YtppjmngnjdeigaaDoor
