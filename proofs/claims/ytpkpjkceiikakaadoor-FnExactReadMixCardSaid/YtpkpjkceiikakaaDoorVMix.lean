/- Contracts: is a mix valid, as the program says and as the model does. -/
import Derived.Test.YtpkpjkceiikakaaDoorMix
import Derived.Deep.DeepCutAuto
namespace Go.Proofs.YtpkpjkceiikakaaDoor
open Go.ChangeShapes Go.WideShapes Go.ChangeAt Go.RowKit

theorem mostP_le {z p : Int} : p ≤ mostP z ↔ p ≤ 8 ∧ 2 * p ≤ z := by
  unfold mostP
  split <;> omega

set_option maxHeartbeats 1600000 in
theorem iVM_0 (t z p : Int) (ht : I16 t) (_hz : I16 z) (h0 : t < 0) (w : World) :
    Calls Tryd.prog 49 #[.agg #[.int .i16 t, .int .i16 z, .int .i16 p]] w fun e w' => e = .returned (.bool false) ∧ Below w.heap.size w w' := by
  unfold I16 at ht _hz
  have d0 : decide (0 ≤ t) = false := decide_eq_false (by omega)
  have hbw := cell_bw
  go_enter Tryd.func49, Tryd.ntmps49
  go_upto_region 1 with fail
  refine region_bw (by kernel_rfl) (by kernel_rfl) ?_
  repeat (go_big_quiet_step (fail))
  refine wpQuiet_nil ?_; intro wq hq; replace hq := below_of_bw hq; obtain ⟨qc, qf, qz⟩ := bcell hq
  go_wp2
  go_returns
  exact ⟨rfl, (by repeat' (first | (with_reducible exact Below.refl _ _) | (with_reducible assumption) | (with_reducible refine below_drewN ?_ _) | (with_reducible refine Below.drew ?_) | (with_reducible refine below_new ?_ _) | (with_reducible refine below_next ?_ (by with_reducible assumption)) | (with_reducible refine Below.setCell ?_ ?_ _) | go_size))⟩

set_option maxHeartbeats 1600000 in
theorem iVM_1 (t z p : Int) (_ht : I16 t) (hz : I16 z) (h0 : 0 ≤ t) (h1 : z < 4) (w : World) :
    Calls Tryd.prog 49 #[.agg #[.int .i16 t, .int .i16 z, .int .i16 p]] w fun e w' => e = .returned (.bool false) ∧ Below w.heap.size w w' := by
  unfold I16 at _ht hz
  have d0 : decide (0 ≤ t) = true := decide_eq_true h0
  have d1 : decide (4 ≤ z) = false := decide_eq_false (by omega)
  have hbw := cell_bw
  go_enter Tryd.func49, Tryd.ntmps49
  go_upto_region 1 with fail
  refine region_bw (by kernel_rfl) (by kernel_rfl) ?_
  repeat (go_big_quiet_step (fail))
  refine wpQuiet_nil ?_; intro wq hq; replace hq := below_of_bw hq; obtain ⟨qc, qf, qz⟩ := bcell hq
  go_wp2
  go_returns
  exact ⟨rfl, (by repeat' (first | (with_reducible exact Below.refl _ _) | (with_reducible assumption) | (with_reducible refine below_drewN ?_ _) | (with_reducible refine Below.drew ?_) | (with_reducible refine below_new ?_ _) | (with_reducible refine below_next ?_ (by with_reducible assumption)) | (with_reducible refine Below.setCell ?_ ?_ _) | go_size))⟩

set_option maxHeartbeats 1600000 in
theorem iVM_2 (t z p : Int) (ht : I16 t) (hz : I16 z) (h0 : 0 ≤ t) (h1 : 4 ≤ z) (h2 : 96 < t + z) (w : World) :
    Calls Tryd.prog 49 #[.agg #[.int .i16 t, .int .i16 z, .int .i16 p]] w fun e w' => e = .returned (.bool false) ∧ Below w.heap.size w w' := by
  unfold I16 at ht hz
  have d0 : decide (0 ≤ t) = true := decide_eq_true h0
  have d1 : decide (4 ≤ z) = true := decide_eq_true h1
  have d2 : decide (t + z ≤ 96) = false := decide_eq_false (by omega)
  have hbw := cell_bw
  go_enter Tryd.func49, Tryd.ntmps49
  go_upto_region 1 with fail
  refine region_bw (by kernel_rfl) (by kernel_rfl) ?_
  repeat (go_big_quiet_step (fail))
  refine wpQuiet_nil ?_; intro wq hq; replace hq := below_of_bw hq; obtain ⟨qc, qf, qz⟩ := bcell hq
  go_wp2
  go_returns
  exact ⟨rfl, (by repeat' (first | (with_reducible exact Below.refl _ _) | (with_reducible assumption) | (with_reducible refine below_drewN ?_ _) | (with_reducible refine Below.drew ?_) | (with_reducible refine below_new ?_ _) | (with_reducible refine below_next ?_ (by with_reducible assumption)) | (with_reducible refine Below.setCell ?_ ?_ _) | go_size))⟩

set_option maxHeartbeats 1600000 in
theorem iVM_3 (t z p : Int) (ht : I16 t) (hz : I16 z) (h0 : 0 ≤ t) (h1 : 4 ≤ z) (h2 : t + z ≤ 96) (h3 : p < 1) (w : World) :
    Calls Tryd.prog 49 #[.agg #[.int .i16 t, .int .i16 z, .int .i16 p]] w fun e w' => e = .returned (.bool false) ∧ Below w.heap.size w w' := by
  unfold I16 at ht hz
  have d0 : decide (0 ≤ t) = true := decide_eq_true h0
  have d1 : decide (4 ≤ z) = true := decide_eq_true h1
  have d2 : decide (t + z ≤ 96) = true := decide_eq_true h2
  have d3 : decide (1 ≤ p) = false := decide_eq_false (by omega)
  have hbw := cell_bw
  go_enter Tryd.func49, Tryd.ntmps49
  go_upto_region 1 with fail
  refine region_bw (by kernel_rfl) (by kernel_rfl) ?_
  repeat (go_big_quiet_step (fail))
  refine wpQuiet_nil ?_; intro wq hq; replace hq := below_of_bw hq; obtain ⟨qc, qf, qz⟩ := bcell hq
  go_wp2
  go_returns
  exact ⟨rfl, (by repeat' (first | (with_reducible exact Below.refl _ _) | (with_reducible assumption) | (with_reducible refine below_drewN ?_ _) | (with_reducible refine Below.drew ?_) | (with_reducible refine below_new ?_ _) | (with_reducible refine below_next ?_ (by with_reducible assumption)) | (with_reducible refine Below.setCell ?_ ?_ _) | go_size))⟩

set_option maxHeartbeats 1600000 in
theorem iVM_4 (t z p : Int) (ht : I16 t) (hz : I16 z) (h0 : 0 ≤ t) (h1 : 4 ≤ z) (h2 : t + z ≤ 96) (h3 : 1 ≤ p) (h4 : mostP z < p) (w : World) :
    Calls Tryd.prog 49 #[.agg #[.int .i16 t, .int .i16 z, .int .i16 p]] w fun e w' => e = .returned (.bool false) ∧ Below w.heap.size w w' := by
  unfold I16 at ht hz
  have d0 : decide (0 ≤ t) = true := decide_eq_true h0
  have d1 : decide (4 ≤ z) = true := decide_eq_true h1
  have d2 : decide (t + z ≤ 96) = true := decide_eq_true h2
  have d3 : decide (1 ≤ p) = true := decide_eq_true h3
  have d4 : decide (p ≤ mostP z) = false := decide_eq_false (by omega)
  have hbw := cell_bw
  have M := Lib.hid fun W => iMost_any t z p h1 hz.2 W
  go_enter Tryd.func49, Tryd.ntmps49
  go_upto_region 1 with fail
  refine region_bw (by kernel_rfl) (by kernel_rfl) ?_
  repeat (go_big_quiet_step ((go_at_call 78; exact calls_bw (M.out _))))
  refine wpQuiet_nil ?_; intro wq hq; replace hq := below_of_bw hq; obtain ⟨qc, qf, qz⟩ := bcell hq
  go_wp2
  go_returns
  exact ⟨rfl, (by repeat' (first | (with_reducible exact Below.refl _ _) | (with_reducible assumption) | (with_reducible refine below_drewN ?_ _) | (with_reducible refine Below.drew ?_) | (with_reducible refine below_new ?_ _) | (with_reducible refine below_next ?_ (by with_reducible assumption)) | (with_reducible refine Below.setCell ?_ ?_ _) | go_size))⟩

set_option maxHeartbeats 1600000 in
theorem iVM_5 (t z p : Int) (ht : I16 t) (hz : I16 z) (h0 : 0 ≤ t) (h1 : 4 ≤ z) (h2 : t + z ≤ 96) (h3 : 1 ≤ p) (h4 : p ≤ mostP z) (w : World) :
    Calls Tryd.prog 49 #[.agg #[.int .i16 t, .int .i16 z, .int .i16 p]] w fun e w' => e = .returned (.bool true) ∧ Below w.heap.size w w' := by
  unfold I16 at ht hz
  have d0 : decide (0 ≤ t) = true := decide_eq_true h0
  have d1 : decide (4 ≤ z) = true := decide_eq_true h1
  have d2 : decide (t + z ≤ 96) = true := decide_eq_true h2
  have d3 : decide (1 ≤ p) = true := decide_eq_true h3
  have d4 : decide (p ≤ mostP z) = true := decide_eq_true h4
  have hbw := cell_bw
  have M := Lib.hid fun W => iMost_any t z p h1 hz.2 W
  go_enter Tryd.func49, Tryd.ntmps49
  go_upto_region 1 with fail
  refine region_bw (by kernel_rfl) (by kernel_rfl) ?_
  repeat (go_big_quiet_step ((go_at_call 78; exact calls_bw (M.out _))))
  refine wpQuiet_nil ?_; intro wq hq; replace hq := below_of_bw hq; obtain ⟨qc, qf, qz⟩ := bcell hq
  go_wp2
  go_returns
  exact ⟨rfl, (by repeat' (first | (with_reducible exact Below.refl _ _) | (with_reducible assumption) | (with_reducible refine below_drewN ?_ _) | (with_reducible refine Below.drew ?_) | (with_reducible refine below_new ?_ _) | (with_reducible refine below_next ?_ (by with_reducible assumption)) | (with_reducible refine Below.setCell ?_ ?_ _) | go_size))⟩

theorem iValidMix_any (t z p : Int) (ht : I16 t) (hz : I16 z) (w : World) :
    Calls Tryd.prog 49 #[.agg #[.int .i16 t, .int .i16 z, .int .i16 p]] w fun e w' => e = .returned (.bool (mixOk t z p)) ∧ Below w.heap.size w w' := by
  have key : ∀ b : Bool, mixOk t z p = b → (Calls Tryd.prog 49 #[.agg #[.int .i16 t, .int .i16 z, .int .i16 p]] w fun e w' => e = .returned (.bool b) ∧ Below w.heap.size w w') → Calls Tryd.prog 49 #[.agg #[.int .i16 t, .int .i16 z, .int .i16 p]] w fun e w' => e = .returned (.bool (mixOk t z p)) ∧ Below w.heap.size w w' := fun b hb h => by rw [hb]; exact h
  by_cases h0 : 0 ≤ t
  · by_cases h1 : 4 ≤ z
    · by_cases h2 : t + z ≤ 96
      · by_cases h3 : 1 ≤ p
        · by_cases h4 : p ≤ mostP z
          · exact key true (mix_yes ⟨h0, h1, h2, h3, mostP_le.1 h4⟩) (iVM_5 t z p ht hz h0 h1 h2 h3 h4 w)
          · exact key false (mix_no fun h => h4 (mostP_le.2 ⟨h.2.2.2.2.1, h.2.2.2.2.2⟩)) (iVM_4 t z p ht hz h0 h1 h2 h3 (by omega) w)
        · exact key false (mix_no fun h => h3 h.2.2.2.1) (iVM_3 t z p ht hz h0 h1 h2 (by omega) w)
      · exact key false (mix_no fun h => h2 h.2.2.1) (iVM_2 t z p ht hz h0 h1 (by omega) w)
    · exact key false (mix_no fun h => h1 h.2.1) (iVM_1 t z p ht hz h0 (by omega) w)
  · exact key false (mix_no fun h => h0 h.1) (iVM_0 t z p ht hz (by omega) w)

set_option maxHeartbeats 1600000 in
theorem sVM_0 (t z p : Int) (_ht : I16 t) (hz : I16 z) (_hp : I16 p) (h0 : ¬ (4 ≤ z ∧ z ≤ 96)) (g o : Nat) (w : World) (c0 : w.cell? ⟨g, o, none⟩ = some (.int .i16 t)) (c1 : w.cell? ⟨g, o + 1, none⟩ = some (.int .i16 z)) (_c2 : w.cell? ⟨g, o + 2, none⟩ = some (.int .i16 p)) :
    Calls Tryd.prog 23 #[.pointer (some ⟨g, o, none⟩)] w fun e w' => e = .returned (.bool false) ∧ Below w.heap.size w w' := by
  unfold I16 at _ht hz _hp
  have hg : g < w.heap.size := World.block_lt_of_cell? _ _ c0
  have S0 := Lib.hid fun W => sInM_f h0 W
  have hbw := cell_bw
  go_enter Tryd.func23, Tryd.ntmps23
  go_upto_region 1 with fail
  refine region_bw (by kernel_rfl) (by kernel_rfl) ?_
  repeat (go_big_quiet_step (first | (go_at_call_of 45 (Value.int IntKind.i64 z); exact calls_bw_same (S0.out _))))
  refine wpQuiet_nil ?_; intro wq hq; replace hq := below_of_bw hq; obtain ⟨qc, qf, qz⟩ := bcell hq
  go_wp2
  go_returns
  exact ⟨rfl, (by repeat' (first | (with_reducible exact Below.refl _ _) | (with_reducible assumption) | (with_reducible refine below_drewN ?_ _) | (with_reducible refine Below.drew ?_) | (with_reducible refine below_new ?_ _) | (with_reducible refine below_next ?_ (by with_reducible assumption)) | (with_reducible refine Below.setCell ?_ ?_ _) | go_size))⟩

set_option maxHeartbeats 1600000 in
theorem sVM_1 (t z p : Int) (_ht : I16 t) (hz : I16 z) (hp : I16 p) (h0 : 4 ≤ z ∧ z ≤ 96) (h1 : ¬ (1 ≤ p ∧ p ≤ 8)) (g o : Nat) (w : World) (c0 : w.cell? ⟨g, o, none⟩ = some (.int .i16 t)) (c1 : w.cell? ⟨g, o + 1, none⟩ = some (.int .i16 z)) (c2 : w.cell? ⟨g, o + 2, none⟩ = some (.int .i16 p)) :
    Calls Tryd.prog 23 #[.pointer (some ⟨g, o, none⟩)] w fun e w' => e = .returned (.bool false) ∧ Below w.heap.size w w' := by
  unfold I16 at _ht hz hp
  have hg : g < w.heap.size := World.block_lt_of_cell? _ _ c0
  have S0 := Lib.hid fun W => sInM_t h0 W
  have S1 := Lib.hid fun W => sInM_f h1 W
  have hbw := cell_bw
  go_enter Tryd.func23, Tryd.ntmps23
  go_upto_region 1 with fail
  refine region_bw (by kernel_rfl) (by kernel_rfl) ?_
  repeat (go_big_quiet_step (first | (go_at_call_of 45 (Value.int IntKind.i64 z); exact calls_bw_same (S0.out _)) | (go_at_call_of 45 (Value.int IntKind.i64 p); exact calls_bw_same (S1.out _))))
  refine wpQuiet_nil ?_; intro wq hq; replace hq := below_of_bw hq; obtain ⟨qc, qf, qz⟩ := bcell hq
  go_wp2
  go_returns
  exact ⟨rfl, (by repeat' (first | (with_reducible exact Below.refl _ _) | (with_reducible assumption) | (with_reducible refine below_drewN ?_ _) | (with_reducible refine Below.drew ?_) | (with_reducible refine below_new ?_ _) | (with_reducible refine below_next ?_ (by with_reducible assumption)) | (with_reducible refine Below.setCell ?_ ?_ _) | go_size))⟩

set_option maxHeartbeats 1600000 in
theorem sVM_2 (t z p : Int) (_ht : I16 t) (hz : I16 z) (hp : I16 p) (h0 : 4 ≤ z ∧ z ≤ 96) (h1 : 1 ≤ p ∧ p ≤ 8) (h2 : z < 2 * p) (g o : Nat) (w : World) (c0 : w.cell? ⟨g, o, none⟩ = some (.int .i16 t)) (c1 : w.cell? ⟨g, o + 1, none⟩ = some (.int .i16 z)) (c2 : w.cell? ⟨g, o + 2, none⟩ = some (.int .i16 p)) :
    Calls Tryd.prog 23 #[.pointer (some ⟨g, o, none⟩)] w fun e w' => e = .returned (.bool false) ∧ Below w.heap.size w w' := by
  unfold I16 at _ht hz hp
  have hg : g < w.heap.size := World.block_lt_of_cell? _ _ c0
  have S0 := Lib.hid fun W => sInM_t h0 W
  have S1 := Lib.hid fun W => sInM_t h1 W
  have d2 : decide (2 * p ≤ z) = false := decide_eq_false (by omega)
  obtain ⟨p1, p8⟩ := h1
  have hbw := cell_bw
  go_enter Tryd.func23, Tryd.ntmps23
  go_upto_region 1 with fail
  refine region_bw (by kernel_rfl) (by kernel_rfl) ?_
  repeat (go_big_quiet_step (first | (go_at_call_of 45 (Value.int IntKind.i64 z); exact calls_bw_same (S0.out _)) | (go_at_call_of 45 (Value.int IntKind.i64 p); exact calls_bw_same (S1.out _))))
  refine wpQuiet_nil ?_; intro wq hq; replace hq := below_of_bw hq; obtain ⟨qc, qf, qz⟩ := bcell hq
  go_wp2
  go_returns
  exact ⟨rfl, (by repeat' (first | (with_reducible exact Below.refl _ _) | (with_reducible assumption) | (with_reducible refine below_drewN ?_ _) | (with_reducible refine Below.drew ?_) | (with_reducible refine below_new ?_ _) | (with_reducible refine below_next ?_ (by with_reducible assumption)) | (with_reducible refine Below.setCell ?_ ?_ _) | go_size))⟩

set_option maxHeartbeats 1600000 in
theorem sVM_3 (t z p : Int) (ht : I16 t) (hz : I16 z) (hp : I16 p) (h0 : 4 ≤ z ∧ z ≤ 96) (h1 : 1 ≤ p ∧ p ≤ 8) (h2 : 2 * p ≤ z) (h3 : ¬ (0 ≤ t ∧ t ≤ 96 - z)) (g o : Nat) (w : World) (c0 : w.cell? ⟨g, o, none⟩ = some (.int .i16 t)) (c1 : w.cell? ⟨g, o + 1, none⟩ = some (.int .i16 z)) (c2 : w.cell? ⟨g, o + 2, none⟩ = some (.int .i16 p)) :
    Calls Tryd.prog 23 #[.pointer (some ⟨g, o, none⟩)] w fun e w' => e = .returned (.bool false) ∧ Below w.heap.size w w' := by
  unfold I16 at ht hz hp
  have hg : g < w.heap.size := World.block_lt_of_cell? _ _ c0
  have S0 := Lib.hid fun W => sInM_t h0 W
  have S1 := Lib.hid fun W => sInM_t h1 W
  have d2 : decide (2 * p ≤ z) = true := decide_eq_true h2
  have S3 := Lib.hid fun W => sInM_f h3 W
  obtain ⟨p1, p8⟩ := h1
  have hbw := cell_bw
  go_enter Tryd.func23, Tryd.ntmps23
  go_upto_region 1 with fail
  refine region_bw (by kernel_rfl) (by kernel_rfl) ?_
  repeat (go_big_quiet_step (first | (go_at_call_of 45 (Value.int IntKind.i64 z); exact calls_bw_same (S0.out _)) | (go_at_call_of 45 (Value.int IntKind.i64 p); exact calls_bw_same (S1.out _)) | (go_at_call_of 45 (Value.int IntKind.i64 t); exact calls_bw_same (S3.out _))))
  refine wpQuiet_nil ?_; intro wq hq; replace hq := below_of_bw hq; obtain ⟨qc, qf, qz⟩ := bcell hq
  go_wp2
  go_returns
  exact ⟨rfl, (by repeat' (first | (with_reducible exact Below.refl _ _) | (with_reducible assumption) | (with_reducible refine below_drewN ?_ _) | (with_reducible refine Below.drew ?_) | (with_reducible refine below_new ?_ _) | (with_reducible refine below_next ?_ (by with_reducible assumption)) | (with_reducible refine Below.setCell ?_ ?_ _) | go_size))⟩

set_option maxHeartbeats 1600000 in
theorem sVM_4 (t z p : Int) (ht : I16 t) (hz : I16 z) (hp : I16 p) (h0 : 4 ≤ z ∧ z ≤ 96) (h1 : 1 ≤ p ∧ p ≤ 8) (h2 : 2 * p ≤ z) (h3 : 0 ≤ t ∧ t ≤ 96 - z) (g o : Nat) (w : World) (c0 : w.cell? ⟨g, o, none⟩ = some (.int .i16 t)) (c1 : w.cell? ⟨g, o + 1, none⟩ = some (.int .i16 z)) (c2 : w.cell? ⟨g, o + 2, none⟩ = some (.int .i16 p)) :
    Calls Tryd.prog 23 #[.pointer (some ⟨g, o, none⟩)] w fun e w' => e = .returned (.bool true) ∧ Below w.heap.size w w' := by
  unfold I16 at ht hz hp
  have hg : g < w.heap.size := World.block_lt_of_cell? _ _ c0
  have S0 := Lib.hid fun W => sInM_t h0 W
  have S1 := Lib.hid fun W => sInM_t h1 W
  have d2 : decide (2 * p ≤ z) = true := decide_eq_true h2
  have S3 := Lib.hid fun W => sInM_t h3 W
  obtain ⟨p1, p8⟩ := h1
  have hbw := cell_bw
  go_enter Tryd.func23, Tryd.ntmps23
  go_upto_region 1 with fail
  refine region_bw (by kernel_rfl) (by kernel_rfl) ?_
  repeat (go_big_quiet_step (first | (go_at_call_of 45 (Value.int IntKind.i64 z); exact calls_bw_same (S0.out _)) | (go_at_call_of 45 (Value.int IntKind.i64 p); exact calls_bw_same (S1.out _)) | (go_at_call_of 45 (Value.int IntKind.i64 t); exact calls_bw_same (S3.out _))))
  refine wpQuiet_nil ?_; intro wq hq; replace hq := below_of_bw hq; obtain ⟨qc, qf, qz⟩ := bcell hq
  go_wp2
  go_returns
  exact ⟨rfl, (by repeat' (first | (with_reducible exact Below.refl _ _) | (with_reducible assumption) | (with_reducible refine below_drewN ?_ _) | (with_reducible refine Below.drew ?_) | (with_reducible refine below_new ?_ _) | (with_reducible refine below_next ?_ (by with_reducible assumption)) | (with_reducible refine Below.setCell ?_ ?_ _) | go_size))⟩

theorem sOkMix_any (t z p : Int) (ht : I16 t) (hz : I16 z) (hp : I16 p) (g o : Nat) (w : World) (c0 : w.cell? ⟨g, o, none⟩ = some (.int .i16 t)) (c1 : w.cell? ⟨g, o + 1, none⟩ = some (.int .i16 z)) (c2 : w.cell? ⟨g, o + 2, none⟩ = some (.int .i16 p)) :
    Calls Tryd.prog 23 #[.pointer (some ⟨g, o, none⟩)] w fun e w' => e = .returned (.bool (mixOk t z p)) ∧ Below w.heap.size w w' := by
  have key : ∀ b : Bool, mixOk t z p = b → (Calls Tryd.prog 23 #[.pointer (some ⟨g, o, none⟩)] w fun e w' => e = .returned (.bool b) ∧ Below w.heap.size w w') → Calls Tryd.prog 23 #[.pointer (some ⟨g, o, none⟩)] w fun e w' => e = .returned (.bool (mixOk t z p)) ∧ Below w.heap.size w w' := fun b hb h => by rw [hb]; exact h
  by_cases h0 : 4 ≤ z ∧ z ≤ 96
  · by_cases h1 : 1 ≤ p ∧ p ≤ 8
    · by_cases h2 : 2 * p ≤ z
      · by_cases h3 : 0 ≤ t ∧ t ≤ 96 - z
        · exact key true (mix_yes ⟨h3.1, h0.1, by omega, h1.1, h1.2, h2⟩) (sVM_4 t z p ht hz hp h0 h1 h2 h3 g o w c0 c1 c2)
        · exact key false (mix_no fun h => h3 (by omega)) (sVM_3 t z p ht hz hp h0 h1 h2 h3 g o w c0 c1 c2)
      · exact key false (mix_no fun h => h2 (by omega)) (sVM_2 t z p ht hz hp h0 h1 (by omega) g o w c0 c1 c2)
    · exact key false (mix_no fun h => h1 (by omega)) (sVM_1 t z p ht hz hp h0 h1 g o w c0 c1 c2)
  · exact key false (mix_no fun h => h0 (by omega)) (sVM_0 t z p ht hz hp h0 g o w c0 c1 c2)

end Go.Proofs.YtpkpjkceiikakaaDoor