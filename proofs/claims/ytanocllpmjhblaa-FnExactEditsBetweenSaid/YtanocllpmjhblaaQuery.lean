/- Contracts: is a query valid; what it drops. -/
import Derived.Test.YtanocllpmjhblaaHole
import Derived.Test.YtanocllpmjhblaaCard
import Derived.Test.YtanocllpmjhblaaQuiet
namespace Go.Proofs.Ytanocllpmjhblaa
open Go.ChangeShapes Go.WideShapes Go.ChangeAt Go.RowKit

/-- No hole in both masks. -/
def meetZ (a b c d : Int) : Bool := bits .and .u64 a c == 0 && bits .and .u64 b d == 0
def qOk (a b c d : Int) : Bool := maskOk b && maskOk d && meetZ a b c d
theorem qOk_1 {b : Int} (a c d : Int) (h : (b / 4294967296 == 0) = false) : qOk a b c d = false := by unfold qOk maskOk; simp [h]
theorem qOk_2 {d : Int} (a b c : Int) (h : (d / 4294967296 == 0) = false) : qOk a b c d = false := by unfold qOk maskOk; simp [h]
theorem qOk_3 {b d : Int} (a c : Int) (h1 : (b / 4294967296 == 0) = true) (h2 : (d / 4294967296 == 0) = true) : qOk a b c d = meetZ a b c d := by unfold qOk maskOk; simp [h1, h2]

theorem sMeet_below (a b c d : Int) (w : World) : Calls Try.prog 113 #[.agg #[.int .u64 a, .int .u64 b], .agg #[.int .u64 c, .int .u64 d]] w fun e w' => e = .returned (.agg #[.int .u64 (bits .and .u64 a c), .int .u64 (bits .and .u64 b d)]) ∧ Below w.heap.size w w' :=
  (sMeet_any a b c d w).mono fun e w' ⟨he, hw⟩ => ⟨he, by subst hw; exact (by repeat' (first | (with_reducible exact Below.refl _ _) | (with_reducible assumption) | (with_reducible refine below_drewN ?_ _) | (with_reducible refine Below.drew ?_) | (with_reducible refine below_new ?_ _) | (with_reducible refine below_next ?_ (by with_reducible assumption)) | (with_reducible refine Below.setCell ?_ ?_ _) | go_size))⟩
set_option maxHeartbeats 1600000 in
theorem iQOk_any (a b c d : Int) (w : World) :
    Calls Try.prog 70 #[.agg #[.int .u64 a, .int .u64 b, .int .u64 c, .int .u64 d]] w fun e w' => e = .returned (.bool (qOk a b c d)) ∧ Below w.heap.size w w' := by
  cases h1 : (b / 4294967296 == 0)
  · have f := Lib.hid (qOk_1 a c d h1)
    go_enter Try.func70, Try.ntmps70
    go_wp2
    go_returns
    exact ⟨ret_bool f.out.symm, (by repeat' (first | (with_reducible exact Below.refl _ _) | (with_reducible assumption) | (with_reducible refine below_drewN ?_ _) | (with_reducible refine Below.drew ?_) | (with_reducible refine below_new ?_ _) | (with_reducible refine below_next ?_ (by with_reducible assumption)) | (with_reducible refine Below.setCell ?_ ?_ _) | go_size))⟩
  · cases h2 : (d / 4294967296 == 0)
    · have f := Lib.hid (qOk_2 a b c h2)
      go_enter Try.func70, Try.ntmps70
      go_wp2
      go_returns
      exact ⟨ret_bool f.out.symm, (by repeat' (first | (with_reducible exact Below.refl _ _) | (with_reducible assumption) | (with_reducible refine below_drewN ?_ _) | (with_reducible refine Below.drew ?_) | (with_reducible refine below_new ?_ _) | (with_reducible refine below_next ?_ (by with_reducible assumption)) | (with_reducible refine Below.setCell ?_ ?_ _) | go_size))⟩
    · have f := Lib.hid (qOk_3 a c h1 h2)
      have he := eq_mask
      go_enter Try.func70, Try.ntmps70
      go_wp2_with (first | (go_at_call 116; refine (iMeet_any _ _ _ _ _).mono ?_; rintro e w1 ⟨rfl, rfl⟩) | go_in)
      go_returns
      exact ⟨ret_bool f.out.symm, (by repeat' (first | (with_reducible exact Below.refl _ _) | (with_reducible assumption) | (with_reducible refine below_drewN ?_ _) | (with_reducible refine Below.drew ?_) | (with_reducible refine below_new ?_ _) | (with_reducible refine below_next ?_ (by with_reducible assumption)) | (with_reducible refine Below.setCell ?_ ?_ _) | go_size))⟩
theorem sMask_any (a b : Int) (w : World) : Calls Try.prog 94 #[.agg #[.int .u64 a, .int .u64 b]] w fun e w' => e = .returned (.bool (b / 4294967296 == 0)) ∧ Below w.heap.size w w' := by
  go_enter Try.func94, Try.ntmps94
  go_wp2
  go_returns
  exact ⟨rfl, (by repeat' (first | (with_reducible exact Below.refl _ _) | (with_reducible assumption) | (with_reducible refine below_drewN ?_ _) | (with_reducible refine Below.drew ?_) | (with_reducible refine below_new ?_ _) | (with_reducible refine below_next ?_ (by with_reducible assumption)) | (with_reducible refine Below.setCell ?_ ?_ _) | go_size))⟩
theorem sMask_is {b : Int} (a : Int) {x : Bool} (h : (b / 4294967296 == 0) = x) : Hid (∀ w : World, Calls Try.prog 94 #[.agg #[.int .u64 a, .int .u64 b]] w fun e w' => e = .returned (.bool x) ∧ Below w.heap.size w w') := Lib.hid fun w => by rw [← h]; exact sMask_any a b w
set_option maxHeartbeats 1600000 in
theorem sQOk_any (a b c d : Int) (g o : Nat) (w : World) (h0 : w.cell? ⟨g, o, none⟩ = some (.int .u64 a)) (h1 : w.cell? ⟨g, o + 1, none⟩ = some (.int .u64 b)) (h2 : w.cell? ⟨g, o + 2, none⟩ = some (.int .u64 c)) (h3 : w.cell? ⟨g, o + 3, none⟩ = some (.int .u64 d)) :
    Calls Try.prog 67 #[.pointer (some ⟨g, o, none⟩)] w fun e w' => e = .returned (.bool (qOk a b c d)) ∧ Below w.heap.size w w' := by
  have hg := World.block_lt_of_cell? _ _ h0
  have hbw := cell_bw
  cases e1 : (b / 4294967296 == 0)
  · have f := Lib.hid (qOk_1 a c d e1)
    have M1 := sMask_is a e1
    clear e1
    go_enter Try.func67, Try.ntmps67
    go_wp2_with fail
    refine region_bw (by kernel_rfl) (by kernel_rfl) ?_
    repeat (go_big_quiet_step (first | (go_at_call_of 94 (Value.int IntKind.u64 b); exact calls_bw (M1.out _))))
    refine wpQuiet_nil ?_; intro wq hq; replace hq := below_of_bw hq; obtain ⟨qc, qf, qz⟩ := bcell hq
    go_wp2
    go_returns
    exact ⟨ret_bool f.out.symm, (by repeat' (first | (with_reducible exact Below.refl _ _) | (with_reducible assumption) | (with_reducible refine below_drewN ?_ _) | (with_reducible refine Below.drew ?_) | (with_reducible refine below_new ?_ _) | (with_reducible refine below_next ?_ (by with_reducible assumption)) | (with_reducible refine Below.setCell ?_ ?_ _) | go_size))⟩
  · have M1 := sMask_is a e1
    cases e2 : (d / 4294967296 == 0)
    · have f := Lib.hid (qOk_2 a b c e2)
      have M2 := sMask_is c e2
      clear e1 e2
      go_enter Try.func67, Try.ntmps67
      go_wp2_with fail
      refine region_bw (by kernel_rfl) (by kernel_rfl) ?_
      repeat (go_big_quiet_step (first | (go_at_call_of 94 (Value.int IntKind.u64 b); exact calls_bw (M1.out _)) | (go_at_call_of 94 (Value.int IntKind.u64 d); exact calls_bw (M2.out _))))
      refine wpQuiet_nil ?_; intro wq hq; replace hq := below_of_bw hq; obtain ⟨qc, qf, qz⟩ := bcell hq
      go_wp2
      go_returns
      exact ⟨ret_bool f.out.symm, (by repeat' (first | (with_reducible exact Below.refl _ _) | (with_reducible assumption) | (with_reducible refine below_drewN ?_ _) | (with_reducible refine Below.drew ?_) | (with_reducible refine below_new ?_ _) | (with_reducible refine below_next ?_ (by with_reducible assumption)) | (with_reducible refine Below.setCell ?_ ?_ _) | go_size))⟩
    · have f := Lib.hid (qOk_3 a c e1 e2)
      have M2 := sMask_is c e2
      have he := eq_mask
      clear e1 e2
      go_enter Try.func67, Try.ntmps67
      go_wp2_with fail
      refine region_bw (by kernel_rfl) (by kernel_rfl) ?_
      repeat (go_big_quiet_step (first | (go_at_call_of 94 (Value.int IntKind.u64 b); exact calls_bw (M1.out _)) | (go_at_call_of 94 (Value.int IntKind.u64 d); exact calls_bw (M2.out _)) | (go_at_call 113; exact calls_bw (sMeet_below _ _ _ _ _))))
      refine wpQuiet_nil ?_; intro wq hq; replace hq := below_of_bw hq; obtain ⟨qc, qf, qz⟩ := bcell hq
      go_wp2
      go_returns
      exact ⟨ret_bool f.out.symm, (by repeat' (first | (with_reducible exact Below.refl _ _) | (with_reducible assumption) | (with_reducible refine below_drewN ?_ _) | (with_reducible refine Below.drew ?_) | (with_reducible refine below_new ?_ _) | (with_reducible refine below_next ?_ (by with_reducible assumption)) | (with_reducible refine Below.setCell ?_ ?_ _) | go_size))⟩
end Go.Proofs.Ytanocllpmjhblaa
