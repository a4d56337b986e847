/- Contracts: is wear valid; the wear turned over; how many holes are worn. -/
import Derived.Test.YtbmjghkdhhcffaaDoorQuery
import Derived.Test.YtbmjghkdhhcffaaDoorOpen
import Derived.Test.YtbmjghkdhhcffaaDoorFloat
import Derived.Test.YtbmjghkdhhcffaaDoorWith
import Derived.Deep.DeepCutAuto
namespace Go.Proofs.YtbmjghkdhhcffaaDoor
open Go.ChangeShapes Go.WideShapes Go.ChangeAt Go.RowKit

set_option maxHeartbeats 1600000 in
theorem iWr_any (a b c d : Int) (w : World) :
    Calls Tryd.prog 48 #[.agg #[.int .u64 a, .int .u64 b, .int .u64 c, .int .u64 d]] w fun e w' => e = .returned (.bool (qOk a b c d)) ∧ Below w.heap.size w w' := by
  cases h1 : (b / 4294967296 == 0)
  · have f := Lib.hid (qOk_1 a c d h1)
    go_enter Tryd.func48, Tryd.ntmps48
    go_wp2
    go_returns
    exact ⟨ret_bool f.out.symm, (by repeat' (first | (with_reducible exact Below.refl _ _) | (with_reducible assumption) | (with_reducible refine below_drewN ?_ _) | (with_reducible refine Below.drew ?_) | (with_reducible refine below_new ?_ _) | (with_reducible refine below_next ?_ (by with_reducible assumption)) | (with_reducible refine Below.setCell ?_ ?_ _) | go_size))⟩
  · cases h2 : (d / 4294967296 == 0)
    · have f := Lib.hid (qOk_2 a b c h2)
      go_enter Tryd.func48, Tryd.ntmps48
      go_wp2
      go_returns
      exact ⟨ret_bool f.out.symm, (by repeat' (first | (with_reducible exact Below.refl _ _) | (with_reducible assumption) | (with_reducible refine below_drewN ?_ _) | (with_reducible refine Below.drew ?_) | (with_reducible refine below_new ?_ _) | (with_reducible refine below_next ?_ (by with_reducible assumption)) | (with_reducible refine Below.setCell ?_ ?_ _) | go_size))⟩
    · have f := Lib.hid (qOk_3 a c h1 h2)
      have he := eq_mask
      go_enter Tryd.func48, Tryd.ntmps48
      go_wp2_with (first | (go_at_call 94; refine (iMeet_any _ _ _ _ _).mono ?_; rintro e w1 ⟨rfl, rfl⟩) | go_in)
      go_returns
      exact ⟨ret_bool f.out.symm, (by repeat' (first | (with_reducible exact Below.refl _ _) | (with_reducible assumption) | (with_reducible refine below_drewN ?_ _) | (with_reducible refine Below.drew ?_) | (with_reducible refine below_new ?_ _) | (with_reducible refine below_next ?_ (by with_reducible assumption)) | (with_reducible refine Below.setCell ?_ ?_ _) | go_size))⟩
set_option maxHeartbeats 1600000 in
theorem sWr_any (a b c d : Int) (g o : Nat) (w : World) (h0 : w.cell? ⟨g, o, none⟩ = some (.int .u64 a)) (h1 : w.cell? ⟨g, o + 1, none⟩ = some (.int .u64 b)) (h2 : w.cell? ⟨g, o + 2, none⟩ = some (.int .u64 c)) (h3 : w.cell? ⟨g, o + 3, none⟩ = some (.int .u64 d)) :
    Calls Tryd.prog 45 #[.pointer (some ⟨g, o, none⟩)] w fun e w' => e = .returned (.bool (qOk a b c d)) ∧ Below w.heap.size w w' := by
  have hg := World.block_lt_of_cell? _ _ h0
  have hbw := cell_bw
  cases e1 : (b / 4294967296 == 0)
  · have f := Lib.hid (qOk_1 a c d e1)
    have M1 := sMask_is a e1
    clear e1
    go_enter Tryd.func45, Tryd.ntmps45
    go_wp2_with fail
    refine region_bw (by kernel_rfl) (by kernel_rfl) ?_
    repeat (go_big_quiet_step (first | (go_at_call_of 89 (Value.int IntKind.u64 b); exact calls_bw (M1.out _))))
    refine wpQuiet_nil ?_; intro wq hq; replace hq := below_of_bw hq; obtain ⟨qc, qf, qz⟩ := bcell hq
    go_wp2
    go_returns
    exact ⟨ret_bool f.out.symm, (by repeat' (first | (with_reducible exact Below.refl _ _) | (with_reducible assumption) | (with_reducible refine below_drewN ?_ _) | (with_reducible refine Below.drew ?_) | (with_reducible refine below_new ?_ _) | (with_reducible refine below_next ?_ (by with_reducible assumption)) | (with_reducible refine Below.setCell ?_ ?_ _) | go_size))⟩
  · have M1 := sMask_is a e1
    cases e2 : (d / 4294967296 == 0)
    · have f := Lib.hid (qOk_2 a b c e2)
      have M2 := sMask_is c e2
      clear e1 e2
      go_enter Tryd.func45, Tryd.ntmps45
      go_wp2_with fail
      refine region_bw (by kernel_rfl) (by kernel_rfl) ?_
      repeat (go_big_quiet_step (first | (go_at_call_of 89 (Value.int IntKind.u64 b); exact calls_bw (M1.out _)) | (go_at_call_of 89 (Value.int IntKind.u64 d); exact calls_bw (M2.out _))))
      refine wpQuiet_nil ?_; intro wq hq; replace hq := below_of_bw hq; obtain ⟨qc, qf, qz⟩ := bcell hq
      go_wp2
      go_returns
      exact ⟨ret_bool f.out.symm, (by repeat' (first | (with_reducible exact Below.refl _ _) | (with_reducible assumption) | (with_reducible refine below_drewN ?_ _) | (with_reducible refine Below.drew ?_) | (with_reducible refine below_new ?_ _) | (with_reducible refine below_next ?_ (by with_reducible assumption)) | (with_reducible refine Below.setCell ?_ ?_ _) | go_size))⟩
    · have f := Lib.hid (qOk_3 a c e1 e2)
      have M2 := sMask_is c e2
      have he := eq_mask
      clear e1 e2
      go_enter Tryd.func45, Tryd.ntmps45
      go_wp2_with fail
      refine region_bw (by kernel_rfl) (by kernel_rfl) ?_
      repeat (go_big_quiet_step (first | (go_at_call_of 89 (Value.int IntKind.u64 b); exact calls_bw (M1.out _)) | (go_at_call_of 89 (Value.int IntKind.u64 d); exact calls_bw (M2.out _)) | (go_at_call 90; exact calls_bw (sMeet_below _ _ _ _ _))))
      refine wpQuiet_nil ?_; intro wq hq; replace hq := below_of_bw hq; obtain ⟨qc, qf, qz⟩ := bcell hq
      go_wp2
      go_returns
      exact ⟨ret_bool f.out.symm, (by repeat' (first | (with_reducible exact Below.refl _ _) | (with_reducible assumption) | (with_reducible refine below_drewN ?_ _) | (with_reducible refine Below.drew ?_) | (with_reducible refine below_new ?_ _) | (with_reducible refine below_next ?_ (by with_reducible assumption)) | (with_reducible refine Below.setCell ?_ ?_ _) | go_size))⟩

set_option maxHeartbeats 800000 in
theorem toWear_any (a b c d : Int) (w : World) :
    Calls Tryd.prog 17 #[.agg #[.int .u64 a, .int .u64 b, .int .u64 c, .int .u64 d]] w fun e w' => e = .returned (.agg #[.int .u64 a, .int .u64 b, .int .u64 c, .int .u64 d]) ∧ Below w.heap.size w w' := by
  go_enter Tryd.func17, Tryd.ntmps17
  go_wp2_with (go_at_call 47; refine (toMask_any _ _ _).mono ?_; rintro e w1 ⟨rfl, rfl⟩)
  go_returns
  exact ⟨rfl, (by repeat' (first | (with_reducible exact Below.refl _ _) | (with_reducible assumption) | (with_reducible refine below_drewN ?_ _) | (with_reducible refine Below.drew ?_) | (with_reducible refine below_new ?_ _) | (with_reducible refine below_next ?_ (by with_reducible assumption)) | (with_reducible refine Below.setCell ?_ ?_ _) | go_size))⟩

end Go.Proofs.YtbmjghkdhhcffaaDoor
