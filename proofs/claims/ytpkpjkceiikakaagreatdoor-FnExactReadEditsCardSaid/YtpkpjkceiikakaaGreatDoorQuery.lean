/- Contracts: is a query valid; what it drops. -/
import Derived.Test.YtpkpjkceiikakaaGreatDoorHole
import Derived.Test.YtpkpjkceiikakaaGreatDoorCard
import Derived.Test.YtpkpjkceiikakaaGreatDoorQuiet
namespace Go.Proofs.YtpkpjkceiikakaaGreatDoor
open Go.ChangeShapes Go.WideShapes Go.ChangeAt Go.RowKit

/-- No hole in both masks. -/
def meetZ (a b c d : Int) : Bool := bits .and .u64 a c == 0 && bits .and .u64 b d == 0
def qOk (a b c d : Int) : Bool := maskOk b && maskOk d && meetZ a b c d
theorem qOk_1 {b : Int} (a c d : Int) (h : (b / 4294967296 == 0) = false) : qOk a b c d = false := by unfold qOk maskOk; simp [h]
theorem qOk_2 {d : Int} (a b c : Int) (h : (d / 4294967296 == 0) = false) : qOk a b c d = false := by unfold qOk maskOk; simp [h]
theorem qOk_3 {b d : Int} (a c : Int) (h1 : (b / 4294967296 == 0) = true) (h2 : (d / 4294967296 == 0) = true) : qOk a b c d = meetZ a b c d := by unfold qOk maskOk; simp [h1, h2]

theorem sMeet_below (a b c d : Int) (w : World) : Calls Tryz.prog 33 #[.agg #[.int .u64 a, .int .u64 b], .agg #[.int .u64 c, .int .u64 d]] w fun e w' => e = .returned (.agg #[.int .u64 (bits .and .u64 a c), .int .u64 (bits .and .u64 b d)]) ∧ Below w.heap.size w w' :=
  (sMeet_any a b c d w).mono fun e w' ⟨he, hw⟩ => ⟨he, by subst hw; exact (by repeat' (first | (with_reducible exact Below.refl _ _) | (with_reducible assumption) | (with_reducible refine below_drewN ?_ _) | (with_reducible refine Below.drew ?_) | (with_reducible refine below_new ?_ _) | (with_reducible refine below_next ?_ (by with_reducible assumption)) | (with_reducible refine Below.setCell ?_ ?_ _) | go_size))⟩
theorem sMask_any (a b : Int) (w : World) : Calls Tryz.prog 80 #[.agg #[.int .u64 a, .int .u64 b]] w fun e w' => e = .returned (.bool (b / 4294967296 == 0)) ∧ Below w.heap.size w w' := by
  go_enter Tryz.func80, Tryz.ntmps80
  go_wp2
  go_returns
  exact ⟨rfl, (by repeat' (first | (with_reducible exact Below.refl _ _) | (with_reducible assumption) | (with_reducible refine below_drewN ?_ _) | (with_reducible refine Below.drew ?_) | (with_reducible refine below_new ?_ _) | (with_reducible refine below_next ?_ (by with_reducible assumption)) | (with_reducible refine Below.setCell ?_ ?_ _) | go_size))⟩
theorem sMask_is {b : Int} (a : Int) {x : Bool} (h : (b / 4294967296 == 0) = x) : Hid (∀ w : World, Calls Tryz.prog 80 #[.agg #[.int .u64 a, .int .u64 b]] w fun e w' => e = .returned (.bool x) ∧ Below w.heap.size w w') := Lib.hid fun w => by rw [← h]; exact sMask_any a b w
end Go.Proofs.YtpkpjkceiikakaaGreatDoor
