/- Contracts: is one mask within another; is a hole in a mask, and which answer is due. -/
import Derived.Test.YtpkpjkceiikakaaGreatDoorMasks
import Derived.Test.YtpkpjkceiikakaaGreatDoorBit
import Derived.Test.YtpkpjkceiikakaaGreatDoorArr
import Derived.Deep.DeepCutAuto
namespace Go.Proofs.YtpkpjkceiikakaaGreatDoor
open Go.ChangeShapes Go.WideShapes Go.ChangeAt Go.RowKit


def hasC (b n : Int) : Int := if b / 4294967296 = 0 then (if 0 ≤ n ∧ n ≤ 95 then 0 else 2) else 1
def hasV (a b n : Int) : Bool := if b / 4294967296 = 0 ∧ 0 ≤ n ∧ n ≤ 95 then hasB a b n else false

theorem hasC_inv {b : Int} (n : Int) (h : ¬ b / 4294967296 = 0) : hasC b n = 1 := by unfold hasC; rw [if_neg h]
theorem hasV_inv (a : Int) {b : Int} (n : Int) (h : ¬ b / 4294967296 = 0) : hasV a b n = false := by unfold hasV; rw [if_neg (fun x => h x.1)]
theorem hasC_out {b n : Int} (h : b / 4294967296 = 0) (hn : ¬ (0 ≤ n ∧ n ≤ 95)) : hasC b n = 2 := by unfold hasC; rw [if_pos h, if_neg hn]
theorem hasV_out (a b : Int) {n : Int} (hn : ¬ (0 ≤ n ∧ n ≤ 95)) : hasV a b n = false := by unfold hasV; rw [if_neg (fun x => hn x.2)]
theorem hasC_ok {b n : Int} (h : b / 4294967296 = 0) (hn : 0 ≤ n ∧ n ≤ 95) : hasC b n = 0 := by unfold hasC; rw [if_pos h, if_pos hn]
theorem hasV_ok (a : Int) {b n : Int} (h : b / 4294967296 = 0) (hn : 0 ≤ n ∧ n ≤ 95) : hasV a b n = hasB a b n := by unfold hasV; rw [if_pos ⟨h, hn.1, hn.2⟩]

theorem ret_has (a b n : Int) (x : Bool) (c : Int) (hx : hasV a b n = x) (hc : hasC b n = c) : Ending.returned (.tuple #[.bool x, .int .i64 c]) = Ending.returned (.tuple #[.bool (hasV a b n), .int .i64 (hasC b n)]) := by rw [hx, hc]

end Go.Proofs.YtpkpjkceiikakaaGreatDoor
