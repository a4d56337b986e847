/- Contracts: how many holes a field has, as the program says and as the model does. -/
import Derived.Test.YtllhglakihfjmaaDoorVFi
import Derived.Test.YtllhglakihfjmaaDoorVFs
namespace Go.Proofs.YtllhglakihfjmaaDoor
open Go.ChangeShapes Go.WideShapes Go.ChangeAt Go.RowKit

def fC (b : Bool) : Int := if b then 0 else 1
def holV (s : ByteArray) (k st sz : Int) : Int := if fieldOk s k st sz then widthZ k sz else 0
theorem field_inv {s : ByteArray} {k st sz : Int} (h : fieldOk s k st sz = true) : nameOk s = true ∧ 0 ≤ k ∧ k ≤ 3 ∧ 0 ≤ st ∧ 1 ≤ sz ∧ sz ≤ mostZ k ∧ st + widthZ k sz ≤ 96 := by
  unfold fieldOk at h
  rw [Bool.and_eq_true] at h
  exact ⟨h.1, of_decide_eq_true h.2⟩
theorem ret_two (x c : Int) {y d : Int} (hx : y = x) (hc : d = c) : Ending.returned (.tuple #[.int .i64 x, .int .i64 c]) = Ending.returned (.tuple #[.int .i64 y, .int .i64 d]) := by rw [hx, hc]
theorem holV_no {s : ByteArray} {k st sz : Int} (h : fieldOk s k st sz = false) : holV s k st sz = 0 ∧ fC (fieldOk s k st sz) = 1 := by unfold holV fC; rw [h]; exact ⟨rfl, rfl⟩
theorem holV_yes {s : ByteArray} {k st sz : Int} (h : fieldOk s k st sz = true) : holV s k st sz = widthZ k sz ∧ fC (fieldOk s k st sz) = 0 := by unfold holV fC; rw [h]; exact ⟨rfl, rfl⟩



end Go.Proofs.YtllhglakihfjmaaDoor