/- cmp.Compare on numbers. -/
import Derived.Test.YtppjmngnjdeigaaDoorQuiet
namespace Go.Proofs.YtppjmngnjdeigaaDoor
open Go.ChangeShapes Go.WideShapes Go.ChangeAt Go.RowKit

def cmpV (x y : Int) : Int := if x < y then -1 else if y < x then 1 else 0
theorem nan_any (x : Int) (w : World) : Calls Tryd.prog 147 #[.int .i64 x] w fun e w' => e = .returned (.bool false) ∧ w = w' := by
  have h : (x != x) = false := by simp
  go_enter Tryd.func147, Tryd.ntmps147
  go_wp2
  go_returns
  exact ⟨rfl, rfl⟩
end Go.Proofs.YtppjmngnjdeigaaDoor
