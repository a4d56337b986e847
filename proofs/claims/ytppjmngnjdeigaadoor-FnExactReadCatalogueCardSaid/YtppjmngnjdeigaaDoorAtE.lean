/- Contracts: is there an entry with an index; its preferred one; PreferredOf. -/
import Derived.Test.YtppjmngnjdeigaaDoorMiss
import Derived.Test.YtppjmngnjdeigaaDoorCatS
import Derived.Deep.DeepCutAuto
namespace Go.Proofs.YtppjmngnjdeigaaDoor
open Go.ChangeShapes Go.WideShapes Go.ChangeAt Go.RowKit

def atC (cs : List Et) (x : Int) : Int := if catOk cs then (if hasX cs.length x then 0 else 2) else 1
theorem atC_bad {cs : List Et} (x : Int) (h : catOk cs = false) : atC cs x = 1 := by unfold atC; rw [h]; rfl
theorem atC_none {cs : List Et} {x : Int} (h : catOk cs = true) (h2 : hasX cs.length x = false) : atC cs x = 2 := by unfold atC; rw [h, h2]; rfl
theorem atC_ok {cs : List Et} {x : Int} (h : catOk cs = true) (h2 : hasX cs.length x = true) : atC cs x = 0 := by unfold atC; rw [h, h2]; rfl
theorem retI9 {x y : Int} (h : y = x) : Ending.returned (.int .i64 x) = Ending.returned (.int .i64 y) := by rw [h]


end Go.Proofs.YtppjmngnjdeigaaDoor
