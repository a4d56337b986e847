/- Contracts: what kind of edit it is; is an edit valid, the program's and the model's. -/
import Derived.Test.YtbmjghkdhhcffaaDoorEds
import Derived.Test.YtbmjghkdhhcffaaDoorCard
import Derived.Test.YtbmjghkdhhcffaaDoorHole
import Derived.Test.YtbmjghkdhhcffaaDoorBoxes
import Derived.Test.YtbmjghkdhhcffaaDoorWear2
import Derived.Test.YtbmjghkdhhcffaaDoorArr
import Derived.Laws.EntriesVeiled
namespace Go.Proofs.YtbmjghkdhhcffaaDoor
open Go.ChangeShapes Go.WideShapes Go.ChangeAt Go.RowKit

/-- The value of an edit. -/
def edV (x : Ed) : Value := .agg #[.int .i8 x.k, .string x.s, .int .i16 x.h, .int .u64 x.a, .int .u64 x.b]
/-- Is it valid. -/
def edOk (x : Ed) : Bool :=
  if x.k = 1 ∨ x.k = 2 then nameOk x.s && (x.h == 0 && maskOk x.b) else if x.k = 3 ∨ x.k = 4 then nameOk x.s && (decide (0 ≤ x.h ∧ x.h ≤ 95) && (x.a == 0 && x.b == 0)) else false
theorem edOk_card {x : Ed} (h : x.k = 1 ∨ x.k = 2) : edOk x = (nameOk x.s && (x.h == 0 && maskOk x.b)) := by unfold edOk; rw [if_pos h]
theorem edOk_hole {x : Ed} (h : x.k = 3 ∨ x.k = 4) : edOk x = (nameOk x.s && (decide (0 ≤ x.h ∧ x.h ≤ 95) && (x.a == 0 && x.b == 0))) := by unfold edOk; rw [if_neg (by omega), if_pos h]
theorem edOk_none {x : Ed} (h : ¬ (x.k = 1 ∨ x.k = 2 ∨ x.k = 3 ∨ x.k = 4)) : edOk x = false := by unfold edOk; rw [if_neg (by omega), if_neg (by omega)]











end Go.Proofs.YtbmjghkdhhcffaaDoor
