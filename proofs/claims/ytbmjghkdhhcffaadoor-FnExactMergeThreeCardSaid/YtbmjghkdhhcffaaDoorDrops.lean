/- Contracts: does a query drop a card with some notches. -/
import Derived.Test.YtbmjghkdhhcffaaDoorQuery
import Derived.Test.YtbmjghkdhhcffaaDoorWithin
namespace Go.Proofs.YtbmjghkdhhcffaaDoor
open Go.ChangeShapes Go.WideShapes Go.ChangeAt Go.RowKit

/-- All of one mask in another one. -/
def allIn (a b m n : Int) : Bool := bits .and .u64 a m == a && bits .and .u64 b n == b
def qdrop (a b c d m n : Int) : Bool := allIn a b m n && meetZ c d m n
theorem qdrop_no {a b m n : Int} (c d : Int) (h : allIn a b m n = false) : qdrop a b c d m n = false := by unfold qdrop; simp [h]
theorem qdrop_yes {a b m n : Int} (c d : Int) (h : allIn a b m n = true) : qdrop a b c d m n = meetZ c d m n := by unfold qdrop; simp [h]

theorem iWithin_is {a b c d : Int} {x : Bool} (h : allIn a b c d = x) : Hid (∀ w : World, Calls Tryd.prog 51 #[.agg #[.int .u64 a, .int .u64 b], .agg #[.int .u64 c, .int .u64 d]] w fun e w' => e = .returned (.bool x) ∧ Below w.heap.size w w') := Lib.hid fun w => by rw [← h]; exact iWithin_any a b c d w



end Go.Proofs.YtbmjghkdhhcffaaDoor
