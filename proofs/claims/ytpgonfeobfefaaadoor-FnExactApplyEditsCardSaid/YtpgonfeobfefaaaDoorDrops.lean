/- Contracts: does a query drop a card with some notches. -/
import Derived.Test.YtpgonfeobfefaaaDoorQuery
import Derived.Test.YtpgonfeobfefaaaDoorWithin
namespace Go.Proofs.YtpgonfeobfefaaaDoor
open Go.ChangeShapes Go.WideShapes Go.ChangeAt Go.RowKit

/-- All of one mask in another one. -/
def allIn (a b m n : Int) : Bool := bits .and .u64 a m == a && bits .and .u64 b n == b
def qdrop (a b c d m n : Int) : Bool := allIn a b m n && meetZ c d m n
theorem qdrop_no {a b m n : Int} (c d : Int) (h : allIn a b m n = false) : qdrop a b c d m n = false := by unfold qdrop; simp [h]
theorem qdrop_yes {a b m n : Int} (c d : Int) (h : allIn a b m n = true) : qdrop a b c d m n = meetZ c d m n := by unfold qdrop; simp [h]

theorem iWithin_is {a b c d : Int} {x : Bool} (h : allIn a b c d = x) : Hid (∀ w : World, Calls Tryd.prog 173 #[.agg #[.int .u64 a, .int .u64 b], .agg #[.int .u64 c, .int .u64 d]] w fun e w' => e = .returned (.bool x) ∧ Below w.heap.size w w') := Lib.hid fun w => by rw [← h]; exact iWithin_any a b c d w


theorem sIsWithin_is {a b c d : Int} (ha : U64 a) (hb : U64 b) (hc : U64 c) (hd : U64 d) {x : Bool} (h : allIn a b c d = x) : Hid (∀ w : World, Calls Tryd.prog 64 #[.agg #[.int .u64 a, .int .u64 b], .agg #[.int .u64 c, .int .u64 d]] w fun e w' => e = .returned (.bool x) ∧ Below w.heap.size w w') := Lib.hid fun w => by rw [← h]; exact sIsWithin_any a b c d ha hb hc hd w

end Go.Proofs.YtpgonfeobfefaaaDoor
