/- Contracts of the small functions on masks, the program's and the model's: what they return, and the world behind them, written out. -/
import Derived.Test.YtbmjghkdhhcffaaDoorBase
namespace Go.Proofs.YtbmjghkdhhcffaaDoor
open Go.ChangeShapes Go.WideShapes Go.ChangeAt Go.RowKit

set_option maxHeartbeats 400000 in
theorem iJoin_any (a b c d : Int) (w : World) :
    Calls Tryd.prog 50 #[.agg #[.int .u64 a, .int .u64 b], .agg #[.int .u64 c, .int .u64 d]] w fun e w' => e = .returned (.agg #[.int .u64 (bits .or .u64 a c), .int .u64 (bits .or .u64 b d)]) ∧ ((w.alloc (.cells #[.int .u64 a, .int .u64 b] 39)).alloc (.cells #[.int .u64 c, .int .u64 d] 39)).alloc (.cells #[.int .u64 (bits .or .u64 a c), .int .u64 (bits .or .u64 b d)] 39) = w' := by
  go_enter Tryd.func50, Tryd.ntmps50
  go_wp2
  go_returns
  exact ⟨rfl, rfl⟩



set_option maxHeartbeats 400000 in
theorem iMeet_any (a b c d : Int) (w : World) :
    Calls Tryd.prog 94 #[.agg #[.int .u64 a, .int .u64 b], .agg #[.int .u64 c, .int .u64 d]] w fun e w' => e = .returned (.agg #[.int .u64 (bits .and .u64 a c), .int .u64 (bits .and .u64 b d)]) ∧ ((w.alloc (.cells #[.int .u64 a, .int .u64 b] 39)).alloc (.cells #[.int .u64 c, .int .u64 d] 39)).alloc (.cells #[.int .u64 (bits .and .u64 a c), .int .u64 (bits .and .u64 b d)] 39) = w' := by
  go_enter Tryd.func94, Tryd.ntmps94
  go_wp2
  go_returns
  exact ⟨rfl, rfl⟩

set_option maxHeartbeats 400000 in
theorem sMeet_any (a b c d : Int) (w : World) :
    Calls Tryd.prog 90 #[.agg #[.int .u64 a, .int .u64 b], .agg #[.int .u64 c, .int .u64 d]] w fun e w' => e = .returned (.agg #[.int .u64 (bits .and .u64 a c), .int .u64 (bits .and .u64 b d)]) ∧ ((w.alloc (.cells #[.int .u64 a, .int .u64 b] 39)).alloc (.cells #[.int .u64 c, .int .u64 d] 39)).alloc (.cells #[.int .u64 (bits .and .u64 a c), .int .u64 (bits .and .u64 b d)] 39) = w' := by
  go_enter Tryd.func90, Tryd.ntmps90
  go_wp2
  go_returns
  exact ⟨rfl, rfl⟩





end Go.Proofs.YtbmjghkdhhcffaaDoor