/- Contracts of the small functions on masks, the program's and the model's: what they return, and the world behind them, written out. -/
import Derived.Test.YtdohlcopamckjabBase
namespace Go.Proofs.Ytdohlcopamckjab
open Go.ChangeShapes Go.WideShapes Go.ChangeAt Go.RowKit

set_option maxHeartbeats 400000 in
theorem iJoin_any (a b c d : Int) (w : World) :
    Calls Try.prog 72 #[.agg #[.int .u64 a, .int .u64 b], .agg #[.int .u64 c, .int .u64 d]] w fun e w' => e = .returned (.agg #[.int .u64 (bits .or .u64 a c), .int .u64 (bits .or .u64 b d)]) ∧ ((w.alloc (.cells #[.int .u64 a, .int .u64 b] 32)).alloc (.cells #[.int .u64 c, .int .u64 d] 32)).alloc (.cells #[.int .u64 (bits .or .u64 a c), .int .u64 (bits .or .u64 b d)] 32) = w' := by
  go_enter Try.func72, Try.ntmps72
  go_wp2
  go_returns
  exact ⟨rfl, rfl⟩

set_option maxHeartbeats 400000 in
theorem sJoin_any (a b c d : Int) (w : World) :
    Calls Try.prog 70 #[.agg #[.int .u64 a, .int .u64 b], .agg #[.int .u64 c, .int .u64 d]] w fun e w' => e = .returned (.agg #[.int .u64 (bits .or .u64 a c), .int .u64 (bits .or .u64 b d)]) ∧ ((w.alloc (.cells #[.int .u64 a, .int .u64 b] 32)).alloc (.cells #[.int .u64 c, .int .u64 d] 32)).alloc (.cells #[.int .u64 (bits .or .u64 a c), .int .u64 (bits .or .u64 b d)] 32) = w' := by
  go_enter Try.func70, Try.ntmps70
  go_wp2
  go_returns
  exact ⟨rfl, rfl⟩


set_option maxHeartbeats 400000 in
theorem iMeet_any (a b c d : Int) (w : World) :
    Calls Try.prog 111 #[.agg #[.int .u64 a, .int .u64 b], .agg #[.int .u64 c, .int .u64 d]] w fun e w' => e = .returned (.agg #[.int .u64 (bits .and .u64 a c), .int .u64 (bits .and .u64 b d)]) ∧ ((w.alloc (.cells #[.int .u64 a, .int .u64 b] 32)).alloc (.cells #[.int .u64 c, .int .u64 d] 32)).alloc (.cells #[.int .u64 (bits .and .u64 a c), .int .u64 (bits .and .u64 b d)] 32) = w' := by
  go_enter Try.func111, Try.ntmps111
  go_wp2
  go_returns
  exact ⟨rfl, rfl⟩

set_option maxHeartbeats 400000 in
theorem sMeet_any (a b c d : Int) (w : World) :
    Calls Try.prog 110 #[.agg #[.int .u64 a, .int .u64 b], .agg #[.int .u64 c, .int .u64 d]] w fun e w' => e = .returned (.agg #[.int .u64 (bits .and .u64 a c), .int .u64 (bits .and .u64 b d)]) ∧ ((w.alloc (.cells #[.int .u64 a, .int .u64 b] 32)).alloc (.cells #[.int .u64 c, .int .u64 d] 32)).alloc (.cells #[.int .u64 (bits .and .u64 a c), .int .u64 (bits .and .u64 b d)] 32) = w' := by
  go_enter Try.func110, Try.ntmps110
  go_wp2
  go_returns
  exact ⟨rfl, rfl⟩


set_option maxHeartbeats 400000 in
theorem iLess_any (a b c d : Int) (w : World) :
    Calls Try.prog 66 #[.agg #[.int .u64 a, .int .u64 b], .agg #[.int .u64 c, .int .u64 d]] w fun e w' => e = .returned (.agg #[.int .u64 (bits .andNot .u64 a c), .int .u64 (bits .andNot .u64 b d)]) ∧ ((w.alloc (.cells #[.int .u64 a, .int .u64 b] 32)).alloc (.cells #[.int .u64 c, .int .u64 d] 32)).alloc (.cells #[.int .u64 (bits .andNot .u64 a c), .int .u64 (bits .andNot .u64 b d)] 32) = w' := by
  go_enter Try.func66, Try.ntmps66
  go_wp2
  go_returns
  exact ⟨rfl, rfl⟩

set_option maxHeartbeats 400000 in
theorem sLess_any (a b c d : Int) (w : World) :
    Calls Try.prog 61 #[.agg #[.int .u64 a, .int .u64 b], .agg #[.int .u64 c, .int .u64 d]] w fun e w' => e = .returned (.agg #[.int .u64 (bits .andNot .u64 a c), .int .u64 (bits .andNot .u64 b d)]) ∧ ((w.alloc (.cells #[.int .u64 a, .int .u64 b] 32)).alloc (.cells #[.int .u64 c, .int .u64 d] 32)).alloc (.cells #[.int .u64 (bits .andNot .u64 a c), .int .u64 (bits .andNot .u64 b d)] 32) = w' := by
  go_enter Try.func61, Try.ntmps61
  go_wp2
  go_returns
  exact ⟨rfl, rfl⟩


end Go.Proofs.Ytdohlcopamckjab