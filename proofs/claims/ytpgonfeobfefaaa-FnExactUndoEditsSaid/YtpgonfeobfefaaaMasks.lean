/- Contracts of the small functions on masks, the program's and the model's: what they return, and the world behind them, written out. -/
import Derived.Test.YtpgonfeobfefaaaBase
namespace Go.Proofs.Ytpgonfeobfefaaa
open Go.ChangeShapes Go.WideShapes Go.ChangeAt Go.RowKit

set_option maxHeartbeats 400000 in
theorem iJoin_any (a b c d : Int) (w : World) :
    Calls Try.prog 117 #[.agg #[.int .u64 a, .int .u64 b], .agg #[.int .u64 c, .int .u64 d]] w fun e w' => e = .returned (.agg #[.int .u64 (bits .or .u64 a c), .int .u64 (bits .or .u64 b d)]) ∧ ((w.alloc (.cells #[.int .u64 a, .int .u64 b] 46)).alloc (.cells #[.int .u64 c, .int .u64 d] 46)).alloc (.cells #[.int .u64 (bits .or .u64 a c), .int .u64 (bits .or .u64 b d)] 46) = w' := by
  go_enter Try.func117, Try.ntmps117
  go_wp2
  go_returns
  exact ⟨rfl, rfl⟩

set_option maxHeartbeats 400000 in
theorem sJoin_any (a b c d : Int) (w : World) :
    Calls Try.prog 109 #[.agg #[.int .u64 a, .int .u64 b], .agg #[.int .u64 c, .int .u64 d]] w fun e w' => e = .returned (.agg #[.int .u64 (bits .or .u64 a c), .int .u64 (bits .or .u64 b d)]) ∧ ((w.alloc (.cells #[.int .u64 a, .int .u64 b] 46)).alloc (.cells #[.int .u64 c, .int .u64 d] 46)).alloc (.cells #[.int .u64 (bits .or .u64 a c), .int .u64 (bits .or .u64 b d)] 46) = w' := by
  go_enter Try.func109, Try.ntmps109
  go_wp2
  go_returns
  exact ⟨rfl, rfl⟩

set_option maxHeartbeats 400000 in
theorem sJoinMasks_any (a b c d : Int) (w : World) :
    Calls Try.prog 130 #[.agg #[.int .u64 a, .int .u64 b], .agg #[.int .u64 c, .int .u64 d]] w fun e w' => e = .returned (.agg #[.int .u64 (bits .or .u64 a c), .int .u64 (bits .or .u64 b d)]) ∧ (((((w.alloc (.cells #[.int .u64 a, .int .u64 b] 46)).alloc (.cells #[.int .u64 c, .int .u64 d] 46)).alloc (.cells #[.int .u64 (bits .or .u64 a c), .int .u64 (bits .or .u64 b d)] 46)).alloc (.cells #[.int .u64 a, .int .u64 b] 46)).alloc (.cells #[.int .u64 c, .int .u64 d] 46)).alloc (.cells #[.int .u64 (bits .or .u64 a c), .int .u64 (bits .or .u64 b d)] 46) = w' := by
  go_enter Try.func130, Try.ntmps130
  go_wp2
  go_returns
  exact ⟨rfl, rfl⟩

set_option maxHeartbeats 400000 in
theorem iMeet_any (a b c d : Int) (w : World) :
    Calls Try.prog 72 #[.agg #[.int .u64 a, .int .u64 b], .agg #[.int .u64 c, .int .u64 d]] w fun e w' => e = .returned (.agg #[.int .u64 (bits .and .u64 a c), .int .u64 (bits .and .u64 b d)]) ∧ ((w.alloc (.cells #[.int .u64 a, .int .u64 b] 46)).alloc (.cells #[.int .u64 c, .int .u64 d] 46)).alloc (.cells #[.int .u64 (bits .and .u64 a c), .int .u64 (bits .and .u64 b d)] 46) = w' := by
  go_enter Try.func72, Try.ntmps72
  go_wp2
  go_returns
  exact ⟨rfl, rfl⟩

set_option maxHeartbeats 400000 in
theorem sMeet_any (a b c d : Int) (w : World) :
    Calls Try.prog 65 #[.agg #[.int .u64 a, .int .u64 b], .agg #[.int .u64 c, .int .u64 d]] w fun e w' => e = .returned (.agg #[.int .u64 (bits .and .u64 a c), .int .u64 (bits .and .u64 b d)]) ∧ ((w.alloc (.cells #[.int .u64 a, .int .u64 b] 46)).alloc (.cells #[.int .u64 c, .int .u64 d] 46)).alloc (.cells #[.int .u64 (bits .and .u64 a c), .int .u64 (bits .and .u64 b d)] 46) = w' := by
  go_enter Try.func65, Try.ntmps65
  go_wp2
  go_returns
  exact ⟨rfl, rfl⟩

set_option maxHeartbeats 400000 in
theorem sMeetMasks_any (a b c d : Int) (w : World) :
    Calls Try.prog 128 #[.agg #[.int .u64 a, .int .u64 b], .agg #[.int .u64 c, .int .u64 d]] w fun e w' => e = .returned (.agg #[.int .u64 (bits .and .u64 a c), .int .u64 (bits .and .u64 b d)]) ∧ (((((w.alloc (.cells #[.int .u64 a, .int .u64 b] 46)).alloc (.cells #[.int .u64 c, .int .u64 d] 46)).alloc (.cells #[.int .u64 (bits .and .u64 a c), .int .u64 (bits .and .u64 b d)] 46)).alloc (.cells #[.int .u64 a, .int .u64 b] 46)).alloc (.cells #[.int .u64 c, .int .u64 d] 46)).alloc (.cells #[.int .u64 (bits .and .u64 a c), .int .u64 (bits .and .u64 b d)] 46) = w' := by
  go_enter Try.func128, Try.ntmps128
  go_wp2
  go_returns
  exact ⟨rfl, rfl⟩

set_option maxHeartbeats 400000 in
theorem iLess_any (a b c d : Int) (w : World) :
    Calls Try.prog 145 #[.agg #[.int .u64 a, .int .u64 b], .agg #[.int .u64 c, .int .u64 d]] w fun e w' => e = .returned (.agg #[.int .u64 (bits .andNot .u64 a c), .int .u64 (bits .andNot .u64 b d)]) ∧ ((w.alloc (.cells #[.int .u64 a, .int .u64 b] 46)).alloc (.cells #[.int .u64 c, .int .u64 d] 46)).alloc (.cells #[.int .u64 (bits .andNot .u64 a c), .int .u64 (bits .andNot .u64 b d)] 46) = w' := by
  go_enter Try.func145, Try.ntmps145
  go_wp2
  go_returns
  exact ⟨rfl, rfl⟩

set_option maxHeartbeats 400000 in
theorem sLess_any (a b c d : Int) (w : World) :
    Calls Try.prog 147 #[.agg #[.int .u64 a, .int .u64 b], .agg #[.int .u64 c, .int .u64 d]] w fun e w' => e = .returned (.agg #[.int .u64 (bits .andNot .u64 a c), .int .u64 (bits .andNot .u64 b d)]) ∧ ((w.alloc (.cells #[.int .u64 a, .int .u64 b] 46)).alloc (.cells #[.int .u64 c, .int .u64 d] 46)).alloc (.cells #[.int .u64 (bits .andNot .u64 a c), .int .u64 (bits .andNot .u64 b d)] 46) = w' := by
  go_enter Try.func147, Try.ntmps147
  go_wp2
  go_returns
  exact ⟨rfl, rfl⟩


end Go.Proofs.Ytpgonfeobfefaaa