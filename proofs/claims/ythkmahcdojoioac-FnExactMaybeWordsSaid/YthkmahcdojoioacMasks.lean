/- Contracts of the small functions on masks, the program's and the model's: what they return, and the world behind them, written out. -/
import Derived.Test.YthkmahcdojoioacBase
namespace Go.Proofs.Ythkmahcdojoioac
open Go.ChangeShapes Go.WideShapes Go.ChangeAt Go.RowKit

set_option maxHeartbeats 400000 in
theorem iJoin_any (a b c d : Int) (w : World) :
    Calls Try.prog 61 #[.agg #[.int .u64 a, .int .u64 b], .agg #[.int .u64 c, .int .u64 d]] w fun e w' => e = .returned (.agg #[.int .u64 (bits .or .u64 a c), .int .u64 (bits .or .u64 b d)]) ∧ ((w.alloc (.cells #[.int .u64 a, .int .u64 b] 33)).alloc (.cells #[.int .u64 c, .int .u64 d] 33)).alloc (.cells #[.int .u64 (bits .or .u64 a c), .int .u64 (bits .or .u64 b d)] 33) = w' := by
  go_enter Try.func61, Try.ntmps61
  go_wp2
  go_returns
  exact ⟨rfl, rfl⟩

set_option maxHeartbeats 400000 in
theorem sJoin_any (a b c d : Int) (w : World) :
    Calls Try.prog 112 #[.agg #[.int .u64 a, .int .u64 b], .agg #[.int .u64 c, .int .u64 d]] w fun e w' => e = .returned (.agg #[.int .u64 (bits .or .u64 a c), .int .u64 (bits .or .u64 b d)]) ∧ ((w.alloc (.cells #[.int .u64 a, .int .u64 b] 33)).alloc (.cells #[.int .u64 c, .int .u64 d] 33)).alloc (.cells #[.int .u64 (bits .or .u64 a c), .int .u64 (bits .or .u64 b d)] 33) = w' := by
  go_enter Try.func112, Try.ntmps112
  go_wp2
  go_returns
  exact ⟨rfl, rfl⟩

set_option maxHeartbeats 400000 in
theorem sJoinMasks_any (a b c d : Int) (w : World) :
    Calls Try.prog 66 #[.agg #[.int .u64 a, .int .u64 b], .agg #[.int .u64 c, .int .u64 d]] w fun e w' => e = .returned (.agg #[.int .u64 (bits .or .u64 a c), .int .u64 (bits .or .u64 b d)]) ∧ (((((w.alloc (.cells #[.int .u64 a, .int .u64 b] 33)).alloc (.cells #[.int .u64 c, .int .u64 d] 33)).alloc (.cells #[.int .u64 (bits .or .u64 a c), .int .u64 (bits .or .u64 b d)] 33)).alloc (.cells #[.int .u64 a, .int .u64 b] 33)).alloc (.cells #[.int .u64 c, .int .u64 d] 33)).alloc (.cells #[.int .u64 (bits .or .u64 a c), .int .u64 (bits .or .u64 b d)] 33) = w' := by
  go_enter Try.func66, Try.ntmps66
  go_wp2
  go_returns
  exact ⟨rfl, rfl⟩

set_option maxHeartbeats 400000 in
theorem iMeet_any (a b c d : Int) (w : World) :
    Calls Try.prog 60 #[.agg #[.int .u64 a, .int .u64 b], .agg #[.int .u64 c, .int .u64 d]] w fun e w' => e = .returned (.agg #[.int .u64 (bits .and .u64 a c), .int .u64 (bits .and .u64 b d)]) ∧ ((w.alloc (.cells #[.int .u64 a, .int .u64 b] 33)).alloc (.cells #[.int .u64 c, .int .u64 d] 33)).alloc (.cells #[.int .u64 (bits .and .u64 a c), .int .u64 (bits .and .u64 b d)] 33) = w' := by
  go_enter Try.func60, Try.ntmps60
  go_wp2
  go_returns
  exact ⟨rfl, rfl⟩

set_option maxHeartbeats 400000 in
theorem sMeet_any (a b c d : Int) (w : World) :
    Calls Try.prog 147 #[.agg #[.int .u64 a, .int .u64 b], .agg #[.int .u64 c, .int .u64 d]] w fun e w' => e = .returned (.agg #[.int .u64 (bits .and .u64 a c), .int .u64 (bits .and .u64 b d)]) ∧ ((w.alloc (.cells #[.int .u64 a, .int .u64 b] 33)).alloc (.cells #[.int .u64 c, .int .u64 d] 33)).alloc (.cells #[.int .u64 (bits .and .u64 a c), .int .u64 (bits .and .u64 b d)] 33) = w' := by
  go_enter Try.func147, Try.ntmps147
  go_wp2
  go_returns
  exact ⟨rfl, rfl⟩

set_option maxHeartbeats 400000 in
theorem sMeetMasks_any (a b c d : Int) (w : World) :
    Calls Try.prog 132 #[.agg #[.int .u64 a, .int .u64 b], .agg #[.int .u64 c, .int .u64 d]] w fun e w' => e = .returned (.agg #[.int .u64 (bits .and .u64 a c), .int .u64 (bits .and .u64 b d)]) ∧ (((((w.alloc (.cells #[.int .u64 a, .int .u64 b] 33)).alloc (.cells #[.int .u64 c, .int .u64 d] 33)).alloc (.cells #[.int .u64 (bits .and .u64 a c), .int .u64 (bits .and .u64 b d)] 33)).alloc (.cells #[.int .u64 a, .int .u64 b] 33)).alloc (.cells #[.int .u64 c, .int .u64 d] 33)).alloc (.cells #[.int .u64 (bits .and .u64 a c), .int .u64 (bits .and .u64 b d)] 33) = w' := by
  go_enter Try.func132, Try.ntmps132
  go_wp2
  go_returns
  exact ⟨rfl, rfl⟩

set_option maxHeartbeats 400000 in
theorem iLess_any (a b c d : Int) (w : World) :
    Calls Try.prog 62 #[.agg #[.int .u64 a, .int .u64 b], .agg #[.int .u64 c, .int .u64 d]] w fun e w' => e = .returned (.agg #[.int .u64 (bits .andNot .u64 a c), .int .u64 (bits .andNot .u64 b d)]) ∧ ((w.alloc (.cells #[.int .u64 a, .int .u64 b] 33)).alloc (.cells #[.int .u64 c, .int .u64 d] 33)).alloc (.cells #[.int .u64 (bits .andNot .u64 a c), .int .u64 (bits .andNot .u64 b d)] 33) = w' := by
  go_enter Try.func62, Try.ntmps62
  go_wp2
  go_returns
  exact ⟨rfl, rfl⟩

set_option maxHeartbeats 400000 in
theorem sLess_any (a b c d : Int) (w : World) :
    Calls Try.prog 120 #[.agg #[.int .u64 a, .int .u64 b], .agg #[.int .u64 c, .int .u64 d]] w fun e w' => e = .returned (.agg #[.int .u64 (bits .andNot .u64 a c), .int .u64 (bits .andNot .u64 b d)]) ∧ ((w.alloc (.cells #[.int .u64 a, .int .u64 b] 33)).alloc (.cells #[.int .u64 c, .int .u64 d] 33)).alloc (.cells #[.int .u64 (bits .andNot .u64 a c), .int .u64 (bits .andNot .u64 b d)] 33) = w' := by
  go_enter Try.func120, Try.ntmps120
  go_wp2
  go_returns
  exact ⟨rfl, rfl⟩


end Go.Proofs.Ythkmahcdojoioac