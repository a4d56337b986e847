/- Contracts: how many holes are worn. -/
import Derived.Test.YtanocllpmjhblaaWear
import Derived.Test.YtanocllpmjhblaaCount
namespace Go.Proofs.Ytanocllpmjhblaa
open Go.ChangeShapes Go.WideShapes Go.ChangeAt Go.RowKit

/-- How many holes, and which answer is due. -/
def wrnV (a b c d : Nat) : Int := if qOk a b c d then ((cnt a b : Int) + (cnt c d : Int)) else 0
def wrnC (a b c d : Nat) : Int := if qOk a b c d then 0 else 1
theorem wrn_no {a b c d : Nat} (h : qOk a b c d = false) : wrnV a b c d = 0 ∧ wrnC a b c d = 1 := by unfold wrnV wrnC; rw [h]; exact ⟨rfl, rfl⟩
theorem wrn_yes {a b c d : Nat} (h : qOk a b c d = true) : wrnV a b c d = (cnt a b : Int) + (cnt c d : Int) ∧ wrnC a b c d = 0 := by unfold wrnV wrnC; rw [h]; exact ⟨rfl, rfl⟩
theorem ret_wrn {x y c d : Int} (h : y = x ∧ d = c) : Ending.returned (.tuple #[.int .i64 x, .int .i64 c]) = Ending.returned (.tuple #[.int .i64 y, .int .i64 d]) := by rw [h.1, h.2]
theorem ret_num {x y : Int} (h : y = x) : Ending.returned (.int .i64 x) = Ending.returned (.int .i64 y) := by rw [h]

set_option maxHeartbeats 1600000 in
theorem iCnt_any (a b c d : Nat) (ha : a < 18446744073709551616) (hb : b < 18446744073709551616) (hc : c < 18446744073709551616) (hd : d < 18446744073709551616) (w : World) :
    Calls Try.prog 93 #[.agg #[.int .u64 (a : Int), .int .u64 (b : Int), .int .u64 (c : Int), .int .u64 (d : Int)]] w fun e w' => e = .returned (.int .i64 ((cnt a b : Int) + (cnt c d : Int))) ∧ Below w.heap.size w w' := by
  have X := Lib.hid fun W => iCount_any a b ha hb W
  have Y := Lib.hid fun W => iCount_any c d hc hd W
  have p1 := cnt_le a b
  have p2 := cnt_le c d
  have s1 : IntKind.i64.wrap ((cnt a b : Int) + (cnt c d : Int)) = (cnt a b : Int) + (cnt c d : Int) := IntWalk.i64_in _ (by omega)
  have hbw := cell_bw
  clear ha hb hc hd
  go_enter Try.func93, Try.ntmps93
  go_wp2_with fail
  refine region_bw (by kernel_rfl) (by kernel_rfl) ?_
  repeat (go_big_quiet_step (first | (go_at_call_of 117 (Value.int IntKind.u64 (a : Int)); exact calls_bw (X.out _)) | (go_at_call_of 117 (Value.int IntKind.u64 (c : Int)); exact calls_bw (Y.out _))))
  refine wpQuiet_nil ?_; intro wq hq; replace hq := below_of_bw hq; obtain ⟨qc, qf, qz⟩ := bcell hq
  go_wp2
  go_returns
  exact ⟨rfl, (by repeat' (first | (with_reducible exact Below.refl _ _) | (with_reducible assumption) | (with_reducible refine below_drewN ?_ _) | (with_reducible refine Below.drew ?_) | (with_reducible refine below_new ?_ _) | (with_reducible refine below_next ?_ (by with_reducible assumption)) | (with_reducible refine Below.setCell ?_ ?_ _) | go_size))⟩


end Go.Proofs.Ytanocllpmjhblaa
