/- Contracts: is one mask within another; is a hole in a mask, and which answer is due. -/
import Derived.Test.YtpkpjkceiikakaaDoorMasks
import Derived.Test.YtpkpjkceiikakaaDoorBit
import Derived.Test.YtpkpjkceiikakaaDoorArr
import Derived.Deep.DeepCutAuto
namespace Go.Proofs.YtpkpjkceiikakaaDoor
open Go.ChangeShapes Go.WideShapes Go.ChangeAt Go.RowKit

set_option maxHeartbeats 1600000 in
theorem iWithin_any (a b c d : Int) (w : World) :
    Calls Tryd.prog 67 #[.agg #[.int .u64 a, .int .u64 b], .agg #[.int .u64 c, .int .u64 d]] w fun e w' => e = .returned (.bool (bits .and .u64 a c == a && bits .and .u64 b d == b)) ∧ Below w.heap.size w w' := by
  have he := eq_mask
  go_enter Tryd.func67, Tryd.ntmps67
  go_wp2_with fail
  go_region_held3 (fun w' => w'.cell? ⟨w.heap.size, 0, none⟩ = some (.int .u64 a) ∧ w'.cell? ⟨w.heap.size, 1, none⟩ = some (.int .u64 b) ∧ w'.cell? ⟨w.heap.size + 1, 0, none⟩ = some (.int .u64 c) ∧ w'.cell? ⟨w.heap.size + 1, 1, none⟩ = some (.int .u64 d))
    (first | (refine ⟨?_, ?_, ?_, ?_⟩ <;> first | (simp; done) | (simp [go_sem]; done)))
    (first | (go_at_call 91; refine (iMeet_any _ _ _ _ _).mono ?_; rintro e w1 ⟨rfl, rfl⟩))
  all_goals go_wp2
  all_goals go_returns
  all_goals exact ⟨rfl, (by repeat' (first | (with_reducible exact Below.refl _ _) | (with_reducible assumption) | (with_reducible refine below_drewN ?_ _) | (with_reducible refine Below.drew ?_) | (with_reducible refine below_new ?_ _) | (with_reducible refine below_next ?_ (by with_reducible assumption)) | (with_reducible refine Below.setCell ?_ ?_ _) | go_size))⟩

def hasC (b n : Int) : Int := if b / 4294967296 = 0 then (if 0 ≤ n ∧ n ≤ 95 then 0 else 2) else 1
def hasV (a b n : Int) : Bool := if b / 4294967296 = 0 ∧ 0 ≤ n ∧ n ≤ 95 then hasB a b n else false

theorem hasC_inv {b : Int} (n : Int) (h : ¬ b / 4294967296 = 0) : hasC b n = 1 := by unfold hasC; rw [if_neg h]
theorem hasV_inv (a : Int) {b : Int} (n : Int) (h : ¬ b / 4294967296 = 0) : hasV a b n = false := by unfold hasV; rw [if_neg (fun x => h x.1)]
theorem hasC_out {b n : Int} (h : b / 4294967296 = 0) (hn : ¬ (0 ≤ n ∧ n ≤ 95)) : hasC b n = 2 := by unfold hasC; rw [if_pos h, if_neg hn]
theorem hasV_out (a b : Int) {n : Int} (hn : ¬ (0 ≤ n ∧ n ≤ 95)) : hasV a b n = false := by unfold hasV; rw [if_neg (fun x => hn x.2)]
theorem hasC_ok {b n : Int} (h : b / 4294967296 = 0) (hn : 0 ≤ n ∧ n ≤ 95) : hasC b n = 0 := by unfold hasC; rw [if_pos h, if_pos hn]
theorem hasV_ok (a : Int) {b n : Int} (h : b / 4294967296 = 0) (hn : 0 ≤ n ∧ n ≤ 95) : hasV a b n = hasB a b n := by unfold hasV; rw [if_pos ⟨h, hn.1, hn.2⟩]

theorem ret_has (a b n : Int) (x : Bool) (c : Int) (hx : hasV a b n = x) (hc : hasC b n = c) : Ending.returned (.tuple #[.bool x, .int .i64 c]) = Ending.returned (.tuple #[.bool (hasV a b n), .int .i64 (hasC b n)]) := by rw [hx, hc]

end Go.Proofs.YtpkpjkceiikakaaDoor
