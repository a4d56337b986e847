/- Contracts of the laws' own functions on slices of cards: measured, carried over, compared. -/
import Derived.Test.YthkmahcdojoioaaCards
import Derived.Test.YthkmahcdojoioaaQuiet
namespace Go.Proofs.Ythkmahcdojoioaa
open Go.ChangeShapes Go.WideShapes Go.ChangeAt Go.RowKit

def szc (l : Int) (n : Nat) : Int := if l - (n : Int) < 0 then -1 else l - (n : Int)
theorem szc_no {l : Int} {n : Nat} (h : l - (n : Int) < 0) : szc l n = -1 := by unfold szc; rw [if_pos h]
theorem szc_yes {l : Int} {n : Nat} (h : ¬ l - (n : Int) < 0) : szc l n = l - (n : Int) := by unfold szc; rw [if_neg h]

set_option maxHeartbeats 800000 in
theorem szCard_any (s : ByteArray) (a b l : Int) (hs : s.size ≤ maxLen) (l0 : 0 ≤ l) (l1 : l ≤ 1048576) (w : World) :
    Calls Try.prog 16 #[.agg #[.string s, .int .u64 a, .int .u64 b], .int .i64 l] w fun e w' => e = .returned (.int .i64 (szc l s.size)) ∧ Below w.heap.size w w' := by
  unfold maxLen at hs
  have d1 : IntKind.i64.wrap (l - (s.size : Int)) = l - (s.size : Int) := IntWalk.i64_in _ (by omega)
  by_cases h : l - (s.size : Int) < 0
  · have d2 : decide (l - (s.size : Int) < 0) = true := by simp; omega
    rw [szc_no h]
    go_enter Try.func16, Try.ntmps16
    go_wp2
    go_returns
    exact ⟨rfl, (by repeat' (first | (with_reducible exact Below.refl _ _) | (with_reducible assumption) | (with_reducible refine below_drewN ?_ _) | (with_reducible refine Below.drew ?_) | (with_reducible refine below_new ?_ _) | (with_reducible refine below_next ?_ (by with_reducible assumption)) | (with_reducible refine Below.setCell ?_ ?_ _) | go_size))⟩
  · have d2 : decide (l - (s.size : Int) < 0) = false := by simp; omega
    rw [szc_yes h]
    go_enter Try.func16, Try.ntmps16
    go_wp2
    go_returns
    exact ⟨rfl, (by repeat' (first | (with_reducible exact Below.refl _ _) | (with_reducible assumption) | (with_reducible refine below_drewN ?_ _) | (with_reducible refine Below.drew ?_) | (with_reducible refine below_new ?_ _) | (with_reducible refine below_next ?_ (by with_reducible assumption)) | (with_reducible refine Below.setCell ?_ ?_ _) | go_size))⟩

/-- What a measuring leaves: no more than there was, and no more cards than it. -/
def SzR (n : Nat) (w : World) (e : Ending) (w' : World) : Prop := ∃ z : Int, e = .returned (.int .i64 z) ∧ -1 ≤ z ∧ z ≤ 1048576 ∧ (0 ≤ z → n ≤ 1048576) ∧ Below w.heap.size w w'

end Go.Proofs.Ythkmahcdojoioaa
