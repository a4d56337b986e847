/- Contracts of the laws' own functions on slices of knots: measured, compared. -/
import Derived.Test.YtaiedpblfnaooabI16
import Derived.Test.YtaiedpblfnaooabQuiet
import Derived.Deep.DeepCutAuto
namespace Go.Proofs.Ytaiedpblfnaooab
open Go.ChangeShapes Go.WideShapes Go.ChangeAt Go.RowKit

/-- What is left behind n numbers, or -1. -/
def szn (l : Int) (n : Nat) : Int := if l - (n : Int) < 0 then -1 else l - (n : Int)
theorem szn_no {l : Int} {n : Nat} (h : l - (n : Int) < 0) : szn l n = -1 := by unfold szn; rw [if_pos h]
theorem szn_yes {l : Int} {n : Nat} (h : ¬ l - (n : Int) < 0) : szn l n = l - (n : Int) := by unfold szn; rw [if_neg h]

set_option maxHeartbeats 800000 in
theorem szInts_any (a : Option Addr) (n c : Nat) (l : Int) (hn : n ≤ maxLen) (l0 : 0 ≤ l) (l1 : l ≤ 1048576) (w : World) :
    Calls Try.prog 109 #[.slice a n c, .int .i64 l] w fun e w' => e = .returned (.int .i64 (szn l n)) ∧ w = w' := by
  unfold maxLen at hn
  have d1 : IntKind.i64.wrap (l - (n : Int)) = l - (n : Int) := IntWalk.i64_in _ (by omega)
  by_cases h : l - (n : Int) < 0
  · have d2 : decide (l - (n : Int) < 0) = true := by simp; omega
    rw [szn_no h]
    go_enter Try.func109, Try.ntmps109
    go_wp2
    go_returns
    exact ⟨rfl, rfl⟩
  · have d2 : decide (l - (n : Int) < 0) = false := by simp; omega
    rw [szn_yes h]
    go_enter Try.func109, Try.ntmps109
    go_wp2
    go_returns
    exact ⟨rfl, rfl⟩


/-- What a measuring leaves of a knot: no more than there was; none of its slices is longer than it. -/
def KnSmall (k : Kn) : Prop := k.vs.length ≤ 1048576 ∧ k.ns.length ≤ 1048576 ∧ k.cs.length ≤ 1048576
def SzK1 (k : Kn) (w : World) (e : Ending) (w' : World) : Prop := ∃ z : Int, e = .returned (.int .i64 z) ∧ -1 ≤ z ∧ z ≤ 1048576 ∧ (0 ≤ z → KnSmall k) ∧ Below w.heap.size w w'


/-- What a measuring leaves: no more than there was, and no more knots than it. -/
def KsSmall (ks : List Kn) : Prop := ks.length ≤ 1048576 ∧ ∀ i, i < ks.length → KnSmall (knAt ks i)
def SzKs (ks : List Kn) (w : World) (e : Ending) (w' : World) : Prop := ∃ z : Int, e = .returned (.int .i64 z) ∧ -1 ≤ z ∧ z ≤ 1048576 ∧ (0 ≤ z → KsSmall ks) ∧ Below w.heap.size w w'
def SmTo (ks : List Kn) (n : Nat) : Prop := ∀ i, i < n → KnSmall (knAt ks i)
theorem smTo_next {ks : List Kn} {n : Nat} (h : SmTo ks n) (k : KnSmall (knAt ks n)) : SmTo ks (n + 1) := fun i hi => by
  by_cases e : i = n
  · subst e; exact k
  · exact h i (by omega)

end Go.Proofs.Ytaiedpblfnaooab
