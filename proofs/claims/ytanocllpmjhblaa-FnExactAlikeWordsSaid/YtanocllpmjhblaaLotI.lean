/- Contracts: is a lot one of lists of words, as the program says and as the model does. -/
import Derived.Test.YtanocllpmjhblaaLot
namespace Go.Proofs.Ytanocllpmjhblaa
open Go.ChangeShapes Go.WideShapes Go.ChangeAt Go.RowKit

def LotTo (ls : List (List ByteArray)) (k : Nat) : Prop := ∀ j, j < k → wordsOk (lsAt ls j) 12 = true
instance (ls : List (List ByteArray)) (k : Nat) : Decidable (LotTo ls k) := by unfold LotTo; infer_instance
def lotOk (ls : List (List ByteArray)) : Bool := decide (ls.length ≤ 60 ∧ LotTo ls ls.length)
theorem lot_long {ls : List (List ByteArray)} (h : 60 < ls.length) : lotOk ls = false := decide_eq_false fun t => by have := t.1; omega
theorem lot_bad {ls : List (List ByteArray)} {k : Nat} (hk : k < ls.length) (h : wordsOk (lsAt ls k) 12 = false) : lotOk ls = false := decide_eq_false fun t => by have := t.2 k hk; rw [h] at this; cases this
theorem lot_yes {ls : List (List ByteArray)} (h : ls.length ≤ 60) (hw : LotTo ls ls.length) : lotOk ls = true := decide_eq_true ⟨h, hw⟩
theorem lotTo_next {ls : List (List ByteArray)} {k : Nat} (h : LotTo ls k) (hk : wordsOk (lsAt ls k) 12 = true) : LotTo ls (k + 1) := fun j hj => by
  by_cases e : j = k
  · subst e; exact hk
  · exact h j (by omega)
theorem lret_bool {x y : Bool} (h : y = x) : Ending.returned (.bool x) = Ending.returned (.bool y) := by rw [h]


def lotC (ls : List (List ByteArray)) : Int := if lotOk ls = true then 0 else 2
theorem lotC_no {ls : List (List ByteArray)} (h : lotOk ls = false) : lotC ls = 2 := by unfold lotC; rw [h]; rfl
theorem lotC_yes {ls : List (List ByteArray)} (h : lotOk ls = true) : lotC ls = 0 := by unfold lotC; rw [h]; rfl

end Go.Proofs.Ytanocllpmjhblaa
