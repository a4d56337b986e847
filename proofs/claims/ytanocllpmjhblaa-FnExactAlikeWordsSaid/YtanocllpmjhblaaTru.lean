/- Contracts: the lists that have all words (TrueOf), the program's and the model's. -/
import Derived.Test.YtanocllpmjhblaaHas
import Derived.Test.YtanocllpmjhblaaIdx
import Derived.Test.YtanocllpmjhblaaLotI
import Derived.Test.YtanocllpmjhblaaMayW
import Derived.Laws.MakeOwn
namespace Go.Proofs.Ytanocllpmjhblaa
open Go.ChangeShapes Go.WideShapes Go.ChangeAt Go.RowKit

/-- Has the list with an index all words? -/
def trueAt (ls : List (List ByteArray)) (zs : List ByteArray) (k : Nat) : Bool := allN (lsAt ls k) zs zs.length
/-- The code of a lot and words. -/
def lwC (ls : List (List ByteArray)) (zs : List ByteArray) : Int := if lotOk ls = true then wordsC zs 12 else 2
theorem lwC_lot {ls : List (List ByteArray)} (zs : List ByteArray) (h : lotOk ls = false) : lwC ls zs = 2 := by unfold lwC; rw [h]; rfl
theorem lwC_words {ls : List (List ByteArray)} {zs : List ByteArray} (h : lotOk ls = true) : lwC ls zs = wordsC zs 12 := by unfold lwC; rw [if_pos h]
theorem lot_60 {ls : List (List ByteArray)} (h : lotOk ls = true) : ls.length ≤ 60 := (of_decide_eq_true h).1


/-! ### The model's -/
theorem allN_step_no {xs zs : List ByteArray} {k : Nat} (h : allN xs zs k = false) : allN xs zs (k + 1) = false := by show (_ && _) = false; rw [h]; rfl
theorem allN_step {xs zs : List ByteArray} {k : Nat} {q : Bool} (h : allN xs zs k = true) (h2 : hasN xs (zs.getD k ⟨#[]⟩) = q) : allN xs zs (k + 1) = q := by show (_ && _) = q; rw [h, h2]; rfl


end Go.Proofs.Ytanocllpmjhblaa
