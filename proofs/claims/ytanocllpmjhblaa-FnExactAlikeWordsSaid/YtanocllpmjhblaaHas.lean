/- Contracts: is a text in a list (slices.Contains, the model's l03Has), are all texts of one list in another (hasAll). -/
import Derived.Test.YtanocllpmjhblaaNames
import Derived.Test.YtanocllpmjhblaaStrs
import Derived.Test.YtanocllpmjhblaaQuiet
namespace Go.Proofs.Ytanocllpmjhblaa
open Go.ChangeShapes Go.WideShapes Go.ChangeAt Go.RowKit

theorem bytes_eqL (t s : ByteArray) : (t.data.toList == s.data.toList) = (t.toList == s.toList) := by rw [ByteArray.toList_eq, ByteArray.toList_eq]
theorem has_hit {ls : List ByteArray} {j : Nat} {s : ByteArray} (hj : j < ls.length) (h : ((ls.getD j ⟨#[]⟩).toList == s.toList) = true) : hasN ls s = true := by
  refine List.any_eq_true.2 ⟨ls[j], List.getElem_mem hj, ?_⟩
  rw [bytes_eqL]
  simpa [List.getD, hj] using h
theorem has_next {ls : List ByteArray} {j : Nat} {s : ByteArray} (hj : j < ls.length) : hasN (ls.take (j + 1)) s = (hasN (ls.take j) s || ((ls.getD j ⟨#[]⟩).toList == s.toList)) := by
  have e : ls.getD j ⟨#[]⟩ = ls[j] := by simp [List.getD, hj]
  unfold hasN
  rw [List.take_add_one, List.any_append, List.getElem?_eq_getElem hj, e, ← bytes_eqL]
  simp
theorem has_miss {ls : List ByteArray} {j : Nat} {s : ByteArray} (hj : j < ls.length) (h0 : hasN (ls.take j) s = false) (h : ((ls.getD j ⟨#[]⟩).toList == s.toList) = false) : hasN (ls.take (j + 1)) s = false := by rw [has_next hj, h0, h]; rfl
theorem has_end {ls : List ByteArray} {s : ByteArray} (h0 : hasN (ls.take ls.length) s = false) : hasN ls s = false := by rwa [List.take_length] at h0
theorem retBo {x y : Bool} (h : y = x) : Ending.returned (.bool x) = Ending.returned (.bool y) := by rw [h]
/-- An index, not negative just where the text is there. -/
def IxR (q : Bool) (w : World) (e : Ending) (w' : World) : Prop := ∃ r : Int, e = .returned (.int .i64 r) ∧ decide (0 ≤ r) = q ∧ w = w'




/-- Are the first k texts of a list all in another one? -/
def allN (xs zs : List ByteArray) : Nat → Bool
  | 0 => true
  | k + 1 => allN xs zs k && hasN xs (zs.getD k ⟨#[]⟩)
theorem allN_yes {xs zs : List ByteArray} {k : Nat} (h0 : allN xs zs k = true) (h : hasN xs (zs.getD k ⟨#[]⟩) = true) : allN xs zs (k + 1) = true := by show (_ && _) = true; rw [h0, h]; rfl
theorem allN_no {xs zs : List ByteArray} {k : Nat} (h : hasN xs (zs.getD k ⟨#[]⟩) = false) : ∀ d, allN xs zs (k + 1 + d) = false
  | 0 => by show (_ && _) = false; rw [h, Bool.and_false]
  | d + 1 => by show (allN xs zs (k + 1 + d) && _) = false; rw [allN_no h d]; rfl
theorem allN_bad {xs zs : List ByteArray} {k : Nat} (hk : k < zs.length) (h : hasN xs (zs.getD k ⟨#[]⟩) = false) : allN xs zs zs.length = false := by
  have := allN_no (xs := xs) (zs := zs) h (zs.length - (k + 1))
  rwa [show k + 1 + (zs.length - (k + 1)) = zs.length by omega] at this

end Go.Proofs.Ytanocllpmjhblaa
