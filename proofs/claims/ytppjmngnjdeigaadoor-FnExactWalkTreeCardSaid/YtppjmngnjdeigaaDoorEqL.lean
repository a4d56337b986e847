/- Two slices of numbers: are they equal, by slices.Equal and by the model's loop. -/
import Derived.Test.YtppjmngnjdeigaaDoorKn
import Derived.Test.YtppjmngnjdeigaaDoorQuiet
namespace Go.Proofs.YtppjmngnjdeigaaDoor
open Go.ChangeShapes Go.WideShapes Go.ChangeAt Go.RowKit

def eqTo (zs ys : List Int) : Nat → Bool
  | 0 => true
  | k + 1 => eqTo zs ys k && zs.getD k 0 == ys.getD k 0
def eqL (zs ys : List Int) : Bool := decide (zs.length = ys.length) && eqTo zs ys zs.length
theorem eqL_len {zs ys : List Int} (h : ¬ zs.length = ys.length) : eqL zs ys = false := by unfold eqL; simp [h]
theorem eqTo_no {zs ys : List Int} {k : Nat} (h : ¬ zs.getD k 0 = ys.getD k 0) : ∀ n, k < n → eqTo zs ys n = false
  | 0, hk => absurd hk (Nat.not_lt_zero _)
  | n + 1, hk => by
    unfold eqTo
    by_cases e : k = n
    · subst e; rw [beq_eq_false_iff_ne.2 h]; simp
    · rw [eqTo_no h n (by omega)]; rfl
theorem eqL_no {zs ys : List Int} {k : Nat} (hk : k < zs.length) (h : ¬ zs.getD k 0 = ys.getD k 0) : eqL zs ys = false := by unfold eqL; rw [eqTo_no h _ hk]; simp
theorem eqL_yes {zs ys : List Int} (hl : zs.length = ys.length) (h : eqTo zs ys zs.length = true) : eqL zs ys = true := by unfold eqL; rw [h, decide_eq_true hl]; rfl
theorem eqTo_next {zs ys : List Int} {k : Nat} (h : eqTo zs ys k = true) (e : zs.getD k 0 = ys.getD k 0) : eqTo zs ys (k + 1) = true := by unfold eqTo; rw [h, e]; simp
theorem kretB {x y : Bool} (h : y = x) : Ending.returned (.bool x) = Ending.returned (.bool y) := by rw [h]




end Go.Proofs.YtppjmngnjdeigaaDoor
