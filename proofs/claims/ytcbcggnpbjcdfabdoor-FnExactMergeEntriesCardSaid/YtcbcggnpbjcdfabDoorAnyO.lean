/- A region that draws its order, by an invariant on what has been carried out: a law of the walk (no program). -/
import Derived.Test.YtcbcggnpbjcdfabDoorBase
import Derived.Orders
namespace Go.Proofs.YtcbcggnpbjcdfabDoor
open Go.ChangeShapes Go.WideShapes Go.ChangeAt Go.RowKit

def unlisted (l : Array Bool) : Nat := (l.toList.filter fun b => !b).length
theorem unlisted_set {l : Array Bool} {i : Nat} (h : l.getD i true = false) : unlisted (l.setIfInBounds i true) + 1 = unlisted l := by
  have hi : i < l.size := by
    rcases Nat.lt_or_ge i l.size with q | q
    · exact q
    · simp [Array.getD, Nat.not_lt.2 q] at h
  obtain ⟨xs⟩ := l
  simp only [unlisted, List.setIfInBounds_toArray] at *
  simp at hi
  have h2 : xs[i] = false := by simpa [Array.getD, hi] using h
  clear h
  induction xs generalizing i with
  | nil => simp at hi
  | cons x xs ih =>
    cases i with
    | zero => simp at h2; subst h2; simp
    | succ i =>
      have := ih (i := i) (by simpa using hi) (by simpa using h2)
      cases x <;> simp at this ⊢ <;> omega
theorem unlisted_zero {l : Array Bool} (h : unlisted l = 0) (i : Nat) : l.getD i true = true := by
  rcases Nat.lt_or_ge i l.size with q | q
  · cases e : l.getD i true
    · have := unlisted_set e; omega
    · rfl
  · simp [Array.getD, Nat.not_lt.2 q]
theorem wpAny_inv {P : Program} {md : Region.Mode} {ops : Array Oper} {Q : Exit → Act → World → Prop} (Inv : Array Bool → Act → World → Prop)
    (hdone : ∀ l a w, Inv l a w → Region.ready md ops l = [] → Q .normal a w)
    (hstep : ∀ l a w i, Inv l a w → i ∈ Region.ready md ops l → wpOp P ops Q i (Inv (l.setIfInBounds i true)) a w)
    (hmono : ∀ i (K K' : Act → World → Prop) a w, (∀ a w, K a w → K' a w) → wpOp P ops Q i K a w → wpOp P ops Q i K' a w) :
    ∀ fuel l a w, Inv l a w → unlisted l ≤ fuel → wpAny P md ops Q fuel l a w
  | 0, l, a, w, h, hu => by
    have hr : Region.ready md ops l = [] := by
      cases e : Region.ready md ops l with
      | nil => rfl
      | cons j js =>
        have := (mem_ready.1 (show j ∈ Region.ready md ops l by rw [e]; simp)).1
        rw [unlisted_zero (by omega) j] at this
        cases this
    exact ⟨hr, hdone l a w h hr⟩
  | fuel + 1, l, a, w, h, hu => ⟨hdone l a w h, fun i hi => hmono i _ _ a w (fun a w hi2 => wpAny_inv Inv hdone hstep hmono fuel _ a w hi2 (by have := unlisted_set (mem_ready.1 hi).1; omega)) (hstep l a w i h hi)⟩
end Go.Proofs.YtcbcggnpbjcdfabDoor
