/- Numbers in order, and the first one from a number on: no program in it. -/
import Derived.Test.YtdbkplfkilaoeaaMath
namespace Go.Proofs.Ytdbkplfkilaoeaa

/-- No number is less than the one before it. -/
def ordB (key : Nat → Int) (n : Nat) : Bool := (List.range (n - 1)).all fun i => !decide (key (i + 1) < key i)
theorem ordB_no {key : Nat → Int} {n i : Nat} (h : i + 1 < n) (hk : key (i + 1) < key i) : ordB key n = false := by
  unfold ordB
  rw [List.all_eq_false]
  exact ⟨i, List.mem_range.2 (by omega), by simp [hk]⟩
theorem ordB_yes {key : Nat → Int} {n : Nat} (h : ∀ i, i + 1 < n → ¬ key (i + 1) < key i) : ordB key n = true := by
  unfold ordB
  rw [List.all_eq_true]
  intro i hi
  have := h i (by have := List.mem_range.1 hi; omega)
  simp; omega
theorem ordB_inv {key : Nat → Int} {n : Nat} (h : ordB key n = true) : ∀ i j, i ≤ j → j < n → key i ≤ key j := by
  unfold ordB at h
  rw [List.all_eq_true] at h
  intro i j hij
  induction j with
  | zero => intro _; have : i = 0 := by omega
            subst this; exact Int.le_refl _
  | succ j ih =>
    intro hj
    by_cases e : i = j + 1
    · subst e; exact Int.le_refl _
    · have h1 := ih (by omega) (by omega)
      have h2 := h j (List.mem_range.2 (by omega))
      simp at h2
      omega

/-- All before r are less than x, and none from r on. -/
def Fst (key : Nat → Int) (x : Int) (n r : Nat) : Prop := r ≤ n ∧ (∀ i, i < r → key i < x) ∧ (∀ i, r ≤ i → i < n → x ≤ key i)
theorem fst_ex {key : Nat → Int} (x : Int) {n : Nat} (h : ∀ i j, i ≤ j → j < n → key i ≤ key j) : ∃ r, Fst key x n r := by
  suffices H : ∀ m, m ≤ n → ∃ r, Fst key x m r from H n (Nat.le_refl _)
  intro m
  induction m with
  | zero => intro _; exact ⟨0, Nat.le_refl _, fun i hi => absurd hi (Nat.not_lt_zero _), fun i _ hi => absurd hi (Nat.not_lt_zero _)⟩
  | succ m ih =>
    intro hm
    obtain ⟨r, h0, h1, h2⟩ := ih (by omega)
    by_cases hx : key m < x
    · exact ⟨m + 1, Nat.le_refl _, fun i hi => Int.lt_of_le_of_lt (h i m (by omega) (by omega)) hx, fun i h3 h4 => by omega⟩
    · refine ⟨r, by omega, h1, fun i h3 h4 => ?_⟩
      by_cases e : i = m
      · subst e; omega
      · exact h2 i h3 (by omega)
/-- The walk from the left comes to it. -/
theorem fst_stop {key : Nat → Int} {x : Int} {n r i : Nat} (h : Fst key x n r) (hi : i ≤ r) (hs : i = n ∨ ¬ key i < x) : i = r := by
  obtain ⟨h0, h1, h2⟩ := h
  by_cases e : i = r
  · exact e
  · have := h1 i (by omega)
    rcases hs with hs | hs
    · omega
    · exact absurd this hs
theorem fst_next {key : Nat → Int} {x : Int} {n r i : Nat} (h : Fst key x n r) (hi : i ≤ r) (hn : i < n) (hs : key i < x) : i + 1 ≤ r := by
  obtain ⟨h0, h1, h2⟩ := h
  by_cases e : i = r
  · have := h2 i (by omega) hn; omega
  · omega
/-- The search by halves. -/
theorem fst_low {key : Nat → Int} {x : Int} {n r m : Nat} (h : Fst key x n r) (hn : m < n) (hs : key m < x) : m + 1 ≤ r := by
  obtain ⟨h0, h1, h2⟩ := h
  by_cases e : r ≤ m
  · have := h2 m e hn; omega
  · omega
theorem fst_high {key : Nat → Int} {x : Int} {n r m : Nat} (h : Fst key x n r) (hs : ¬ key m < x) : r ≤ m := by
  obtain ⟨h0, h1, h2⟩ := h
  by_cases e : r ≤ m
  · exact e
  · exact absurd (h1 m (by omega)) hs
end Go.Proofs.Ytdbkplfkilaoeaa
