/- Lists of indices: those below a number for which a test says yes. -/
import Derived.Test.YtanocllpmjhblaaOwns
import Derived.Test.YtanocllpmjhblaaAdd
namespace Go.Proofs.Ytanocllpmjhblaa
open Go.ChangeShapes Go.WideShapes Go.ChangeAt Go.RowKit

/-- The indices below k for which a test says yes. -/
def idx (p : Nat → Bool) : Nat → List Int
  | 0 => []
  | k + 1 => if p k then idx p k ++ [(k : Int)] else idx p k
theorem idx_yes {p : Nat → Bool} {k : Nat} (h : p k = true) : idx p (k + 1) = idx p k ++ [(k : Int)] := by show (if _ then _ else _) = _; rw [if_pos h]
theorem idx_no {p : Nat → Bool} {k : Nat} (h : p k = false) : idx p (k + 1) = idx p k := by show (if _ then _ else _) = _; rw [if_neg (by rw [h]; decide)]
theorem idx_len (p : Nat → Bool) : ∀ k, (idx p k).length ≤ k
  | 0 => Nat.le_refl _
  | k + 1 => by
    have := idx_len p k
    cases h : p k
    · rw [idx_no h]; omega
    · rw [idx_yes h, List.length_append]; simp; omega
theorem idx_mem (p : Nat → Bool) (x : Int) : ∀ k, x ∈ idx p k ↔ ∃ j : Nat, j < k ∧ p j = true ∧ x = (j : Int)
  | 0 => by simp [idx]
  | k + 1 => by
    have ih := idx_mem p x k
    cases h : p k
    · rw [idx_no h, ih]
      constructor
      · rintro ⟨j, h1, h2, h3⟩; exact ⟨j, by omega, h2, h3⟩
      · rintro ⟨j, h1, h2, h3⟩
        refine ⟨j, ?_, h2, h3⟩
        rcases Nat.lt_succ_iff_lt_or_eq.1 h1 with q | q
        · exact q
        · subst q; rw [h] at h2; cases h2
    · rw [idx_yes h, List.mem_append, ih]
      constructor
      · rintro (⟨j, h1, h2, h3⟩ | hx)
        · exact ⟨j, by omega, h2, h3⟩
        · exact ⟨k, by omega, h, by simpa using hx⟩
      · rintro ⟨j, h1, h2, h3⟩
        rcases Nat.lt_succ_iff_lt_or_eq.1 h1 with q | q
        · exact .inl ⟨j, q, h2, h3⟩
        · subst q; exact .inr (by simp [h3])
theorem idx_congr {p q : Nat → Bool} : ∀ {k : Nat}, (∀ j, j < k → p j = q j) → idx p k = idx q k
  | 0, _ => rfl
  | k + 1, h => by
    have ih := idx_congr (p := p) (q := q) (k := k) fun j hj => h j (by omega)
    have hk := h k (Nat.lt_succ_self k)
    cases hp : p k
    · rw [idx_no hp, idx_no (hk ▸ hp), ih]
    · rw [idx_yes hp, idx_yes (hk ▸ hp), ih]

/-- Are the holes x, y within a mask? -/
def wm (x y : Int) (m : Int × Int) : Bool := bits .and .u64 x m.1 == x && bits .and .u64 y m.2 == y
/-- The masks that have the holes x, y. -/
def dropsAt (x y : Int) (ms : List (Int × Int)) (k : Nat) : Bool := wm x y (ms.getD k (0, 0))
end Go.Proofs.Ytanocllpmjhblaa
