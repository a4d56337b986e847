/- Groups of cards with equal notches: which are told, and where they lie. -/
import Derived.Test.YtanocllpmjhblaaGrpR
import Derived.Test.YtanocllpmjhblaaSs
import Derived.Test.YtanocllpmjhblaaDeckI
import Derived.Test.YtanocllpmjhblaaDeck3
namespace Go.Proofs.Ytanocllpmjhblaa
open Go.ChangeShapes Go.WideShapes Go.ChangeAt Go.RowKit

section
variable (h0 h1 : Nat → Int) (n : Nat)
/-- The group of a card. -/
def grp (i : Nat) : List Int := grI h0 h1 n (h0 i) (h1 i)
/-- Is its group told at this card? -/
def dupB (i : Nat) : Bool := decide (1 < (grp h0 h1 n i).length) && ((grp h0 h1 n i).getD 0 0 == (i : Int))
def dupTo : Nat → List (List Int)
  | 0 => []
  | i + 1 => if dupB h0 h1 n i = true then dupTo i ++ [grp h0 h1 n i] else dupTo i
def dvTo (g : Int → Int → Value) : Nat → List Value
  | 0 => []
  | i + 1 => if dupB h0 h1 n i = true then dvTo g i ++ [g (h0 i) (h1 i)] else dvTo g i
/-- Is there no such card before it, among the first k? -/
def fstB (i : Nat) : Nat → Bool
  | 0 => true
  | k + 1 => if hasM h0 h1 (h0 i) (h1 i) k = true then (fstB i k && decide (i ≤ k)) else fstB i k
end
section
variable {h0 h1 : Nat → Int} {n : Nat}
theorem dup_yes {i : Nat} (h : dupB h0 h1 n i = true) : dupTo h0 h1 n (i + 1) = dupTo h0 h1 n i ++ [grp h0 h1 n i] := if_pos h
theorem dup_no {i : Nat} (h : dupB h0 h1 n i = false) : dupTo h0 h1 n (i + 1) = dupTo h0 h1 n i := if_neg (by rw [h]; decide)
theorem dv_yes {g : Int → Int → Value} {i : Nat} (h : dupB h0 h1 n i = true) : dvTo h0 h1 n g (i + 1) = dvTo h0 h1 n g i ++ [g (h0 i) (h1 i)] := if_pos h
theorem dv_no {g : Int → Int → Value} {i : Nat} (h : dupB h0 h1 n i = false) : dvTo h0 h1 n g (i + 1) = dvTo h0 h1 n g i := if_neg (by rw [h]; decide)
theorem fst_yes {i k : Nat} (h : hasM h0 h1 (h0 i) (h1 i) k = true) : fstB h0 h1 i (k + 1) = (fstB h0 h1 i k && decide (i ≤ k)) := if_pos h
theorem fst_no {i k : Nat} (h : hasM h0 h1 (h0 i) (h1 i) k = false) : fstB h0 h1 i (k + 1) = fstB h0 h1 i k := if_neg (by rw [h]; decide)
theorem dv_len (g : Int → Int → Value) : ∀ i, (dvTo h0 h1 n g i).length = (dupTo h0 h1 n i).length
  | 0 => rfl
  | i + 1 => by
    cases h : dupB h0 h1 n i
    · rw [dv_no h, dup_no h]; exact dv_len g i
    · rw [dv_yes h, dup_yes h, List.length_append, List.length_append, dv_len g i]; rfl
theorem dup_len : ∀ i, (dupTo h0 h1 n i).length ≤ i
  | 0 => Nat.le_refl _
  | i + 1 => by
    have := dup_len i
    cases h : dupB h0 h1 n i
    · rw [dup_no h]; omega
    · rw [dup_yes h, List.length_append]; simp; omega
theorem dup_each : ∀ i k, k < (dupTo h0 h1 n i).length → ((dupTo h0 h1 n i).getD k []).length ≤ n
  | 0, k, h => absurd h (Nat.not_lt_zero _)
  | i + 1, k, hk => by
    cases h : dupB h0 h1 n i
    · rw [dup_no h] at hk ⊢; exact dup_each i k hk
    · rw [dup_yes h] at hk ⊢
      rw [List.length_append, List.length_singleton] at hk
      by_cases e : k < (dupTo h0 h1 n i).length
      · rw [List.getD, List.getElem?_append_left e]; exact dup_each i k e
      · have : k = (dupTo h0 h1 n i).length := by omega
        subst this
        rw [List.getD, List.getElem?_append_right (Nat.le_refl _), Nat.sub_self]
        exact rG_len _ _ _
theorem dv_mem {g : Int → Int → Value} {u : Value} : ∀ {i k : Nat}, (dvTo h0 h1 n g i)[k]? = some u → ∃ j, j < i ∧ dupB h0 h1 n j = true ∧ u = g (h0 j) (h1 j)
  | 0, k, h => by simp [dvTo] at h
  | i + 1, k, h => by
    cases q : dupB h0 h1 n i
    · rw [dv_no q] at h
      obtain ⟨j, a, b⟩ := dv_mem h
      exact ⟨j, by omega, b⟩
    · rw [dv_yes q] at h
      by_cases e : k < (dvTo h0 h1 n g i).length
      · rw [List.getElem?_append_left e] at h
        obtain ⟨j, a, b⟩ := dv_mem h
        exact ⟨j, by omega, b⟩
      · rw [List.getElem?_append_right (by omega)] at h
        have hk : k - (dvTo h0 h1 n g i).length < 1 := by have := (List.getElem?_eq_some_iff.1 h).1; simpa using this
        rw [show k - (dvTo h0 h1 n g i).length = 0 by omega] at h
        exact ⟨i, Nat.lt_succ_self i, q, by simpa using h.symm⟩
/-- Two cards at which groups are told have different notches. -/
theorem dup_ne {i j : Nat} (hi : dupB h0 h1 n i = true) (hj : dupB h0 h1 n j = true) (hne : i ≠ j) : ¬ (h0 i = h0 j ∧ h1 i = h1 j) := fun ⟨e0, e1⟩ => by
  unfold dupB at hi hj
  rw [Bool.and_eq_true, beq_iff_eq] at hi hj
  have : grp h0 h1 n i = grp h0 h1 n j := by unfold grp; rw [e0, e1]
  rw [this] at hi
  have := hi.2.symm.trans hj.2
  omega
theorem dv_rows {g : Int → Int → Value} {B : Nat} {w : World} (hg : ∀ j, OwnInts B (grp h0 h1 n j) (g (h0 j) (h1 j)) w) : ∀ i k, k < (dupTo h0 h1 n i).length → ∃ u, (dvTo h0 h1 n g i)[k]? = some u ∧ OwnInts B ((dupTo h0 h1 n i).getD k []) u w
  | 0, k, h => absurd h (Nat.not_lt_zero _)
  | i + 1, k, hk => by
    cases h : dupB h0 h1 n i
    · rw [dup_no h] at hk ⊢; rw [dv_no h]; exact dv_rows hg i k hk
    · rw [dup_yes h] at hk ⊢
      rw [dv_yes h]
      rw [List.length_append, List.length_singleton] at hk
      have L := dv_len (h0 := h0) (h1 := h1) (n := n) g i
      by_cases e : k < (dupTo h0 h1 n i).length
      · obtain ⟨u, a, b⟩ := dv_rows hg i k e
        exact ⟨u, by rw [List.getElem?_append_left (by omega)]; exact a, by rw [List.getD, List.getElem?_append_left e]; exact b⟩
      · have : k = (dupTo h0 h1 n i).length := by omega
        subst this
        exact ⟨_, by rw [List.getElem?_append_right (by omega), L, Nat.sub_self]; rfl, by rw [List.getD, List.getElem?_append_right (Nat.le_refl _), Nat.sub_self]; exact hg i⟩
theorem dv_apart {g : Int → Int → Value} (hg : ∀ i j, ¬ (h0 i = h0 j ∧ h1 i = h1 j) → Ap (g (h0 i) (h1 i)) (g (h0 j) (h1 j))) : ∀ i (a b : Nat) (u v : Value), a < b → (dvTo h0 h1 n g i)[a]? = some u → (dvTo h0 h1 n g i)[b]? = some v → Ap u v ∧ Ap v u
  | 0, a, b, u, v, _, h, _ => by simp [dvTo] at h
  | i + 1, a, b, u, v, hab, ha, hb => by
    cases h : dupB h0 h1 n i
    · rw [dv_no h] at ha hb; exact dv_apart hg i a b u v hab ha hb
    · rw [dv_yes h] at ha hb
      have lb : b < (dvTo h0 h1 n g i).length + 1 := by have := (List.getElem?_eq_some_iff.1 hb).1; simpa using this
      rw [List.getElem?_append_left (by omega)] at ha
      by_cases e : b < (dvTo h0 h1 n g i).length
      · rw [List.getElem?_append_left e] at hb
        exact dv_apart hg i a b u v hab ha hb
      · rw [List.getElem?_append_right (by omega), show b - (dvTo h0 h1 n g i).length = 0 by omega] at hb
        obtain ⟨j, hj, hd, rfl⟩ := dv_mem ha
        have e : v = g (h0 i) (h1 i) := by simpa using hb.symm
        subst e
        exact ⟨hg _ _ (dup_ne hd h (by omega)), hg _ _ (dup_ne h hd (by omega))⟩

theorem rG_head (p : Nat → Bool) : ∀ d j l k, k = j + d → k < l → p k = true → 0 < (rG p j l).length ∧ (rG p j l).getD 0 0 ≤ (k : Int)
  | 0, j, l, k, e, hk, hp => by
    have e : j = k := by omega
    subst e
    rw [rG_step p j hp l hk]
    exact ⟨by simp, by simp⟩
  | d + 1, j, l, k, e, hk, hp => by
    cases q : p j
    · rw [rG_skip p j q l]
      exact rG_head p d (j + 1) l k (by omega) hk hp
    · rw [rG_step p j q l (by omega)]
      exact ⟨by simp, by simp; omega⟩
theorem rG_from (p : Nat → Bool) (l : Nat) : ∀ j, (∀ k, k < j → p k = false) → rG p 0 l = rG p j l
  | 0, _ => rfl
  | j + 1, h => by rw [rG_from p l j (fun k hk => h k (by omega)), rG_skip p j (h j (Nat.lt_succ_self j))]
theorem fst_all {i : Nat} : ∀ k, fstB h0 h1 i k = true ↔ ∀ j, j < k → hasM h0 h1 (h0 i) (h1 i) j = true → i ≤ j
  | 0 => ⟨fun _ j hj => absurd hj (Nat.not_lt_zero _), fun _ => rfl⟩
  | k + 1 => by
    have ih := fst_all (i := i) k
    cases q : hasM h0 h1 (h0 i) (h1 i) k
    · rw [fst_no q, ih]
      constructor
      · intro a j hj hp
        by_cases e : j = k
        · subst e; rw [q] at hp; cases hp
        · exact a j (by omega) hp
      · intro a j hj hp; exact a j (by omega) hp
    · rw [fst_yes q, Bool.and_eq_true, decide_eq_true_eq, ih]
      constructor
      · rintro ⟨a, b⟩ j hj hp
        by_cases e : j = k
        · subst e; exact b
        · exact a j (by omega) hp
      · intro a; exact ⟨fun j hj hp => a j (by omega) hp, a k (Nat.lt_succ_self k) q⟩
/-- The model's test. -/
theorem dup_is {i : Nat} (hi : i < n) : dupB h0 h1 n i = (fstB h0 h1 i n && decide (1 < (grp h0 h1 n i).length)) := by
  unfold dupB
  rw [Bool.and_comm]
  congr 1
  have self : hasM h0 h1 (h0 i) (h1 i) i = true := by unfold hasM; simp
  rw [Bool.eq_iff_iff, beq_iff_eq, fst_all]
  constructor
  · intro e j hj hp
    have := (rG_head (hasM h0 h1 (h0 i) (h1 i)) j 0 n j (by omega) hj hp).2
    have e2 : (rG (hasM h0 h1 (h0 i) (h1 i)) 0 n).getD 0 0 = (i : Int) := e
    omega
  · intro a
    have : rG (hasM h0 h1 (h0 i) (h1 i)) 0 n = rG (hasM h0 h1 (h0 i) (h1 i)) i n := rG_from _ _ i fun k hk => by
      cases q : hasM h0 h1 (h0 i) (h1 i) k
      · rfl
      · have := a k (by omega) q; omega
    show (rG (hasM h0 h1 (h0 i) (h1 i)) 0 n).getD 0 0 = _
    rw [this, rG_step _ _ self n hi]
    rfl
end
/-- What is told of a deck. -/
def dups (cs : List Cd) : List (List Int) := dupTo (fun i => (cdAt cs i).a) (fun i => (cdAt cs i).b) cs.length cs.length
def DuR (c : Int) (gs : List (List Int)) (w : World) (e : Ending) (w' : World) : Prop := ∃ v, e = .returned (.tuple #[v, .int .i64 c]) ∧ OwnSS w.heap.size gs v w' ∧ Below w.heap.size w w'
def duC (cs : List Cd) : Int := if deckOk cs then 0 else 1
def duL (cs : List Cd) : List (List Int) := if deckOk cs then dups cs else []
end Go.Proofs.Ytanocllpmjhblaa
