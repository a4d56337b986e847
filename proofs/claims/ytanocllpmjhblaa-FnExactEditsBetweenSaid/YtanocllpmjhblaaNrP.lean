/- The cards nearest to a mask, in plain words: how near they are, which they are. -/
import Derived.Test.YtanocllpmjhblaaFar
import Derived.Test.YtanocllpmjhblaaFind
namespace Go.Proofs.Ytanocllpmjhblaa
open Go.ChangeShapes Go.WideShapes Go.ChangeAt Go.RowKit

theorem pop_disj (n : Nat) : ∀ x y : Nat, x &&& y = 0 → M.pop n x + M.pop n y ≤ n := by
  induction n with
  | zero => intro x y _; simp [M.pop]
  | succ n ih =>
    intro x y h
    have h2 : x / 2 &&& y / 2 = 0 := by
      have := Nat.and_div_two_pow (a := x) (b := y) (n := 1)
      simp only [Nat.pow_one] at this
      rw [← this, h]
    have h1 : ¬ (x % 2 = 1 ∧ y % 2 = 1) := by
      rintro ⟨hx, hy⟩
      have e : (x &&& y).testBit 0 = true := by rw [Nat.testBit_and, Nat.testBit_zero, Nat.testBit_zero, hx, hy]; rfl
      rw [h] at e
      simp at e
    have := ih _ _ h2
    simp only [M.pop]
    omega
theorem less_bits (c i : Nat) (hc : c < 2 ^ 64) : (18446744073709551615 - c).testBit i = (decide (i < 64) && !c.testBit i) := by
  have := Nat.testBit_two_pow_sub_succ (n := 64) hc i
  rw [show 2 ^ 64 - (c + 1) = 18446744073709551615 - c from by omega] at this
  exact this
theorem less_disj {a c : Nat} (ha : a < 2 ^ 64) (hc : c < 2 ^ 64) : (c &&& (18446744073709551615 - a)) &&& (a &&& (18446744073709551615 - c)) = 0 := by
  apply Nat.eq_of_testBit_eq
  intro i
  rw [Nat.testBit_and, Nat.testBit_and, Nat.testBit_and, less_bits a i ha, less_bits c i hc, Nat.zero_testBit]
  cases a.testBit i <;> cases c.testBit i <;> simp
theorem pop_low {x : Nat} (h : x < 2 ^ 32) : M.pop 64 x = M.pop 32 x := by
  have e := M.pop_add 32 32 x
  simp only [Nat.reduceAdd] at e
  rw [e, Nat.div_eq_of_lt h, M.pop_zero, Nat.add_zero]
theorem less_natB (x y : Nat) (l1 : y < 18446744073709551616) (l2 : x < 18446744073709551616) : (bits .andNot .u64 (y : Int) (x : Int)).toNat = y &&& (18446744073709551615 - x) := by
  rw [Go.u64_andNot_nat y x l1 l2]
  exact Int.toNat_natCast _
theorem less_nat {a c : Int} (ha : U64 a) (hc : U64 c) : (bits .andNot .u64 c a).toNat = c.toNat &&& (18446744073709551615 - a.toNat) := by
  have h := less_natB a.toNat c.toNat (u64_nat hc) (u64_nat ha)
  rw [Int.toNat_of_nonneg ha.1, Int.toNat_of_nonneg hc.1] at h
  exact h
theorem low_nat {b : Int} (hb : U64 b) (h : maskOk b = true) : b.toNat < 2 ^ 32 := by
  unfold maskOk at h
  have := hb.1
  simp at h
  omega
/-- Two masks differ in no more holes than there are. -/
theorem far_96 {a b c d : Int} (ha : U64 a) (hb : U64 b) (hc : U64 c) (hd : U64 d) (h1 : maskOk b = true) (h2 : maskOk d = true) : far a b c d ≤ 96 := by
  have n1 := u64_nat ha
  have n2 := u64_nat hb
  have n3 := u64_nat hc
  have n4 := u64_nat hd
  have l2 := low_nat hb h1
  have l4 := low_nat hd h2
  unfold far cnt
  rw [less_nat ha hc, less_nat hb hd, less_nat hc ha, less_nat hd hb]
  have p1 := pop_disj 64 _ _ (less_disj (a := a.toNat) (c := c.toNat) (by omega) (by omega))
  have p2 := pop_disj 32 _ _ (less_disj (a := b.toNat) (c := d.toNat) (by omega) (by omega))
  have e1 : M.pop 64 (d.toNat &&& (18446744073709551615 - b.toNat)) = M.pop 32 (d.toNat &&& (18446744073709551615 - b.toNat)) := pop_low (Nat.lt_of_le_of_lt Nat.and_le_left l4)
  have e2 : M.pop 64 (b.toNat &&& (18446744073709551615 - d.toNat)) = M.pop 32 (b.toNat &&& (18446744073709551615 - d.toNat)) := pop_low (Nat.lt_of_le_of_lt Nat.and_le_left l2)
  rw [e1, e2]
  omega
theorem far_symm (a b c d : Int) : far a b c d = far c d a b := by unfold far; omega

/-- How far a card is from a mask. -/
def farK (cs : List Cd) (a b : Int) (k : Nat) : Nat := far a b (cdAt cs k).a (cdAt cs k).b
/-- How far the nearest of the first n is, of 96 at most. -/
def mnF (f : Nat → Nat) : Nat → Nat
  | 0 => 96
  | k + 1 => if f k < mnF f k then f k else mnF f k
/-- Which of the first n are just so far. -/
def atF (f : Nat → Nat) (m : Nat) (n : Nat) : List Int := ((List.range n).filter fun k => f k == m).map fun k : Nat => (k : Int)
theorem mnF_le (f : Nat → Nat) : ∀ n k, k < n → mnF f n ≤ f k
  | 0, k, h => absurd h (Nat.not_lt_zero _)
  | n + 1, k, h => by
    unfold mnF
    by_cases e : k = n
    · subst e; split <;> omega
    · have := mnF_le f n k (by omega)
      split <;> omega
theorem atF_zero (f : Nat → Nat) (m : Nat) : atF f m 0 = [] := rfl
theorem atF_yes {f : Nat → Nat} {m n : Nat} (h : f n = m) : atF f m (n + 1) = atF f m n ++ [(n : Int)] := by
  unfold atF; rw [List.range_succ, List.filter_append, List.map_append]; simp [h]
theorem atF_no {f : Nat → Nat} {m n : Nat} (h : f n ≠ m) : atF f m (n + 1) = atF f m n := by
  unfold atF; rw [List.range_succ, List.filter_append, List.map_append]; simp [h]
theorem atF_none {f : Nat → Nat} {m n : Nat} (h : ∀ k, k < n → f k ≠ m) : atF f m n = [] := by
  unfold atF
  rw [List.filter_eq_nil_iff.2 (fun k hk => by simp at hk; simp [h k hk])]
  rfl
theorem atF_len (f : Nat → Nat) (m n : Nat) : (atF f m n).length ≤ n := by
  unfold atF; rw [List.length_map]; exact Nat.le_trans (List.length_filter_le _ _) (by simp)
/-- A nearer one: none of those ahead of it counts any more. -/
theorem near_less {f : Nat → Nat} {n : Nat} (h : f n < mnF f n) : mnF f (n + 1) = f n ∧ atF f (mnF f (n + 1)) (n + 1) = [] ++ [(n : Int)] := by
  have e : mnF f (n + 1) = f n := by rw [mnF, if_pos h]
  refine ⟨e, ?_⟩
  rw [e, atF_yes rfl, atF_none (fun k hk => by have := mnF_le f n k hk; omega)]
theorem near_same {f : Nat → Nat} {n : Nat} (h : f n = mnF f n) : mnF f (n + 1) = mnF f n ∧ atF f (mnF f (n + 1)) (n + 1) = atF f (mnF f n) n ++ [(n : Int)] := by
  have e : mnF f (n + 1) = mnF f n := by rw [mnF, if_neg (by omega)]
  exact ⟨e, by rw [e, atF_yes h]⟩
theorem near_more {f : Nat → Nat} {n : Nat} (h : mnF f n < f n) : mnF f (n + 1) = mnF f n ∧ atF f (mnF f (n + 1)) (n + 1) = atF f (mnF f n) n := by
  have e : mnF f (n + 1) = mnF f n := by rw [mnF, if_neg (by omega)]
  exact ⟨e, by rw [e, atF_no (by omega)]⟩
theorem mnF_one {f : Nat → Nat} (h : f 0 ≤ 96) : mnF f 1 = f 0 := by
  unfold mnF; unfold mnF; split <;> omega
theorem mnF_96 (f : Nat → Nat) : ∀ n, mnF f n ≤ 96
  | 0 => Nat.le_refl _
  | n + 1 => by unfold mnF; have := mnF_96 f n; split <;> omega

theorem okTo_at {cs : List Cd} : ∀ {n i : Nat}, okTo cs n = true → i < n → cardOk (cdAt cs i).s (cdAt cs i).b = true
  | 0, i, _, h => absurd h (Nat.not_lt_zero _)
  | n + 1, i, h, hi => by
    unfold okTo at h
    rw [Bool.and_eq_true, Bool.and_eq_true] at h
    by_cases e : i = n
    · subst e; exact h.2.1
    · exact okTo_at h.1 (by omega)
theorem deckOk_mask {cs : List Cd} (h : deckOk cs = true) {i : Nat} (hi : i < cs.length) : maskOk (cdAt cs i).b = true := by
  unfold deckOk at h
  rw [Bool.and_eq_true] at h
  have := okTo_at h.2 hi
  unfold cardOk at this
  rw [Bool.and_eq_true] at this
  exact this.2
end Go.Proofs.Ytanocllpmjhblaa
