/- Holes that show that a card does not drop: which they are, which is the lowest; is there none, the card drops. -/
import Derived.Test.YtanocllpmjhblaaNrP
import Derived.Test.YtanocllpmjhblaaHoles
import Derived.Test.YtanocllpmjhblaaDrops
import Derived.Test.YtanocllpmjhblaaWithin
namespace Go.Proofs.Ytanocllpmjhblaa
open Go.ChangeShapes Go.WideShapes Go.ChangeAt Go.RowKit

theorem bit_nat (x k : Nat) : (((x : Int) / 2 ^ k) % 2 == 1) = x.testBit k := by
  have e : ((x : Int) / 2 ^ k) % 2 = ((x / 2 ^ k % 2 : Nat) : Int) := by
    rw [Int.natCast_emod, Int.natCast_ediv, Int.natCast_pow]; rfl
  rw [e, Nat.testBit_eq_decide_div_mod_eq]
  by_cases h : x / 2 ^ k % 2 = 1
  · simp [h]
  · rw [decide_eq_false h, beq_eq_false_iff_ne]
    omega
theorem hasB_nat (x y k : Nat) : hasB (x : Int) (y : Int) (k : Int) = if k < 64 then x.testBit k else y.testBit (k - 64) := by
  unfold hasB
  by_cases h : k < 64
  · rw [if_pos h, if_pos (by omega), Int.toNat_natCast, bit_nat]
  · rw [if_neg h, if_neg (by omega), show ((k : Int) - 64).toNat = k - 64 by omega, bit_nat]

/-- The mask of the witnesses for a card. -/
def wit0 (a c m : Int) : Int := bits .or .u64 (bits .andNot .u64 a m) (bits .and .u64 c m)
/-- Is a hole a witness. -/
def shw (a b c d m n k : Int) : Bool := hasB a b k && !hasB m n k || hasB c d k && hasB m n k
theorem wit_bit {a c m k : Nat} (ha : a < 18446744073709551616) (hc : c < 18446744073709551616) (hm : m < 18446744073709551616) : ∃ w : Nat, wit0 (a : Int) (c : Int) (m : Int) = (w : Int) ∧ w < 18446744073709551616 ∧ (k < 64 → w.testBit k = (a.testBit k && !m.testBit k || c.testBit k && m.testBit k)) ∧ w = (a &&& (18446744073709551615 - m)) ||| (c &&& m) := by
  have l1 : a &&& (18446744073709551615 - m) < 18446744073709551616 := Nat.lt_of_le_of_lt Nat.and_le_left ha
  have l2 : c &&& m < 18446744073709551616 := Nat.lt_of_le_of_lt Nat.and_le_left hc
  refine ⟨(a &&& (18446744073709551615 - m)) ||| (c &&& m), ?_, Nat.or_lt_two_pow (n := 64) l1 l2, fun hk => ?_, rfl⟩
  · unfold wit0
    rw [Go.u64_andNot_nat a m ha hm, Go.u64_and_nat c m hc hm, Go.u64_or_nat _ _ l1 l2]
  · rw [Nat.testBit_or, Nat.testBit_and, Nat.testBit_and, less_bits m k (by omega)]
    simp [hk]
theorem wit_u64 {a c m : Int} (ha : U64 a) (hc : U64 c) (hm : U64 m) : U64 (wit0 a c m) := by
  obtain ⟨x, rfl⟩ := Int.eq_ofNat_of_zero_le ha.1
  obtain ⟨y, rfl⟩ := Int.eq_ofNat_of_zero_le hc.1
  obtain ⟨z, rfl⟩ := Int.eq_ofNat_of_zero_le hm.1
  obtain ⟨w, e, hw, _⟩ := wit_bit (k := 0) (a := x) (c := y) (m := z) (by have := ha.2; omega) (by have := hc.2; omega) (by have := hm.2; omega)
  rw [e]
  exact ⟨by omega, by omega⟩
theorem wit_low {b d n : Int} (hb : U64 b) (hd : U64 d) (hn : U64 n) (h1 : maskOk b = true) (h2 : maskOk d = true) : (wit0 b d n / 4294967296 == 0) = true := by
  have l1 := low_nat hb h1
  have l2 := low_nat hd h2
  obtain ⟨x, rfl⟩ := Int.eq_ofNat_of_zero_le hb.1
  obtain ⟨y, rfl⟩ := Int.eq_ofNat_of_zero_le hd.1
  obtain ⟨z, rfl⟩ := Int.eq_ofNat_of_zero_le hn.1
  rw [Int.toNat_natCast] at l1 l2
  obtain ⟨w, e, _, _, hw⟩ := wit_bit (k := 0) (a := x) (c := y) (m := z) (by omega) (by omega) (by have := hn.2; omega)
  have : w < 2 ^ 32 := by
    rw [hw]
    exact Nat.or_lt_two_pow (n := 32) (Nat.lt_of_le_of_lt Nat.and_le_left l1) (Nat.lt_of_le_of_lt Nat.and_le_left l2)
  rw [e]
  simp
  omega
/-- The holes of that mask are the witnesses. -/
theorem wit_has {a b c d m n : Int} (ha : U64 a) (hb : U64 b) (hc : U64 c) (hd : U64 d) (hm : U64 m) (hn : U64 n) {k : Nat} (hk : k < 128) : hasB (wit0 a c m) (wit0 b d n) (k : Int) = shw a b c d m n (k : Int) := by
  obtain ⟨xa, rfl⟩ := Int.eq_ofNat_of_zero_le ha.1
  obtain ⟨xb, rfl⟩ := Int.eq_ofNat_of_zero_le hb.1
  obtain ⟨xc, rfl⟩ := Int.eq_ofNat_of_zero_le hc.1
  obtain ⟨xd, rfl⟩ := Int.eq_ofNat_of_zero_le hd.1
  obtain ⟨xm, rfl⟩ := Int.eq_ofNat_of_zero_le hm.1
  obtain ⟨xn, rfl⟩ := Int.eq_ofNat_of_zero_le hn.1
  obtain ⟨w0, e0, _, t0, _⟩ := wit_bit (k := k) (a := xa) (c := xc) (m := xm) (by have := ha.2; omega) (by have := hc.2; omega) (by have := hm.2; omega)
  obtain ⟨w1, e1, _, t1, _⟩ := wit_bit (k := k - 64) (a := xb) (c := xd) (m := xn) (by have := hb.2; omega) (by have := hd.2; omega) (by have := hn.2; omega)
  unfold shw
  rw [e0, e1, hasB_nat, hasB_nat, hasB_nat, hasB_nat]
  by_cases h : k < 64
  · simp only [if_pos h]; exact t0 h
  · simp only [if_neg h]; exact t1 (by omega)
theorem wit_zero {a b c d m n : Int} (ha : U64 a) (_hb : U64 b) (hm : U64 m) (hn : U64 n) (hb2 : U64 b) (h : wit0 a c m = 0 ∧ wit0 b d n = 0) (hc : U64 c) (hd : U64 d) : qdrop a b c d m n = true := by
  have or0 : ∀ {x y : Int}, U64 x → U64 y → bits .or .u64 x y = 0 → x = 0 ∧ y = 0 := by
    intro x y hx hy e
    obtain ⟨p, rfl⟩ := Int.eq_ofNat_of_zero_le hx.1
    obtain ⟨q, rfl⟩ := Int.eq_ofNat_of_zero_le hy.1
    rw [Go.u64_or_nat p q (by have := hx.2; omega) (by have := hy.2; omega)] at e
    have e2 : p ||| q = 0 := by exact_mod_cast e
    have := Nat.or_eq_zero_iff.1 e2
    omega
  have andU : ∀ {x y : Int}, U64 x → U64 y → U64 (bits .and .u64 x y) := by
    intro x y hx hy
    obtain ⟨p, rfl⟩ := Int.eq_ofNat_of_zero_le hx.1
    obtain ⟨q, rfl⟩ := Int.eq_ofNat_of_zero_le hy.1
    rw [Go.u64_and_nat p q (by have := hx.2; omega) (by have := hy.2; omega)]
    have : p &&& q ≤ p := Nat.and_le_left
    have := hx.2
    exact ⟨by omega, by omega⟩
  obtain ⟨p1, p2⟩ := or0 (u64_less ha hm) (andU hc hm) h.1
  obtain ⟨q1, q2⟩ := or0 (u64_less hb2 hn) (andU hd hn) h.2
  have r1 := within_less a m ha hm
  have r2 := within_less b n hb2 hn
  rw [p1] at r1
  rw [q1] at r2
  unfold qdrop allIn meetZ
  rw [← r1, ← r2, p2, q2]
  rfl
theorem nat_zero {x n : Nat} (hx : x < 2 ^ n) (h : ∀ k, k < n → x.testBit k = false) : x = 0 := by
  apply Nat.eq_of_testBit_eq
  intro i
  rw [Nat.zero_testBit]
  by_cases hi : i < n
  · exact h i hi
  · exact Nat.testBit_lt_two_pow (Nat.lt_of_lt_of_le hx (Nat.pow_le_pow_right (by decide) (by omega)))
/-- A card that does not drop has a witness. -/
theorem shw_some {a b c d m n : Int} (ha : U64 a) (hb : U64 b) (hc : U64 c) (hd : U64 d) (hm : U64 m) (hn : U64 n) (h1 : maskOk b = true) (h2 : maskOk d = true) (h : qdrop a b c d m n = false) : ∃ k : Nat, k < 96 ∧ shw a b c d m n (k : Int) = true := by
  by_cases e : ∃ k : Nat, k < 96 ∧ shw a b c d m n (k : Int) = true
  · exact e
  · have hno : ∀ k : Nat, k < 96 → hasB (wit0 a c m) (wit0 b d n) (k : Int) = false := fun k hk => by
      rw [wit_has ha hb hc hd hm hn (by omega)]
      cases hs : shw a b c d m n (k : Int)
      · rfl
      · exact absurd ⟨k, hk, hs⟩ e
    have u0 := wit_u64 ha hc hm
    have u1 := wit_u64 hb hd hn
    have lo := low_nat u1 (show maskOk (wit0 b d n) = true from wit_low hb hd hn h1 h2)
    have z0 : wit0 a c m = 0 := by
      obtain ⟨x, hx⟩ := Int.eq_ofNat_of_zero_le u0.1
      have hb := u0.2
      have hno2 := hno
      generalize wit0 b d n = y at hno2 u1
      obtain ⟨y, rfl⟩ := Int.eq_ofNat_of_zero_le u1.1
      rw [hx] at hno2 hb ⊢
      rw [nat_zero (x := x) (n := 64) (by omega) (fun k hk => by have := hno2 k (by omega); rwa [hasB_nat, if_pos hk] at this)]
      rfl
    have z1 : wit0 b d n = 0 := by
      obtain ⟨y, hy⟩ := Int.eq_ofNat_of_zero_le u1.1
      have hno2 := hno
      generalize wit0 a c m = x at hno2 u0
      obtain ⟨x, rfl⟩ := Int.eq_ofNat_of_zero_le u0.1
      rw [hy] at hno2 lo ⊢
      rw [Int.toNat_natCast] at lo
      rw [nat_zero (x := y) (n := 32) lo (fun k hk => by have := hno2 (k + 64) (by omega); rw [hasB_nat, if_neg (by omega)] at this; simpa using this)]
      rfl
    rw [wit_zero ha hb hm hn hb ⟨z0, z1⟩ hc hd] at h
    cases h
/-- One that drops has none. -/
theorem shw_none {a b c d m n : Int} (ha : U64 a) (hb : U64 b) (hc : U64 c) (hd : U64 d) (hm : U64 m) (hn : U64 n) (h : qdrop a b c d m n = true) (k : Nat) (hk : k < 128) : shw a b c d m n (k : Int) = false := by
  rw [← wit_has ha hb hc hd hm hn hk]
  unfold qdrop allIn meetZ at h
  simp only [Bool.and_eq_true] at h
  obtain ⟨⟨h1, h2⟩, h3, h4⟩ := h
  rw [← within_less a m ha hm] at h1
  rw [← within_less b n hb hn] at h2
  simp only [beq_iff_eq] at h1 h2 h3 h4
  unfold wit0
  rw [h1, h2, h3, h4, or_zero_zero]
  have := hasB_nat 0 0 k
  simp only [Nat.zero_testBit, Int.cast_ofNat_Int] at this
  split at this <;> exact this
theorem hol_none {f : Int → Bool} (n : Nat) (h : ∀ k : Nat, k < n → f (k : Int) = false) : hol f n = [] := by
  induction n with
  | zero => rfl
  | succ n ih => rw [hol_no (h n (by omega)), ih (fun k hk => h k (by omega))]
theorem hol_more {f : Int → Bool} (k : Nat) {x : Int} {t : List Int} (h : hol f k = x :: t) : ∀ n, ∃ u, hol f (k + n) = x :: u
  | 0 => ⟨t, h⟩
  | n + 1 => by
    obtain ⟨u, hu⟩ := hol_more k h n
    cases hf : f ((k + n : Nat) : Int)
    · exact ⟨u, by rw [← Nat.add_assoc, hol_no hf, hu]⟩
    · exact ⟨u ++ [((k + n : Nat) : Int)], by rw [← Nat.add_assoc, hol_yes hf, hu]; rfl⟩
/-- The lowest hole that f tells. -/
theorem hol_first {f : Int → Bool} {k : Nat} (hk : k < 96) (h : ∀ j : Nat, j < k → f (j : Int) = false) (hf : f (k : Int) = true) : ∃ u, hol f 96 = (k : Int) :: u := by
  have e : hol f (k + 1) = (k : Int) :: [] := by rw [hol_yes hf, hol_none k h]; rfl
  obtain ⟨u, hu⟩ := hol_more (k + 1) e (96 - (k + 1))
  exact ⟨u, by rw [← hu, show k + 1 + (96 - (k + 1)) = 96 by omega]⟩
/-- The lowest one of those that f tells, 0 if there is none. -/
def lowH (f : Int → Bool) : Nat := ((hol f 96).headD 0).toNat
theorem lowH_is {f : Int → Bool} {k : Nat} (hk : k < 96) (h : ∀ j : Nat, j < k → f (j : Int) = false) (hf : f (k : Int) = true) : lowH f = k := by
  obtain ⟨u, hu⟩ := hol_first hk h hf
  unfold lowH; rw [hu]; simp
theorem least_of {p : Nat → Bool} : ∀ n, (∃ k, k < n ∧ p k = true) → ∃ k, k < n ∧ p k = true ∧ ∀ j, j < k → p j = false
  | 0, h => by obtain ⟨k, hk, _⟩ := h; omega
  | n + 1, h => by
    by_cases e : ∃ k, k < n ∧ p k = true
    · obtain ⟨k, hk, h1, h2⟩ := least_of n e
      exact ⟨k, by omega, h1, h2⟩
    · obtain ⟨k, hk, h1⟩ := h
      have : k = n := by
        by_cases hkn : k < n
        · exact absurd ⟨k, hkn, h1⟩ e
        · omega
      subst this
      refine ⟨k, by omega, h1, fun j hj => ?_⟩
      cases hp : p j
      · rfl
      · exact absurd ⟨j, hj, hp⟩ e
/-- A card that does not drop: its witness is the lowest one. -/
theorem low_some {f : Int → Bool} (h : ∃ k : Nat, k < 96 ∧ f (k : Int) = true) : lowH f < 96 ∧ f (lowH f : Int) = true ∧ (∀ j : Nat, j < lowH f → f (j : Int) = false) ∧ ∃ u, hol f 96 = (lowH f : Int) :: u := by
  obtain ⟨k, hk, h1, h2⟩ := least_of (p := fun k => f (k : Int)) 96 h
  have e := lowH_is hk h2 h1
  rw [e]
  exact ⟨hk, h1, h2, hol_first hk h2 h1⟩
end Go.Proofs.Ytanocllpmjhblaa
