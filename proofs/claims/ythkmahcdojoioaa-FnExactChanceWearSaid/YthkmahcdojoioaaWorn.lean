/- Bits of masks that are worn: no program in it. -/
import Derived.Test.YthkmahcdojoioaaLcg
namespace Go.Proofs.Ythkmahcdojoioaa
open Go.ChangeShapes Go.WideShapes Go.ChangeAt Go.RowKit

theorem less_bit (c i : Nat) (hc : c < 2 ^ 64) : (18446744073709551615 - c).testBit i = (decide (i < 64) && !c.testBit i) := by
  have := Nat.testBit_two_pow_sub_succ (n := 64) hc i
  rw [show 2 ^ 64 - (c + 1) = 18446744073709551615 - c from by omega] at this
  exact this
theorem bit_big {a i : Nat} (ha : a < 2 ^ 64) (hi : 64 ≤ i) : a.testBit i = false := Nat.testBit_lt_two_pow (Nat.lt_of_lt_of_le ha (Nat.pow_le_pow_right (by decide) hi))
theorem or_less {a c t : Nat} (ha : a < 2 ^ 64) (hc : c < 2 ^ 64) (ht : t < 2 ^ 64) (h : t &&& c = 0) : (a &&& (18446744073709551615 - c)) ||| t = (a ||| t) &&& (18446744073709551615 - c) := by
  apply Nat.eq_of_testBit_eq
  intro i
  have hb : (t.testBit i && c.testBit i) = false := by rw [← Nat.testBit_and, h]; simp
  rw [Nat.testBit_or, Nat.testBit_and, Nat.testBit_and, Nat.testBit_or, less_bit c i hc]
  by_cases h64 : i < 64
  · simp only [h64, decide_true, Bool.true_and]
    revert hb
    cases a.testBit i <;> cases t.testBit i <;> cases c.testBit i <;> simp
  · rw [bit_big ha (by omega), bit_big ht (by omega)]; simp
/-- To take away and to put to, in either order. -/
theorem wear_on {a c t : Int} (ha : U64 a) (hc : U64 c) (ht : U64 t) (h : bits .and .u64 t c = 0) : bits .or .u64 (bits .andNot .u64 a c) t = bits .andNot .u64 (bits .or .u64 a t) c := by
  obtain ⟨x, rfl⟩ := Int.eq_ofNat_of_zero_le ha.1
  obtain ⟨y, rfl⟩ := Int.eq_ofNat_of_zero_le hc.1
  obtain ⟨z, rfl⟩ := Int.eq_ofNat_of_zero_le ht.1
  have hx : x < 2 ^ 64 := by have := ha.2; omega
  have hy : y < 2 ^ 64 := by have := hc.2; omega
  have hz : z < 2 ^ 64 := by have := ht.2; omega
  rw [Go.u64_and_nat z y (by omega) (by omega)] at h
  have h0 : z &&& y = 0 := by exact_mod_cast h
  have l1 : x &&& (18446744073709551615 - y) < 18446744073709551616 := Nat.lt_of_le_of_lt Nat.and_le_left (by omega)
  have l2 : x ||| z < 18446744073709551616 := Nat.or_lt_two_pow (n := 64) hx hz
  rw [Go.u64_andNot_nat x y (by omega) (by omega), Go.u64_or_nat x z (by omega) (by omega), Go.u64_or_nat _ z l1 (by omega), Go.u64_andNot_nat _ y l2 (by omega), or_less hx hy hz h0]

/-- What chance has torn and filled. -/
structure CW where
  t0 : Nat
  t1 : Nat
  f0 : Nat
  f1 : Nat
def CW.tear (x : CW) (k : Nat) : CW := ⟨x.t0 ||| B0 k, x.t1 ||| B1 k, x.f0, x.f1⟩
def CW.fill (x : CW) (k : Nat) : CW := ⟨x.t0, x.t1, x.f0 ||| B0 k, x.f1 ||| B1 k⟩
def rnd (sd : Int) (k : Nat) : Int := lci (k + 1) sd / 65536 % 1000
def cw (a b torn filled sd : Int) : Nat → CW
  | 0 => ⟨0, 0, 0, 0⟩
  | k + 1 => if hasB a b k then (if rnd sd k < filled then (cw a b torn filled sd k).fill k else cw a b torn filled sd k)
    else (if rnd sd k < torn then (cw a b torn filled sd k).tear k else cw a b torn filled sd k)
theorem cw_fill {a b torn filled sd : Int} {k : Nat} (h : hasB a b k = true) (hr : rnd sd k < filled) : cw a b torn filled sd (k + 1) = (cw a b torn filled sd k).fill k := by
  rw [cw, if_pos h, if_pos hr]
theorem cw_nofill {a b torn filled sd : Int} {k : Nat} (h : hasB a b k = true) (hr : ¬ rnd sd k < filled) : cw a b torn filled sd (k + 1) = cw a b torn filled sd k := by
  rw [cw, if_pos h, if_neg hr]
theorem cw_tear {a b torn filled sd : Int} {k : Nat} (h : hasB a b k = false) (hr : rnd sd k < torn) : cw a b torn filled sd (k + 1) = (cw a b torn filled sd k).tear k := by
  rw [cw, if_neg (by simp [h]), if_pos hr]
theorem cw_notear {a b torn filled sd : Int} {k : Nat} (h : hasB a b k = false) (hr : ¬ rnd sd k < torn) : cw a b torn filled sd (k + 1) = cw a b torn filled sd k := by
  rw [cw, if_neg (by simp [h]), if_neg hr]

structure CW.Fits (x : CW) (k : Nat) : Prop where
  t0 : x.t0 < 2 ^ 64
  t1 : x.t1 < 2 ^ 64
  f0 : x.f0 < 2 ^ 64
  f1 : x.f1 < 2 ^ 64
  n0 : ∀ i, k ≤ i → x.t0.testBit i = false ∧ x.f0.testBit i = false
  n1 : ∀ i, k ≤ i + 64 → x.t1.testBit i = false ∧ x.f1.testBit i = false
  d0 : x.t0 &&& x.f0 = 0
  d1 : x.t1 &&& x.f1 = 0
theorem and_put {t f k : Nat} (h : t &&& f = 0) (hk : f.testBit k = false) : (t ||| 2 ^ k) &&& f = 0 := by
  apply Nat.eq_of_testBit_eq
  intro i
  have hb : (t.testBit i && f.testBit i) = false := by rw [← Nat.testBit_and, h]; simp
  rw [Nat.testBit_and, Nat.testBit_or, Nat.testBit_two_pow, Nat.zero_testBit]
  by_cases e : k = i
  · subst e; rw [hk]; simp
  · simp only [e, decide_false, Bool.or_false]; exact hb
theorem bit_put {t k i : Nat} (h : t.testBit i = false) (hk : k ≠ i) : (t ||| 2 ^ k).testBit i = false := by
  rw [Nat.testBit_or, Nat.testBit_two_pow, h]; simp [hk]
theorem B0_lo {k : Nat} (h : k < 64) : B0 (k : Int) = 2 ^ k := by unfold B0; rw [if_pos (by omega)]; simp
theorem B0_hi {k : Nat} (h : ¬ k < 64) : B0 (k : Int) = 0 := by unfold B0; rw [if_neg (by omega)]
theorem B1_lo {k : Nat} (h : k < 64) : B1 (k : Int) = 0 := by unfold B1; rw [if_pos (by omega)]
theorem B1_hi {k : Nat} (h : ¬ k < 64) : B1 (k : Int) = 2 ^ (k - 64) := by unfold B1; rw [if_neg (by omega), show ((k : Int) - 64).toNat = k - 64 from by omega]
theorem CW.Fits.tear {x : CW} {k : Nat} (h : x.Fits k) (hk : k < 96) : (x.tear k).Fits (k + 1) := by
  obtain ⟨b0, b1⟩ := B_lt (h := (k : Int)) (by omega)
  refine ⟨Nat.or_lt_two_pow h.t0 b0, Nat.or_lt_two_pow h.t1 b1, h.f0, h.f1, fun i hi => ⟨?_, (h.n0 i (by omega)).2⟩, fun i hi => ⟨?_, (h.n1 i (by omega)).2⟩, ?_, ?_⟩
  · show (x.t0 ||| B0 k).testBit i = false
    by_cases e : k < 64
    · rw [B0_lo e]; exact bit_put (h.n0 i (by omega)).1 (by omega)
    · rw [B0_hi e, Nat.or_zero]; exact (h.n0 i (by omega)).1
  · show (x.t1 ||| B1 k).testBit i = false
    by_cases e : k < 64
    · rw [B1_lo e, Nat.or_zero]; exact (h.n1 i (by omega)).1
    · rw [B1_hi e]; exact bit_put (h.n1 i (by omega)).1 (by omega)
  · show (x.t0 ||| B0 k) &&& x.f0 = 0
    by_cases e : k < 64
    · rw [B0_lo e]; exact and_put h.d0 (h.n0 k (Nat.le_refl _)).2
    · rw [B0_hi e, Nat.or_zero]; exact h.d0
  · show (x.t1 ||| B1 k) &&& x.f1 = 0
    by_cases e : k < 64
    · rw [B1_lo e, Nat.or_zero]; exact h.d1
    · rw [B1_hi e]; exact and_put h.d1 (h.n1 (k - 64) (by omega)).2
theorem CW.Fits.swap {x : CW} {k : Nat} (h : x.Fits k) : CW.Fits ⟨x.f0, x.f1, x.t0, x.t1⟩ k :=
  ⟨h.f0, h.f1, h.t0, h.t1, fun i hi => ⟨(h.n0 i hi).2, (h.n0 i hi).1⟩, fun i hi => ⟨(h.n1 i hi).2, (h.n1 i hi).1⟩, by rw [Nat.and_comm]; exact h.d0, by rw [Nat.and_comm]; exact h.d1⟩
theorem CW.Fits.fill {x : CW} {k : Nat} (h : x.Fits k) (hk : k < 96) : (x.fill k).Fits (k + 1) := (h.swap.tear hk).swap
theorem CW.Fits.keep {x : CW} {k : Nat} (h : x.Fits k) : x.Fits (k + 1) := ⟨h.t0, h.t1, h.f0, h.f1, fun i hi => h.n0 i (by omega), fun i hi => h.n1 i (by omega), h.d0, h.d1⟩
theorem cw_fits (a b torn filled sd : Int) : ∀ k, k ≤ 96 → (cw a b torn filled sd k).Fits k
  | 0, _ => by
    show CW.Fits ⟨0, 0, 0, 0⟩ 0
    exact ⟨by decide, by decide, by decide, by decide, fun i _ => ⟨Nat.zero_testBit i, Nat.zero_testBit i⟩, fun i _ => ⟨Nat.zero_testBit i, Nat.zero_testBit i⟩, rfl, rfl⟩
  | k + 1, hk => by
    have ih := cw_fits a b torn filled sd k (by omega)
    cases h : hasB a b k
    · by_cases hr : rnd sd k < torn
      · rw [cw_tear h hr]; exact ih.tear (by omega)
      · rw [cw_notear h hr]; exact ih.keep
    · by_cases hr : rnd sd k < filled
      · rw [cw_fill h hr]; exact ih.fill (by omega)
      · rw [cw_nofill h hr]; exact ih.keep
end Go.Proofs.Ythkmahcdojoioaa
