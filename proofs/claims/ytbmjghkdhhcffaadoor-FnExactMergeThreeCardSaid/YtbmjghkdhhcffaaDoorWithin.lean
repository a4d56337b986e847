/- Contracts: is one mask within another one, as the model says. -/
import Derived.Test.YtbmjghkdhhcffaaDoorHole
namespace Go.Proofs.YtbmjghkdhhcffaaDoor
open Go.ChangeShapes Go.WideShapes Go.ChangeAt Go.RowKit

theorem within_less (a c : Int) (ha : U64 a) (hc : U64 c) : (bits .andNot .u64 a c == 0) = (bits .and .u64 a c == a) := by
  rw [Go.u64_andNot a c ha.1 ha.2 hc.1 hc.2, Go.u64_and a c ha.1 ha.2 hc.1 hc.2]
  obtain ⟨x, rfl⟩ := Int.eq_ofNat_of_zero_le ha.1
  obtain ⟨y, rfl⟩ := Int.eq_ofNat_of_zero_le hc.1
  simp only [Int.toNat_natCast]
  have hx : x < 2 ^ 64 := by have := ha.2; omega
  have hy : y < 2 ^ 64 := by have := hc.2; omega
  have e : (x &&& (18446744073709551615 - y)) = 0 ↔ x &&& y = x := by
    have hz : ∀ i, (18446744073709551615 - y).testBit i = (decide (i < 64) && !y.testBit i) := fun i => by
      rw [show 18446744073709551615 - y = 2 ^ 64 - (y + 1) from by omega, Nat.testBit_two_pow_sub_succ hy]
    constructor
    · intro h
      apply Nat.eq_of_testBit_eq
      intro i
      have := congrArg (fun n => n.testBit i) h
      simp only [Nat.testBit_and, hz, Nat.zero_testBit] at this
      rw [Nat.testBit_and]
      by_cases hi : i < 64
      · cases hxi : x.testBit i <;> cases hyi : y.testBit i <;> simp_all
      · have : x.testBit i = false := Nat.testBit_lt_two_pow (Nat.lt_of_lt_of_le hx (Nat.pow_le_pow_right (by decide) (by omega)))
        simp [this]
    · intro h
      apply Nat.eq_of_testBit_eq
      intro i
      have := congrArg (fun n => n.testBit i) h
      simp only [Nat.testBit_and, hz, Nat.zero_testBit] at *
      cases hxi : x.testBit i <;> cases hyi : y.testBit i <;> simp_all
  rw [Bool.eq_iff_iff]
  simp only [beq_iff_eq]
  constructor
  · intro h; exact congrArg (fun n : Nat => (n : Int)) (e.1 (by exact_mod_cast h))
  · intro h; exact congrArg (fun n : Nat => (n : Int)) (e.2 (by exact_mod_cast h))


end Go.Proofs.YtbmjghkdhhcffaaDoor
