/- Plain mathematics of masks: bits of natural numbers; no Go in sight. -/
import Derived.WalkKit
namespace Go.Proofs.YtnbijfeidgddmaaGreatDoor.M

/-- How many of the lowest n bits are set. -/
def pop : Nat → Nat → Nat
  | 0, _ => 0
  | n + 1, x => x % 2 + pop n (x / 2)

theorem pop_le (n x : Nat) : pop n x ≤ n := by
  induction n generalizing x with
  | zero => simp [pop]
  | succ n ih => have := ih (x / 2); simp only [pop]; omega

theorem pop_add (m n x : Nat) : pop (m + n) x = pop m x + pop n (x / 2 ^ m) := by
  induction m generalizing x with
  | zero => simp [pop]
  | succ m ih =>
    rw [show m + 1 + n = (m + n) + 1 from by omega]
    simp only [pop]
    rw [ih (x / 2), Nat.div_div_eq_div_mul, Nat.pow_succ, Nat.mul_comm 2]
    omega

theorem pop_mod (n x : Nat) : pop n (x % 2 ^ n) = pop n x := by
  induction n generalizing x with
  | zero => simp [pop]
  | succ n ih =>
    simp only [pop]
    have h1 : x % 2 ^ (n + 1) % 2 = x % 2 := by
      rw [Nat.mod_mod_of_dvd]; exact ⟨2 ^ n, by rw [Nat.pow_succ]; omega⟩
    have h2 : x % 2 ^ (n + 1) / 2 = x / 2 % 2 ^ n := by
      rw [Nat.pow_succ, Nat.mul_comm, Nat.mod_mul_right_div_self]
    rw [h1, h2, ih]

theorem pop_zero (n : Nat) : pop n 0 = 0 := by
  induction n with
  | zero => rfl
  | succ n ih => simp [pop, ih]

/-- A number written in the base 2^b, digit by digit, each digit changed. -/
def dig (b : Nat) (f : Nat → Nat) : Nat → Nat → Nat
  | 0, _ => 0
  | n + 1, x => f (x % 2 ^ b) + 2 ^ b * dig b f n (x / 2 ^ b)

theorem and_split (b x c k : Nat) (hc : c < 2 ^ b) : x &&& (c + 2 ^ b * k) = (x % 2 ^ b &&& c) + 2 ^ b * (x / 2 ^ b &&& k) := by
  have h0 : 0 < 2 ^ b := Nat.pow_pos (by decide)
  have e1 : (c + 2 ^ b * k) % 2 ^ b = c := by rw [Nat.add_mul_mod_self_left]; exact Nat.mod_eq_of_lt hc
  have e2 : (c + 2 ^ b * k) / 2 ^ b = k := by rw [Nat.add_mul_div_left _ _ h0, Nat.div_eq_of_lt hc]; omega
  have h := Nat.div_add_mod (x &&& (c + 2 ^ b * k)) (2 ^ b)
  rw [Nat.and_div_two_pow, Nat.and_mod_two_pow, e1, e2] at h
  omega

def m1 : Nat → Nat | 0 => 0 | n + 1 => 1 + 4 * m1 n
def m2 : Nat → Nat | 0 => 0 | n + 1 => 3 + 16 * m2 n
def m3 : Nat → Nat | 0 => 0 | n + 1 => 15 + 256 * m3 n

theorem step1 (n x : Nat) : ((x / 2) &&& m1 n) + (x &&& m1 n) = dig 2 (pop 2) n x := by
  induction n generalizing x with
  | zero => simp [m1, dig]
  | succ n ih =>
    have a := and_split 2 (x / 2) 1 (m1 n) (by decide)
    have b := and_split 2 x 1 (m1 n) (by decide)
    simp only [show (2 : Nat) ^ 2 = 4 from rfl] at a b
    have c1 : x / 2 % 4 &&& 1 = x / 2 % 2 := by rw [Nat.and_one_is_mod]; omega
    have c2 : x % 4 &&& 1 = x % 2 := by rw [Nat.and_one_is_mod]; omega
    have := ih (x / 4)
    have d : x / 2 / 4 = x / 4 / 2 := by omega
    have hq : pop 2 (x % 4) = x % 2 + x / 2 % 2 := by simp only [pop]; omega
    simp only [m1, dig, show (2 : Nat) ^ 2 = 4 from rfl]
    rw [a, b, c1, c2, d, hq]
    omega

theorem step2 (n x : Nat) : ((dig 2 (pop 2) (2 * n) x / 4) &&& m2 n) + (dig 2 (pop 2) (2 * n) x &&& m2 n) = dig 4 (pop 4) n x := by
  induction n generalizing x with
  | zero => simp [m2, dig]
  | succ n ih =>
    have hp1 := pop_le 2 (x % 4)
    have hp2 := pop_le 2 (x / 4 % 4)
    have e : dig 2 (pop 2) (2 * (n + 1)) x = pop 2 (x % 4) + 4 * (pop 2 (x / 4 % 4) + 4 * dig 2 (pop 2) (2 * n) (x / 16)) := by
      rw [show 2 * (n + 1) = (2 * n + 1) + 1 from by omega]
      simp only [dig, show (2 : Nat) ^ 2 = 4 from rfl]
      rw [show x / 4 / 4 = x / 16 from by omega]
    have hq : pop 4 (x % 16) = pop 2 (x % 4) + pop 2 (x / 4 % 4) := by
      simp only [pop]; omega
    have := ih (x / 16)
    generalize dig 2 (pop 2) (2 * n) (x / 16) = y at *
    generalize pop 2 (x % 4) = p at *
    generalize pop 2 (x / 4 % 4) = q at *
    have a := and_split 4 ((p + 4 * (q + 4 * y)) / 4) 3 (m2 n) (by decide)
    have b := and_split 4 (p + 4 * (q + 4 * y)) 3 (m2 n) (by decide)
    simp only [show (2 : Nat) ^ 4 = 16 from rfl] at a b
    have c1 : (p + 4 * (q + 4 * y)) / 4 % 16 &&& 3 = q := by
      rw [show (3 : Nat) = 2 ^ 2 - 1 from rfl, Nat.and_two_pow_sub_one_eq_mod]; omega
    have c2 : (p + 4 * (q + 4 * y)) % 16 &&& 3 = p := by
      rw [show (3 : Nat) = 2 ^ 2 - 1 from rfl, Nat.and_two_pow_sub_one_eq_mod]; omega
    have c3 : (p + 4 * (q + 4 * y)) / 4 / 16 = y / 4 := by omega
    have c4 : (p + 4 * (q + 4 * y)) / 16 = y := by omega
    rw [e]
    simp only [m2, dig, show (2 : Nat) ^ 4 = 16 from rfl]
    rw [a, b, c1, c2, c3, c4, hq]
    omega

theorem dig_mod4 (n x : Nat) : dig 4 (pop 4) n x % 16 ≤ 4 := by
  cases n with
  | zero => simp [dig]
  | succ n => have := pop_le 4 (x % 16); simp only [dig, show (2 : Nat) ^ 4 = 16 from rfl]; omega

theorem step3 (n x : Nat) : (dig 4 (pop 4) (2 * n) x / 16 + dig 4 (pop 4) (2 * n) x) &&& m3 n = dig 8 (pop 8) n x := by
  induction n generalizing x with
  | zero => simp [m3, dig]
  | succ n ih =>
    have hp1 := pop_le 4 (x % 16)
    have hp2 := pop_le 4 (x / 16 % 16)
    have e : dig 4 (pop 4) (2 * (n + 1)) x = pop 4 (x % 16) + 16 * (pop 4 (x / 16 % 16) + 16 * dig 4 (pop 4) (2 * n) (x / 256)) := by
      rw [show 2 * (n + 1) = (2 * n + 1) + 1 from by omega]
      simp only [dig, show (2 : Nat) ^ 4 = 16 from rfl]
      rw [show x / 16 / 16 = x / 256 from by omega]
    have hq : pop 8 (x % 256) = pop 4 (x % 16) + pop 4 (x / 16 % 16) := by
      have := pop_add 4 4 (x % 256)
      rw [this, ← pop_mod 4 (x % 256)]
      rw [show x % 256 % 2 ^ 4 = x % 16 from by omega, show x % 256 / 2 ^ 4 = x / 16 % 16 from by omega]
    have h4 := dig_mod4 (2 * n) (x / 256)
    have := ih (x / 256)
    generalize dig 4 (pop 4) (2 * n) (x / 256) = y at *
    generalize pop 4 (x % 16) = p at *
    generalize pop 4 (x / 16 % 16) = q at *
    have b := and_split 8 ((p + 16 * (q + 16 * y)) / 16 + (p + 16 * (q + 16 * y))) 15 (m3 n) (by decide)
    simp only [show (2 : Nat) ^ 8 = 256 from rfl] at b
    have c1 : ((p + 16 * (q + 16 * y)) / 16 + (p + 16 * (q + 16 * y))) % 256 &&& 15 = p + q := by
      rw [show (15 : Nat) = 2 ^ 4 - 1 from rfl, Nat.and_two_pow_sub_one_eq_mod]; omega
    have c2 : ((p + 16 * (q + 16 * y)) / 16 + (p + 16 * (q + 16 * y))) / 256 = y / 16 + y := by omega
    rw [e]
    simp only [m3, dig, show (2 : Nat) ^ 8 = 256 from rfl]
    rw [b, c1, c2, hq]
    omega

theorem pop64 (x : Nat) : pop 64 x = pop 8 (x % 256) + (pop 8 (x / 256 % 256) + (pop 8 (x / 65536 % 256) + (pop 8 (x / 16777216 % 256) + (pop 8 (x / 4294967296 % 256) + (pop 8 (x / 1099511627776 % 256) + (pop 8 (x / 281474976710656 % 256) + pop 8 (x / 72057594037927936 % 256))))))) := by
  have h : ∀ n y, pop (8 + n) y = pop 8 (y % 256) + pop n (y / 256) := fun n y => by
    have := pop_mod 8 y
    rw [pop_add, show (2 : Nat) ^ 8 = 256 from rfl] at *
    omega
  rw [show (64 : Nat) = 8 + (8 + (8 + (8 + (8 + (8 + (8 + 8)))))) from rfl, h, h, h, h, h, h, h]
  rw [← pop_mod 8 (x / 256 / 256 / 256 / 256 / 256 / 256 / 256)]
  simp only [show (2 : Nat) ^ 8 = 256 from rfl, Nat.div_div_eq_div_mul]

theorem m1_32 : m1 32 = 6148914691236517205 := by decide
theorem m2_16 : m2 16 = 3689348814741910323 := by decide
theorem m3_8 : m3 8 = 1085102592571150095 := by decide

theorem div_fold (b T k : Nat) (h : b < k) : (b + k * T) / k = T := by
  rw [Nat.add_mul_div_left _ _ (by omega), Nat.div_eq_of_lt h, Nat.zero_add]

/-- A number's bytes, each at most 8, summed up by three folds. -/
theorem fold8 (b0 b1 b2 b3 b4 b5 b6 b7 y : Nat) (h0 : b0 ≤ 8) (h1 : b1 ≤ 8) (h2 : b2 ≤ 8) (h3 : b3 ≤ 8) (h4 : b4 ≤ 8) (h5 : b5 ≤ 8) (h6 : b6 ≤ 8) (h7 : b7 ≤ 8)
    (hy : y = b0 + 256 * (b1 + 256 * (b2 + 256 * (b3 + 256 * (b4 + 256 * (b5 + 256 * (b6 + 256 * b7))))))) (y4 y5 y6 : Nat) (e4 : y4 = y + y / 256) (e5 : y5 = y4 + y4 / 65536) (e6 : y6 = y5 + y5 / 4294967296) :
    y6 % 128 = b0 + (b1 + (b2 + (b3 + (b4 + (b5 + (b6 + b7)))))) ∧ y4 < 18446744073709551616 ∧ y5 < 18446744073709551616 ∧ y6 < 9223372036854775808 := by
  have d4 : y / 256 = b1 + 256 * (b2 + 256 * (b3 + 256 * (b4 + 256 * (b5 + 256 * (b6 + 256 * b7))))) := by
    rw [hy]; exact div_fold _ _ _ (by omega)
  have f4 : y4 = ((b0 + b1) + 256 * (b1 + b2)) + 65536 * ((b2 + b3) + 256 * (b3 + b4) + 65536 * ((b4 + b5) + 256 * (b5 + b6) + 65536 * ((b6 + b7) + 256 * b7))) := by
    rw [e4, d4, hy]; clear e4 e5 e6 d4 hy h0 h1 h2 h3 h4 h5 h6 h7; omega
  have d5 : y4 / 65536 = (b2 + b3) + 256 * (b3 + b4) + 65536 * ((b4 + b5) + 256 * (b5 + b6) + 65536 * ((b6 + b7) + 256 * b7)) := by
    rw [f4]; exact div_fold _ _ _ (by clear e4 e5 e6 d4 hy f4; omega)
  have f5 : y5 = ((b0 + b1 + b2 + b3) + 256 * (b1 + b2 + b3 + b4) + 65536 * ((b2 + b3 + b4 + b5) + 256 * (b3 + b4 + b5 + b6))) + 4294967296 * ((b4 + b5 + b6 + b7) + 256 * (b5 + b6 + b7) + 65536 * ((b6 + b7) + 256 * b7)) := by
    rw [e5, d5, f4]; clear e4 e5 e6 d4 d5 f4 hy h0 h1 h2 h3 h4 h5 h6 h7; omega
  have d6 : y5 / 4294967296 = (b4 + b5 + b6 + b7) + 256 * (b5 + b6 + b7) + 65536 * ((b6 + b7) + 256 * b7) := by
    rw [f5]; exact div_fold _ _ _ (by clear e4 e5 e6 d4 hy f4 d5 f5; omega)
  have f6 : y6 = (b0 + (b1 + (b2 + (b3 + (b4 + (b5 + (b6 + b7))))))) + 128 * (2 * ((b1 + b2 + b3 + b4 + b5 + b6 + b7) + 256 * ((b2 + b3 + b4 + b5 + b6 + b7) + 256 * (b3 + b4 + b5 + b6 + b7)) + 16777216 * ((b4 + b5 + b6 + b7) + 256 * (b5 + b6 + b7) + 65536 * ((b6 + b7) + 256 * b7)))) := by
    rw [e6, d6, f5]; clear e4 e5 e6 d4 d5 d6 f4 f5 hy h0 h1 h2 h3 h4 h5 h6 h7; omega
  clear e4 e5 e6 d4 d5 d6 hy
  refine ⟨?_, ?_, ?_, ?_⟩
  · rw [f6, Nat.add_mul_mod_self_left]; clear f4 f5 f6; exact Nat.mod_eq_of_lt (by omega)
  · rw [f4]; clear f4 f5 f6; omega
  · rw [f5]; clear f4 f5 f6; omega
  · rw [f6]; clear f4 f5 f6; omega

theorem dig8 (x : Nat) : dig 8 (pop 8) 8 x = pop 8 (x % 256) + 256 * (pop 8 (x / 256 % 256) + 256 * (pop 8 (x / 65536 % 256) + 256 * (pop 8 (x / 16777216 % 256) + 256 * (pop 8 (x / 4294967296 % 256) + 256 * (pop 8 (x / 1099511627776 % 256) + 256 * (pop 8 (x / 281474976710656 % 256) + 256 * pop 8 (x / 72057594037927936 % 256))))))) := by
  simp only [dig, show (2 : Nat) ^ 8 = 256 from rfl, Nat.div_div_eq_div_mul, Nat.mul_zero, Nat.add_zero]

/-- The count of a number's bits by folds, as math/bits has it. -/
theorem swar (x y1 y2 y3 y4 y5 y6 : Nat) (e1 : y1 = (x / 2 &&& 6148914691236517205) + (x &&& 6148914691236517205)) (e2 : y2 = (y1 / 4 &&& 3689348814741910323) + (y1 &&& 3689348814741910323))
    (e3 : y3 = (y2 / 16 + y2) &&& 1085102592571150095) (e4 : y4 = y3 + y3 / 256) (e5 : y5 = y4 + y4 / 65536) (e6 : y6 = y5 + y5 / 4294967296) :
    y6 % 128 = pop 64 x ∧ y1 < 18446744073709551616 ∧ y2 < 18446744073709551616 ∧ y2 / 16 + y2 < 18446744073709551616 ∧ y3 < 18446744073709551616 ∧ y4 < 18446744073709551616 ∧ y5 < 18446744073709551616 ∧ y6 < 9223372036854775808 := by
  have g1 : y1 = dig 2 (pop 2) 32 x := by rw [e1, ← step1 32 x, m1_32]
  have g2 : y2 = dig 4 (pop 4) 16 x := by rw [e2, g1, ← step2 16 x, m2_16]
  have g3 : y3 = dig 8 (pop 8) 8 x := by rw [e3, g2, ← step3 8 x, m3_8]
  have a1 : x / 2 &&& 6148914691236517205 ≤ 6148914691236517205 := Nat.and_le_right
  have a2 : x &&& 6148914691236517205 ≤ 6148914691236517205 := Nat.and_le_right
  have a3 : y1 / 4 &&& 3689348814741910323 ≤ 3689348814741910323 := Nat.and_le_right
  have a4 : y1 &&& 3689348814741910323 ≤ 3689348814741910323 := Nat.and_le_right
  have a5 : (y2 / 16 + y2) &&& 1085102592571150095 ≤ 1085102592571150095 := Nat.and_le_right
  have h := fold8 _ _ _ _ _ _ _ _ y3 (pop_le 8 (x % 256)) (pop_le 8 (x / 256 % 256)) (pop_le 8 (x / 65536 % 256)) (pop_le 8 (x / 16777216 % 256)) (pop_le 8 (x / 4294967296 % 256)) (pop_le 8 (x / 1099511627776 % 256)) (pop_le 8 (x / 281474976710656 % 256)) (pop_le 8 (x / 72057594037927936 % 256))
    (g3.trans (dig8 x)) y4 y5 y6 e4 e5 e6
  refine ⟨h.1.trans (pop64 x).symm, by omega, by omega, by omega, by omega, h.2.1, h.2.2.1, h.2.2.2⟩

end Go.Proofs.YtnbijfeidgddmaaGreatDoor.M
