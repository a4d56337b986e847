/- Contracts: the holes of a mask as a list, the program's loops. -/
import Derived.Test.YtdbkplfkilaoeaaHoles
import Derived.Test.YtdbkplfkilaoeaaCount
import Derived.Test.YtdbkplfkilaoeaaBoxes
import Derived.Deep.DeepCutAuto
namespace Go.Proofs.Ytdbkplfkilaoeaa
open Go.ChangeShapes Go.WideShapes Go.ChangeAt Go.RowKit

theorem and_one (x : Int) (h : U64 x) : bits .and .u64 x 1 = x % 2 := by
  rw [Go.u64_and x 1 h.1 h.2 (by decide) (by decide)]
  obtain ⟨n, rfl⟩ := Int.eq_ofNat_of_zero_le h.1
  simp only [Int.toNat_natCast]
  rw [show (1 : Int).toNat = 1 from rfl, Nat.and_one_is_mod]; omega
theorem u64_div (x : Int) (h : U64 x) (k : Nat) : U64 (x / 2 ^ k) := by
  have hp : (0 : Int) < 2 ^ k := Int.pow_pos (by decide)
  refine ⟨Int.ediv_nonneg h.1 (by omega), ?_⟩
  have := Int.ediv_le_self (2 ^ k) h.1
  have := h.2
  omega
theorem has_lo (a b : Int) (k : Nat) (h : k < 64) : hasB a b (k : Int) = (a / 2 ^ k % 2 == 1) := by
  unfold hasB; rw [if_pos (by omega)]; simp
theorem has_hi (a b : Int) (k : Nat) : hasB a b ((64 + k : Nat) : Int) = (b / 2 ^ k % 2 == 1) := by
  unfold hasB; rw [if_neg (by omega), show (((64 + k : Nat) : Int) - 64).toNat = k from by omega]
/-- Nothing above. -/
theorem div_zero_up (x : Int) (h0 : 0 ≤ x) (k i : Nat) (hk : x / 2 ^ k = 0) (hi : k ≤ i) : x / 2 ^ i = 0 := by
  have hp : (0 : Int) < 2 ^ k := Int.pow_pos (by decide)
  have h1 : x < 2 ^ k := by
    have e := Int.mul_ediv_add_emod x (2 ^ k)
    rw [hk, Int.mul_zero, Int.zero_add] at e
    have := Int.emod_lt_of_pos x hp
    omega
  have h2 : (2 : Int) ^ k ≤ 2 ^ i := by exact_mod_cast Nat.pow_le_pow_right (by decide) hi
  exact Int.ediv_eq_zero_of_lt h0 (by omega)
theorem hol_flat (f : Int → Bool) (k : Nat) : ∀ n, (∀ i, k ≤ i → i < k + n → f (i : Int) = false) → hol f (k + n) = hol f k
  | 0, _ => rfl
  | n + 1, h => by
    rw [← Nat.add_assoc, hol_no (h (k + n) (by omega) (by omega))]
    exact hol_flat f k n (fun i h1 h2 => h i h1 (by omega))
theorem lo_end (a b : Int) (ha : U64 a) (k : Nat) (hk : k ≤ 64) (h : a / 2 ^ k = 0) : hol (hasB a b) 64 = hol (hasB a b) k := by
  have := hol_flat (hasB a b) k (64 - k) (fun i h1 h2 => by rw [has_lo a b i (by omega), div_zero_up a ha.1 k i h h1]; rfl)
  rwa [show k + (64 - k) = 64 from by omega] at this
theorem hi_end (a b : Int) (hb : U64 b) (k : Nat) (hk : k ≤ 32) (h : b / 2 ^ k = 0) : hol (hasB a b) 96 = hol (hasB a b) (64 + k) := by
  have := hol_flat (hasB a b) (64 + k) (32 - k) (fun i h1 h2 => by
    obtain ⟨j, rfl⟩ : ∃ j, i = 64 + j := ⟨i - 64, by omega⟩
    rw [has_hi a b j, div_zero_up b hb.1 k j h (by omega)]; rfl)
  rwa [show 64 + k + (32 - k) = 96 from by omega] at this
theorem div_max (x : Int) (h : 0 ≤ x) (k : Nat) (hx : x < 2 ^ k) : x / 2 ^ k = 0 := Int.ediv_eq_zero_of_lt h hx

end Go.Proofs.Ytdbkplfkilaoeaa
