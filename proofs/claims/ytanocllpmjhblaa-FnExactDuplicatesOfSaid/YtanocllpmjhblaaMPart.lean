/- Contracts: the part of a mix, the program's and the model's. -/
import Derived.Test.YtanocllpmjhblaaMPut
import Derived.Test.YtanocllpmjhblaaVMix
namespace Go.Proofs.Ytanocllpmjhblaa
open Go.ChangeShapes Go.WideShapes Go.ChangeAt Go.RowKit

/-- The two numbers of a mask that is moved down. -/
def dn0 (a b n : Int) : Int := if n < 64 then bits .or .u64 (a / 2 ^ n.toNat) (IntKind.u64.wrap (b * 2 ^ (64 - n).toNat)) else b / 2 ^ (n - 64).toNat
def dn1 (b n : Int) : Int := if n < 64 then b / 2 ^ n.toNat else 0
def fu0 (k : Int) : Int := dn0 18446744073709551615 18446744073709551615 (128 - k)
def fu1 (k : Int) : Int := dn1 18446744073709551615 (128 - k)
def mp0 (t k : Int) : Int := up0 (fu0 k) t
def mp1 (t k : Int) : Int := up1 (fu0 k) (fu1 k) t

def scan (s : Nat) : Nat → Nat → Int → Int → Bool
  | 0, k, x, y => decide (k < 1) || (x == mp0 s k && y == mp1 s k)
  | f + 1, k, x, y => (decide (k < 1) || (x == mp0 s k && y == mp1 s k)) && scan s f (k + 1) (bits .or .u64 x (b0 (s + k))) (bits .or .u64 y (b1 (s + k)))
theorem scan_all : ((List.range 97).all fun s => scan s (96 - s) 0 0 0) = true := by kernel_rfl
theorem scan_spec (s : Nat) : ∀ f k, scan s f k (ma b0 s k) (ma b1 s k) = true → ∀ j, k ≤ j → j ≤ k + f → 1 ≤ j → ma b0 s j = mp0 s j ∧ ma b1 s j = mp1 s j
  | 0, k, h, j, h1, h2, h3 => by
    obtain rfl : j = k := by omega
    simp only [scan, Bool.or_eq_true, decide_eq_true_eq, Bool.and_eq_true, beq_iff_eq] at h
    rcases h with h | h
    · omega
    · exact h
  | f + 1, k, h, j, h1, h2, h3 => by
    simp only [scan, Bool.and_eq_true] at h
    by_cases hjk : j = k
    · subst hjk
      have h := h.1
      simp only [Bool.or_eq_true, decide_eq_true_eq, Bool.and_eq_true, beq_iff_eq] at h
      rcases h with h | h
      · omega
      · exact h
    · exact scan_spec s f (k + 1) h.2 j (by omega) (by omega) h3
theorem part_is (t : Int) (n : Nat) (h0 : 0 ≤ t) (h1 : 1 ≤ n) (h2 : t + n ≤ 96) : ma b0 t n = mp0 t n ∧ ma b1 t n = mp1 t n := by
  obtain ⟨s, rfl⟩ := Int.eq_ofNat_of_zero_le h0
  have h := List.all_eq_true.1 scan_all s (List.mem_range.2 (by omega))
  exact scan_spec s (96 - s) 0 h n (by omega) (by omega) h1



end Go.Proofs.Ytanocllpmjhblaa
