/- Contracts: how many bits are set, as math/bits counts them, as the program does and as the model does. -/
import Derived.Test.YtpgonfeobfefaaaDoorBit
import Derived.Test.YtpgonfeobfefaaaDoorMath
import Derived.Deep.RegionWith
namespace Go.Proofs.YtpgonfeobfefaaaDoor
open Go.ChangeShapes Go.WideShapes Go.ChangeAt Go.RowKit

theorem and_i64_127 (n : Nat) (h : n < 9223372036854775808) : bits .and .i64 (n : Int) 127 = ((n % 128 : Nat) : Int) := by
  show IntKind.i64.wrap ((BitVec.ofInt 64 (n : Int) &&& BitVec.ofInt 64 127).toNat : Int) = _
  have h1 : (BitVec.ofInt 64 (n : Int)).toNat = n := by
    rw [BitVec.ofInt_natCast, BitVec.toNat_ofNat]; exact Nat.mod_eq_of_lt (by omega)
  have h2 : (BitVec.ofInt 64 127).toNat = 127 := by decide
  rw [BitVec.toNat_and, h1, h2, show (127 : Nat) = 2 ^ 7 - 1 from rfl, Nat.and_two_pow_sub_one_eq_mod]
  exact IntWalk.i64_in _ (by omega)


/-- How many bits of a mask are set. -/
def cnt (x y : Nat) : Nat := M.pop 64 x + M.pop 64 y
theorem cnt_le (x y : Nat) : cnt x y ≤ 128 := by have := M.pop_le 64 x; have := M.pop_le 64 y; unfold cnt; omega


theorem pop_half (u : Nat) (h : u < 18446744073709551616) : M.pop 64 u = u % 2 + M.pop 64 (u / 2) := by
  have e : M.pop 64 (u / 2) = M.pop 63 (u / 2) := by
    have := M.pop_add 63 1 (u / 2)
    rw [this, show u / 2 / 2 ^ 63 = 0 from by omega]
    simp [M.pop]
  rw [e]; rfl

theorem tdiv_two (u : Nat) : ((u : Int)).tdiv 2 = ((u / 2 : Nat) : Int) := by
  rw [Int.tdiv_eq_ediv_of_nonneg (by omega)]; omega
theorem tmod_two (u : Nat) : ((u : Int)).tmod 2 = ((u % 2 : Nat) : Int) := by
  rw [Int.tmod_eq_emod_of_nonneg (by omega)]; omega

end Go.Proofs.YtpgonfeobfefaaaDoor
