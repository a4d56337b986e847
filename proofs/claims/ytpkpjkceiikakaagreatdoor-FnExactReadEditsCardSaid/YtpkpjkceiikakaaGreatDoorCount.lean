/- Contracts: how many bits are set, as math/bits counts them, as the program does and as the model does. -/
import Derived.Test.YtpkpjkceiikakaaGreatDoorBit
import Derived.Test.YtpkpjkceiikakaaGreatDoorMath
import Derived.Deep.RegionWith
namespace Go.Proofs.YtpkpjkceiikakaaGreatDoor
open Go.ChangeShapes Go.WideShapes Go.ChangeAt Go.RowKit

theorem and_i64_127 (n : Nat) (h : n < 9223372036854775808) : bits .and .i64 (n : Int) 127 = ((n % 128 : Nat) : Int) := by
  show IntKind.i64.wrap ((BitVec.ofInt 64 (n : Int) &&& BitVec.ofInt 64 127).toNat : Int) = _
  have h1 : (BitVec.ofInt 64 (n : Int)).toNat = n := by
    rw [BitVec.ofInt_natCast, BitVec.toNat_ofNat]; exact Nat.mod_eq_of_lt (by omega)
  have h2 : (BitVec.ofInt 64 127).toNat = 127 := by decide
  rw [BitVec.toNat_and, h1, h2, show (127 : Nat) = 2 ^ 7 - 1 from rfl, Nat.and_two_pow_sub_one_eq_mod]
  exact IntWalk.i64_in _ (by omega)

set_option maxHeartbeats 800000 in
theorem ones_any (x : Nat) (hx : x < 18446744073709551616) (w : World) :
    Calls Tryz.prog 108 #[.int .u64 (x : Int)] w fun e w' => e = .returned (.int .i64 (M.pop 64 x : Int)) ∧ w = w' := by
  obtain ⟨y1, e1⟩ : ∃ y, y = (x / 2 &&& 6148914691236517205) + (x &&& 6148914691236517205) := ⟨_, rfl⟩
  obtain ⟨y2, e2⟩ : ∃ y, y = (y1 / 4 &&& 3689348814741910323) + (y1 &&& 3689348814741910323) := ⟨_, rfl⟩
  obtain ⟨y3, e3⟩ : ∃ y, y = (y2 / 16 + y2) &&& 1085102592571150095 := ⟨_, rfl⟩
  obtain ⟨y4, e4⟩ : ∃ y, y = y3 + y3 / 256 := ⟨_, rfl⟩
  obtain ⟨y5, e5⟩ : ∃ y, y = y4 + y4 / 65536 := ⟨_, rfl⟩
  obtain ⟨y6, e6⟩ : ∃ y, y = y5 + y5 / 4294967296 := ⟨_, rfl⟩
  obtain ⟨hr, b1, b2, b2', b3, b4, b5, b6⟩ := M.swar x y1 y2 y3 y4 y5 y6 e1 e2 e3 e4 e5 e6
  have cd : ∀ (p : Nat) (k : Nat), ((p : Int) / (k : Int)) = ((p / k : Nat) : Int) := fun p k => (Int.natCast_ediv p k).symm
  have and' : ∀ p q : Nat, p < 18446744073709551616 → q < 18446744073709551616 → bits .and .u64 (p : Int) (q : Int) = ((p &&& q : Nat) : Int) := fun p q hp hq => Go.u64_and_nat p q hp hq
  have wr : ∀ p : Nat, p < 18446744073709551616 → IntKind.u64.wrap (p : Int) = p := fun p hp => IntWalk.u64_in _ ⟨by omega, by omega⟩
  have f1 : IntKind.u64.wrap (bits .and .u64 ((x : Int) / 2) 6148914691236517205 + bits .and .u64 (x : Int) 6148914691236517205) = (y1 : Int) := by
    have a1 := and' (x / 2) 6148914691236517205 (by omega) (by decide)
    have a2 := and' x 6148914691236517205 hx (by decide)
    have c := cd x 2
    simp only [Int.cast_ofNat_Int] at a1 a2 c
    rw [c, a1, a2, ← Int.natCast_add, ← e1]; exact wr y1 b1
  have f2 : IntKind.u64.wrap (bits .and .u64 ((y1 : Int) / 4) 3689348814741910323 + bits .and .u64 (y1 : Int) 3689348814741910323) = (y2 : Int) := by
    have a1 := and' (y1 / 4) 3689348814741910323 (by omega) (by decide)
    have a2 := and' y1 3689348814741910323 b1 (by decide)
    have c := cd y1 4
    simp only [Int.cast_ofNat_Int] at a1 a2 c
    rw [c, a1, a2, ← Int.natCast_add, ← e2]; exact wr y2 b2
  have f3 : bits .and .u64 (IntKind.u64.wrap ((y2 : Int) / 16 + (y2 : Int))) 1085102592571150095 = (y3 : Int) := by
    have a1 := and' (y2 / 16 + y2) 1085102592571150095 b2' (by decide)
    have c := cd y2 16
    simp only [Int.cast_ofNat_Int] at a1 c
    rw [c, ← Int.natCast_add, wr _ b2', a1, ← e3]
  have f4 : IntKind.u64.wrap ((y3 : Int) + (y3 : Int) / 256) = (y4 : Int) := by
    have c := cd y3 256
    simp only [Int.cast_ofNat_Int] at c
    rw [c, ← Int.natCast_add, ← e4]; exact wr y4 b4
  have f5 : IntKind.u64.wrap ((y4 : Int) + (y4 : Int) / 65536) = (y5 : Int) := by
    have c := cd y4 65536
    simp only [Int.cast_ofNat_Int] at c
    rw [c, ← Int.natCast_add, ← e5]; exact wr y5 b5
  have f6 : IntKind.u64.wrap ((y5 : Int) + (y5 : Int) / 4294967296) = (y6 : Int) := by
    have c := cd y5 4294967296
    simp only [Int.cast_ofNat_Int] at c
    rw [c, ← Int.natCast_add, ← e6]; exact wr y6 (by omega)
  have f7 : IntKind.i64.wrap (y6 : Int) = (y6 : Int) := IntWalk.i64_in _ (by omega)
  have f8 : bits .and .i64 (y6 : Int) 127 = (M.pop 64 x : Int) := by rw [and_i64_127 y6 b6, hr]
  clear e1 e2 e3 e4 e5 e6 hr b1 b2 b2' b3 b4 b5 b6 cd and' wr hx
  go_enter Tryz.func108, Tryz.ntmps108
  go_wp2
  go_returns
  exact ⟨rfl, rfl⟩

/-- How many bits of a mask are set. -/
def cnt (x y : Nat) : Nat := M.pop 64 x + M.pop 64 y
theorem cnt_le (x y : Nat) : cnt x y ≤ 128 := by have := M.pop_le 64 x; have := M.pop_le 64 y; unfold cnt; omega

set_option maxHeartbeats 800000 in
theorem iCount_any (x y : Nat) (hx : x < 18446744073709551616) (hy : y < 18446744073709551616) (w : World) :
    Calls Tryz.prog 87 #[.agg #[.int .u64 (x : Int), .int .u64 (y : Int)]] w fun e w' => e = .returned (.int .i64 (cnt x y : Int)) ∧ Below w.heap.size w w' := by
  have ox := fun W => ones_any x hx W
  have oy := fun W => ones_any y hy W
  have p1 := M.pop_le 64 x
  have p2 := M.pop_le 64 y
  have s1 : IntKind.i64.wrap ((M.pop 64 x : Int) + (M.pop 64 y : Int)) = (M.pop 64 x : Int) + (M.pop 64 y : Int) := IntWalk.i64_in _ (by omega)
  have X := Lib.hid ox
  have Y := Lib.hid oy
  clear ox oy hx hy
  go_enter Tryz.func87, Tryz.ntmps87
  go_wp2_with fail
  go_region_held3 (fun w' => w'.cell? ⟨w.heap.size, 0, none⟩ = some (.int .u64 (x : Int)) ∧ w'.cell? ⟨w.heap.size, 1, none⟩ = some (.int .u64 (y : Int)))
    (first | (refine ⟨?_, ?_⟩ <;> first | (simp; done) | (simp [go_sem]; done)))
    (first | (go_at_call_of 108 (Value.int IntKind.u64 (x : Int)); refine (X.out _).mono ?_; rintro e w1 ⟨rfl, rfl⟩) | (go_at_call_of 108 (Value.int IntKind.u64 (y : Int)); refine (Y.out _).mono ?_; rintro e w1 ⟨rfl, rfl⟩))
  all_goals go_wp2
  all_goals go_returns
  all_goals exact ⟨congrArg (fun n : Int => Ending.returned (.int .i64 n)) (by unfold cnt; simp), (by repeat' (first | (with_reducible exact Below.refl _ _) | (with_reducible assumption) | (with_reducible refine below_drewN ?_ _) | (with_reducible refine Below.drew ?_) | (with_reducible refine below_new ?_ _) | (with_reducible refine below_next ?_ (by with_reducible assumption)) | (with_reducible refine Below.setCell ?_ ?_ _) | go_size))⟩

theorem pop_half (u : Nat) (h : u < 18446744073709551616) : M.pop 64 u = u % 2 + M.pop 64 (u / 2) := by
  have e : M.pop 64 (u / 2) = M.pop 63 (u / 2) := by
    have := M.pop_add 63 1 (u / 2)
    rw [this, show u / 2 / 2 ^ 63 = 0 from by omega]
    simp [M.pop]
  rw [e]; rfl

theorem tdiv_two (u : Nat) : ((u : Int)).tdiv 2 = ((u / 2 : Nat) : Int) := by
  rw [Int.tdiv_eq_ediv_of_nonneg (by omega)]; omega
theorem tmod_two (u : Nat) : ((u : Int)).tmod 2 = ((u % 2 : Nat) : Int) := by
  rw [Int.tmod_eq_emod_of_nonneg (by omega)]; omega

end Go.Proofs.YtpkpjkceiikakaaGreatDoor
