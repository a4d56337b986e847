/- Contracts: the part of a mix, the program's and the model's. -/
import Derived.Test.YtnbijfeidgddmaaGreatDoorRsZ2
import Derived.Test.YtnbijfeidgddmaaGreatDoorRsZ3
namespace Go.Proofs.YtnbijfeidgddmaaGreatDoor
open Go.ChangeShapes Go.WideShapes Go.ChangeAt Go.RowKit

/-- The two numbers of a mask that is moved down. -/
def dn0 (a b n : Int) : Int := if n < 64 then bits .or .u64 (a / 2 ^ n.toNat) (IntKind.u64.wrap (b * 2 ^ (64 - n).toNat)) else b / 2 ^ (n - 64).toNat
def dn1 (b n : Int) : Int := if n < 64 then b / 2 ^ n.toNat else 0
def fu0 (k : Int) : Int := dn0 18446744073709551615 18446744073709551615 (128 - k)
def fu1 (k : Int) : Int := dn1 18446744073709551615 (128 - k)
def mp0 (t k : Int) : Int := up0 (fu0 k) t
def mp1 (t k : Int) : Int := up1 (fu0 k) (fu1 k) t

def scan (s : Nat) : Nat → Nat → Int → Int → Bool
  | 0, k, x, y => decide (k < 1) || (x == mp0 s k && y == mp1 s k)
  | f + 1, k, x, y => (decide (k < 1) || (x == mp0 s k && y == mp1 s k)) && scan s f (k + 1) (bits .or .u64 x (b0 (s + k))) (bits .or .u64 y (b1 (s + k)))
theorem scan_all : ((List.range 97).all fun s => scan s (96 - s) 0 0 0) = true := by kernel_rfl
theorem scan_spec (s : Nat) : ∀ f k, scan s f k (ma b0 s k) (ma b1 s k) = true → ∀ j, k ≤ j → j ≤ k + f → 1 ≤ j → ma b0 s j = mp0 s j ∧ ma b1 s j = mp1 s j
  | 0, k, h, j, h1, h2, h3 => by
    obtain rfl : j = k := by omega
    simp only [scan, Bool.or_eq_true, decide_eq_true_eq, Bool.and_eq_true, beq_iff_eq] at h
    rcases h with h | h
    · omega
    · exact h
  | f + 1, k, h, j, h1, h2, h3 => by
    simp only [scan, Bool.and_eq_true] at h
    by_cases hjk : j = k
    · subst hjk
      have h := h.1
      simp only [Bool.or_eq_true, decide_eq_true_eq, Bool.and_eq_true, beq_iff_eq] at h
      rcases h with h | h
      · omega
      · exact h
    · exact scan_spec s f (k + 1) h.2 j (by omega) (by omega) h3
theorem part_is (t : Int) (n : Nat) (h0 : 0 ≤ t) (h1 : 1 ≤ n) (h2 : t + n ≤ 96) : ma b0 t n = mp0 t n ∧ ma b1 t n = mp1 t n := by
  obtain ⟨s, rfl⟩ := Int.eq_ofNat_of_zero_le h0
  have h := List.all_eq_true.1 scan_all s (List.mem_range.2 (by omega))
  exact scan_spec s (96 - s) 0 h n (by omega) (by omega) h1

set_option maxHeartbeats 1600000 in
theorem iMoveDown_any (a b n : Int) (h0 : 32 ≤ n) (h1 : n ≤ 127) (w : World) :
    Calls Tryz.prog 103 #[.agg #[.int .u64 a, .int .u64 b], .int .i64 n] w fun e w' => e = .returned (.agg #[.int .u64 (dn0 a b n), .int .u64 (dn1 b n)]) ∧ Below w.heap.size w w' := by
  by_cases h : n < 64
  · have hd : decide (64 ≤ n) = false := by simp; omega
    have hs : IntKind.i64.wrap (64 - n) = 64 - n := IntWalk.i64_in _ (by omega)
    have hp : 0 ≤ 64 - n := by omega
    go_enter Tryz.func103, Tryz.ntmps103
    go_wp2
    go_region_held3 (fun w' => w'.cell? ⟨w.heap.size, 0, none⟩ = some (.int .u64 a) ∧ w'.cell? ⟨w.heap.size, 1, none⟩ = some (.int .u64 b)) (simp [go_sem]) (fail)
    all_goals go_wp2
    all_goals go_returns
    all_goals exact ⟨by unfold dn0 dn1; rw [if_pos h, if_pos h], (by repeat' (first | (with_reducible exact Below.refl _ _) | (with_reducible assumption) | (with_reducible refine below_drewN ?_ _) | (with_reducible refine Below.drew ?_) | (with_reducible refine below_new ?_ _) | (with_reducible refine below_next ?_ (by with_reducible assumption)) | (with_reducible refine Below.setCell ?_ ?_ _) | go_size))⟩
  · have hd : decide (64 ≤ n) = true := by simp; omega
    go_enter Tryz.func103, Tryz.ntmps103
    go_wp2
    go_returns
    exact ⟨by unfold dn0 dn1; rw [if_neg (by omega), if_neg (by omega)], (by repeat' (first | (with_reducible exact Below.refl _ _) | (with_reducible assumption) | (with_reducible refine below_drewN ?_ _) | (with_reducible refine Below.drew ?_) | (with_reducible refine below_new ?_ _) | (with_reducible refine below_next ?_ (by with_reducible assumption)) | (with_reducible refine Below.setCell ?_ ?_ _) | go_size))⟩

theorem iFirst_any (n : Int) (h0 : 1 ≤ n) (h1 : n ≤ 96) (w : World) :
    Calls Tryz.prog 76 #[.int .i64 n] w fun e w' => e = .returned (.agg #[.int .u64 (fu0 n), .int .u64 (fu1 n)]) ∧ Below w.heap.size w w' := by
  have D := Lib.hid fun W => iMoveDown_any 18446744073709551615 18446744073709551615 (128 - n) (by omega) (by omega) W
  go_enter Tryz.func76, Tryz.ntmps76
  go_wp2_with (go_at_call 103; refine (D.out _).mono ?_; rintro e w1 ⟨rfl, hB⟩; have k0 := cell_of_block (Ab.block hB (block_alloc w _)); have k1 := free_of_block (Ab.block hB (block_alloc w _)))
  refine bodyPost_ret (by simp [results, Tryz.results76, go_sem, k0]; try rfl) rfl ?_
  exact ⟨rfl, (((below_new (Below.refl _ _) _).trans (Below.mono hB (by simp))).setCell (by simp) _).setCell (by simp) _⟩

end Go.Proofs.YtnbijfeidgddmaaGreatDoor
