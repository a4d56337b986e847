/- Contracts of the functions that shift masks by a variable: the mask of one hole, the program's and the model's; moving up and down. -/
import Derived.Test.YtpkpjkceiikakaaGreatDoorBase
import Derived.Laws.BitsAllLaws
import Derived.Lib.Hide
namespace Go.Proofs.YtpkpjkceiikakaaGreatDoor
open Go.ChangeShapes Go.WideShapes Go.ChangeAt Go.RowKit

theorem wpow (m : Int) (h0 : 0 ≤ m) (h1 : m < 64) : IntKind.u64.wrap (2 ^ m.toNat) = 2 ^ m.toNat := by
  rw [IntKind.wrap_u64]
  have : (2 : Int) ^ m.toNat < 2 ^ 64 := by
    have h : m.toNat < 64 := by omega
    exact_mod_cast Nat.pow_lt_pow_right (by decide : 1 < 2) h
  have h3 : (0 : Int) ≤ 2 ^ m.toNat := Int.pow_nonneg (by decide)
  omega

/-- The two numbers of the mask of one hole. -/
def b0 (n : Int) : Int := if n < 64 then 2 ^ n.toNat else 0
def b1 (n : Int) : Int := if n < 64 then 0 else 2 ^ (n - 64).toNat
/-- The two numbers of a mask that is moved up. -/
def up0 (a n : Int) : Int := if n < 64 then IntKind.u64.wrap (a * 2 ^ n.toNat) else 0
def up1 (a b n : Int) : Int := if n < 64 then bits .or .u64 (IntKind.u64.wrap (b * 2 ^ n.toNat)) (a / 2 ^ (64 - n).toNat) else IntKind.u64.wrap (a * 2 ^ (n - 64).toNat)
/-- Is the hole n in the mask? -/
def hasB (a b n : Int) : Bool := if n < 64 then a / 2 ^ n.toNat % 2 == 1 else b / 2 ^ (n - 64).toNat % 2 == 1

theorem or_zero_zero : bits .or .u64 0 0 = 0 := by decide

theorem up0_one (n : Int) (h0 : 0 ≤ n) : up0 1 n = b0 n := by
  unfold up0 b0
  split
  · rw [Int.one_mul, wpow n h0 (by assumption)]
  · rfl
theorem up1_one (n : Int) (h0 : 0 ≤ n) (h1 : n ≤ 95) : up1 1 0 n = b1 n := by
  unfold up1 b1
  split
  · have h : (1 : Int) / 2 ^ (64 - n).toNat = 0 := by
      refine Int.ediv_eq_zero_of_lt (by decide) ?_
      have h : 1 ≤ (64 - n).toNat := by omega
      have : (2 : Int) ^ 1 ≤ 2 ^ (64 - n).toNat := by exact_mod_cast Nat.pow_le_pow_right (by decide : 0 < 2) h
      omega
    rw [h, Int.zero_mul, show IntKind.u64.wrap 0 = 0 from by decide, or_zero_zero]
  · rw [Int.one_mul, wpow (n - 64) (by omega) (by omega)]

theorem u64_b0 (n : Int) (h0 : 0 ≤ n) : U64 (b0 n) := by
  unfold b0
  split
  · refine ⟨Int.pow_nonneg (by decide), ?_⟩
    have h : n.toNat < 64 := by omega
    have : (2 : Int) ^ n.toNat < 2 ^ 64 := by exact_mod_cast Nat.pow_lt_pow_right (by decide : 1 < 2) h
    omega
  · exact ⟨by decide, by decide⟩
theorem u64_b1 (n : Int) (h1 : n ≤ 95) : U64 (b1 n) := by
  unfold b1
  split
  · exact ⟨by decide, by decide⟩
  · refine ⟨Int.pow_nonneg (by decide), ?_⟩
    have h : (n - 64).toNat < 64 := by omega
    have : (2 : Int) ^ (n - 64).toNat < 2 ^ 64 := by exact_mod_cast Nat.pow_lt_pow_right (by decide : 1 < 2) h
    omega

theorem and_zero_left (a : Int) (h : U64 a) : bits .and .u64 0 a = 0 := by
  rw [Go.u64_and 0 a (by decide) (by decide) h.1 h.2]; simp
theorem and_zero_right (a : Int) (h : U64 a) : bits .and .u64 a 0 = 0 := by
  rw [Go.u64_and a 0 h.1 h.2 (by decide) (by decide)]; simp

theorem and_bit (a : Int) (h : U64 a) (k : Nat) (hk : k < 64) : (bits .and .u64 (2 ^ k) a == 2 ^ k) = (a / 2 ^ k % 2 == 1) := by
  have hp : (0 : Int) ≤ 2 ^ k := Int.pow_nonneg (by decide)
  have hq : (2 : Int) ^ k < 18446744073709551616 := by
    have : (2 : Int) ^ k < 2 ^ 64 := by exact_mod_cast Nat.pow_lt_pow_right (by decide : 1 < 2) hk
    omega
  rw [Go.u64_and _ a hp hq h.1 h.2]
  obtain ⟨x, rfl⟩ := Int.eq_ofNat_of_zero_le h.1
  have e : ((2 : Int) ^ k).toNat = 2 ^ k := by rw [show ((2 : Int) ^ k) = ((2 ^ k : Nat) : Int) from by simp]; rfl
  rw [e, Int.toNat_natCast, Nat.and_comm, Go.nat_bit]
  have e2 : (x : Int) / 2 ^ k % 2 = ((x / 2 ^ k % 2 : Nat) : Int) := by simp
  rw [e2]
  have h2 : x / 2 ^ k % 2 = 0 ∨ x / 2 ^ k % 2 = 1 := by omega
  have h3 : 0 < 2 ^ k := Nat.pow_pos (by decide)
  rcases h2 with h2 | h2 <;> rw [h2]
  · simp; omega
  · simp

/-- The mask of a hole is within a mask if the hole is in it. -/
theorem within_bit (a b n : Int) (ha : U64 a) (hb : U64 b) (h0 : 0 ≤ n) (h1 : n ≤ 95) :
    (bits .and .u64 (b0 n) a == b0 n && bits .and .u64 (b1 n) b == b1 n) = hasB a b n := by
  unfold b0 b1 hasB
  by_cases h : n < 64
  · simp only [h, if_true]
    rw [and_zero_left b hb, and_bit a ha _ (by omega)]; simp
  · simp only [h, if_false]
    rw [and_zero_left a ha, and_bit b hb _ (by omega)]; simp

set_option maxHeartbeats 1600000 in
theorem iMoveUp_any (a b n : Int) (h0 : 0 ≤ n) (h1 : n ≤ 95) (w : World) :
    Calls Tryz.prog 75 #[.agg #[.int .u64 a, .int .u64 b], .int .i64 n] w fun e w' => e = .returned (.agg #[.int .u64 (up0 a n), .int .u64 (up1 a b n)]) ∧ Below w.heap.size w w' := by
  by_cases h : n < 64
  · have hd : decide (64 ≤ n) = false := by simp; omega
    have hs : IntKind.i64.wrap (64 - n) = 64 - n := IntWalk.i64_in _ (by omega)
    have hp : 0 ≤ 64 - n := by omega
    go_enter Tryz.func75, Tryz.ntmps75
    go_wp2
    go_region_held3 (fun w' => w'.cell? ⟨w.heap.size, 0, none⟩ = some (.int .u64 a) ∧ w'.cell? ⟨w.heap.size, 1, none⟩ = some (.int .u64 b)) (simp [go_sem]) (fail)
    all_goals go_wp2
    all_goals go_returns
    all_goals exact ⟨by unfold up0 up1; rw [if_pos h, if_pos h], (by repeat' (first | (with_reducible exact Below.refl _ _) | (with_reducible assumption) | (with_reducible refine below_drewN ?_ _) | (with_reducible refine Below.drew ?_) | (with_reducible refine below_new ?_ _) | (with_reducible refine below_next ?_ (by with_reducible assumption)) | (with_reducible refine Below.setCell ?_ ?_ _) | go_size))⟩
  · have hd : decide (64 ≤ n) = true := by simp; omega
    go_enter Tryz.func75, Tryz.ntmps75
    go_wp2
    go_returns
    exact ⟨by unfold up0 up1; rw [if_neg (by omega), if_neg (by omega)], (by repeat' (first | (with_reducible exact Below.refl _ _) | (with_reducible assumption) | (with_reducible refine below_drewN ?_ _) | (with_reducible refine Below.drew ?_) | (with_reducible refine below_new ?_ _) | (with_reducible refine below_next ?_ (by with_reducible assumption)) | (with_reducible refine Below.setCell ?_ ?_ _) | go_size))⟩

set_option maxHeartbeats 1600000 in
theorem iOne_any (n : Int) (h0 : 0 ≤ n) (h1 : n ≤ 95) (w : World) :
    Calls Tryz.prog 83 #[.int .i64 n] w fun e w' => e = .returned (.agg #[.int .u64 (b0 n), .int .u64 (b1 n)]) ∧ Below w.heap.size w w' := by
  have e0 := up0_one n h0
  have e1 := up1_one n h0 h1
  have H := Lib.hid e0
  have H1 := Lib.hid e1
  clear e0 e1
  go_enter Tryz.func83, Tryz.ntmps83
  go_wp2_with (go_at_call 75; refine (iMoveUp_any _ _ _ h0 h1 _).mono ?_; rintro e w1 ⟨rfl, hB⟩; obtain ⟨hc, hf, hz⟩ := bcell hB)
  rw [H.out, H1.out]
  refine bodyPost_ret (by simp [results, Tryz.results83, go_sem,  hc]; try rfl) rfl ?_
  exact ⟨rfl, (by repeat' (first | (with_reducible exact Below.refl _ _) | (with_reducible assumption) | (with_reducible refine below_drewN ?_ _) | (with_reducible refine Below.drew ?_) | (with_reducible refine below_new ?_ _) | (with_reducible refine below_next ?_ (by with_reducible assumption)) | (with_reducible refine Below.setCell ?_ ?_ _) | go_size))⟩

set_option maxHeartbeats 1600000 in
theorem sBit_any (n : Int) (h0 : 0 ≤ n) (h1 : n ≤ 95) (w : World) :
    Calls Tryz.prog 66 #[.int .i64 n] w fun e w' => e = .returned (.agg #[.int .u64 (b0 n), .int .u64 (b1 n)]) ∧ Below w.heap.size w w' := by
  by_cases h : n < 64
  · have hd : n / 64 = 0 := by omega
    have hm : n % 64 = n := by omega
    have hw := wpow n h0 h
    go_enter Tryz.func66, Tryz.ntmps66
    go_wp2
    go_returns
    exact ⟨by unfold b0 b1; rw [if_pos h, if_pos h], (by repeat' (first | (with_reducible exact Below.refl _ _) | (with_reducible assumption) | (with_reducible refine below_drewN ?_ _) | (with_reducible refine Below.drew ?_) | (with_reducible refine below_new ?_ _) | (with_reducible refine below_next ?_ (by with_reducible assumption)) | (with_reducible refine Below.setCell ?_ ?_ _) | go_size))⟩
  · obtain ⟨m, rfl⟩ : ∃ m, n = 64 + m := ⟨n - 64, by omega⟩
    have g0 : 0 ≤ m := by omega
    have g1 : m ≤ 31 := by omega
    have hd : (64 + m) / 64 = 1 := by omega
    have hm : (64 + m) % 64 = m := by omega
    have hw := wpow m g0 (by omega)
    go_enter Tryz.func66, Tryz.ntmps66
    go_wp2
    go_returns
    exact ⟨by unfold b0 b1; rw [if_neg (by omega), if_neg (by omega), show 64 + m - 64 = m from by omega], (by repeat' (first | (with_reducible exact Below.refl _ _) | (with_reducible assumption) | (with_reducible refine below_drewN ?_ _) | (with_reducible refine Below.drew ?_) | (with_reducible refine below_new ?_ _) | (with_reducible refine below_next ?_ (by with_reducible assumption)) | (with_reducible refine Below.setCell ?_ ?_ _) | go_size))⟩

set_option maxHeartbeats 1600000 in
theorem sHas_any (a b n : Int) (ha : U64 a) (hb : U64 b) (h0 : 0 ≤ n) (h1 : n ≤ 95) (w : World) :
    Calls Tryz.prog 122 #[.agg #[.int .u64 a, .int .u64 b], .int .i64 n] w fun e w' => e = .returned (.bool (hasB a b n)) ∧ Below w.heap.size w w' := by
  by_cases h : n < 64
  · have hd : n / 64 = 0 := by omega
    have hm : n % 64 = n := by omega
    have ht : (a / 2 ^ n.toNat).tmod 2 = a / 2 ^ n.toNat % 2 := Int.tmod_eq_emod_of_nonneg (Int.ediv_nonneg ha.1 (Int.pow_nonneg (by decide)))
    go_enter Tryz.func122, Tryz.ntmps122
    go_wp2
    go_returns
    exact ⟨by unfold hasB; rw [if_pos h]; simp , (by repeat' (first | (with_reducible exact Below.refl _ _) | (with_reducible assumption) | (with_reducible refine below_drewN ?_ _) | (with_reducible refine Below.drew ?_) | (with_reducible refine below_new ?_ _) | (with_reducible refine below_next ?_ (by with_reducible assumption)) | (with_reducible refine Below.setCell ?_ ?_ _) | go_size))⟩
  · obtain ⟨m, rfl⟩ : ∃ m, n = 64 + m := ⟨n - 64, by omega⟩
    have g0 : 0 ≤ m := by omega
    have g1 : m ≤ 31 := by omega
    have hd : (64 + m) / 64 = 1 := by omega
    have hm : (64 + m) % 64 = m := by omega
    have ht : (b / 2 ^ m.toNat).tmod 2 = b / 2 ^ m.toNat % 2 := Int.tmod_eq_emod_of_nonneg (Int.ediv_nonneg hb.1 (Int.pow_nonneg (by decide)))
    go_enter Tryz.func122, Tryz.ntmps122
    go_wp2
    go_returns
    exact ⟨by unfold hasB; rw [if_neg (by omega), show 64 + m - 64 = m from by omega]; simp , (by repeat' (first | (with_reducible exact Below.refl _ _) | (with_reducible assumption) | (with_reducible refine below_drewN ?_ _) | (with_reducible refine Below.drew ?_) | (with_reducible refine below_new ?_ _) | (with_reducible refine below_next ?_ (by with_reducible assumption)) | (with_reducible refine Below.setCell ?_ ?_ _) | go_size))⟩
end Go.Proofs.YtpkpjkceiikakaaGreatDoor
