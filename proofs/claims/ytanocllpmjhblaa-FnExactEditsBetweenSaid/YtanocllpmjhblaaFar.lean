/- Contracts: how far two masks are from each other, the program's and the model's. -/
import Derived.Test.YtanocllpmjhblaaWear2
import Derived.Test.YtanocllpmjhblaaCountW
namespace Go.Proofs.Ytanocllpmjhblaa
open Go.ChangeShapes Go.WideShapes Go.ChangeAt Go.RowKit

theorem u64_less {a c : Int} (ha : U64 a) (hc : U64 c) : U64 (bits .andNot .u64 a c) := by
  obtain ⟨x, rfl⟩ := Int.eq_ofNat_of_zero_le ha.1
  obtain ⟨y, rfl⟩ := Int.eq_ofNat_of_zero_le hc.1
  have hx : x < 18446744073709551616 := by have := ha.2; omega
  have hy : y < 18446744073709551616 := by have := hc.2; omega
  rw [Go.u64_andNot_nat x y hx hy]
  have : x &&& (18446744073709551615 - y) ≤ x := Nat.and_le_left
  exact ⟨by omega, by omega⟩

/-- How many holes are in one of two masks alone. -/
def far (a b c d : Int) : Nat := cnt (bits .andNot .u64 c a).toNat (bits .andNot .u64 d b).toNat + cnt (bits .andNot .u64 a c).toNat (bits .andNot .u64 b d).toNat
theorem far_le (a b c d : Int) : far a b c d ≤ 256 := by unfold far; have := cnt_le (bits .andNot .u64 c a).toNat (bits .andNot .u64 d b).toNat; have := cnt_le (bits .andNot .u64 a c).toNat (bits .andNot .u64 b d).toNat; omega

theorem u64_nat {x : Int} (h : U64 x) : x.toNat < 18446744073709551616 := by have := h.1; have := h.2; omega
theorem sCountZ (x y : Int) (hx : U64 x) (hy : U64 y) (w : World) : Calls Try.prog 103 #[.agg #[.int .u64 x, .int .u64 y]] w fun e w' => e = .returned (.int .i64 (cnt x.toNat y.toNat : Int)) ∧ Below w.heap.size w w' := by
  have h := sCount_any x.toNat y.toNat (u64_nat hx) (u64_nat hy) w
  rw [Int.toNat_of_nonneg hx.1, Int.toNat_of_nonneg hy.1] at h
  exact h

/-- The program's count of the wear between two masks. -/
theorem iFarC_any (a b c d : Int) (ha : U64 a) (hb : U64 b) (hc : U64 c) (hd : U64 d) (w : World) :
    Calls Try.prog 93 #[.agg #[.int .u64 (bits .andNot .u64 c a), .int .u64 (bits .andNot .u64 d b), .int .u64 (bits .andNot .u64 a c), .int .u64 (bits .andNot .u64 b d)]] w fun e w' => e = .returned (.int .i64 (far a b c d : Int)) ∧ Below w.heap.size w w' := by
  have h1 := u64_less hc ha
  have h2 := u64_less hd hb
  have h3 := u64_less ha hc
  have h4 := u64_less hb hd
  have h := iCnt_any _ _ _ _ (u64_nat h1) (u64_nat h2) (u64_nat h3) (u64_nat h4) w
  rw [Int.toNat_of_nonneg h1.1, Int.toNat_of_nonneg h2.1, Int.toNat_of_nonneg h3.1, Int.toNat_of_nonneg h4.1, ← Int.natCast_add] at h
  exact h

/-- A number and OK, or nothing and ErrInvalid. -/
def dsV (ok : Bool) (n : Nat) : Value := .tuple #[.int .i64 (if ok then (n : Int) else 0), .int .i64 (if ok then 0 else 1)]
theorem dsV_no (n : Nat) : .tuple #[.int .i64 0, .int .i64 1] = dsV false n := rfl
theorem dsV_yes (n : Nat) : .tuple #[.int .i64 (n : Int), .int .i64 0] = dsV true n := rfl
theorem dsV_parts (ok : Bool) (n : Nat) : ∃ x c : Int, dsV ok n = .tuple #[.int .i64 x, .int .i64 c] := ⟨_, _, rfl⟩
theorem sMaskIs {b : Int} (a : Int) {x : Bool} (h : (b / 4294967296 == 0) = x) : Hid (∀ w : World, Calls Try.prog 94 #[.agg #[.int .u64 a, .int .u64 b]] w fun e w' => e = .returned (.bool x) ∧ Below w.heap.size w w') := sMask_is a h

set_option maxHeartbeats 800000 in
theorem iDist_any (a b c d : Int) (ha : U64 a) (hb : U64 b) (hc : U64 c) (hd : U64 d) (w : World) :
    Calls Try.prog 47 #[.agg #[.int .u64 a, .int .u64 b], .agg #[.int .u64 c, .int .u64 d]] w fun e w' => e = .returned (dsV (maskOk b && maskOk d) (far a b c d)) ∧ Below w.heap.size w w' := by
  have HB := Lib.hid (block_alloc2 w (.cells #[.int .u64 a, .int .u64 b] 53) (.cells #[.int .u64 c, .int .u64 d] 53))
  have kk : Below w.heap.size w ((w.alloc (.cells #[.int .u64 a, .int .u64 b] 53)).alloc (.cells #[.int .u64 c, .int .u64 d] 53)) := below_new (below_new (Below.refl _ _) _) _
  have KK := Lib.hid kk
  clear kk
  have B := Lib.hid fun W => iBtw_any a b c d W
  have C := Lib.hid fun W => iFarC_any a b c d ha hb hc hd W
  clear ha hb hc hd
  unfold maskOk
  cases h1 : (b / 4294967296 == 0)
  · have M1 := iMask_is a h1
    clear h1
    go_enter Try.func47, Try.ntmps47
    go_wp2_with (go_at_call_of 91 (Value.int IntKind.u64 b); refine (M1.out _).mono ?_; rintro e w1 ⟨rfl, hB1⟩; have k1 := KK.out.trans (Below.mono hB1 KK.out.size))
    go_ret2
    exact ⟨eRet (dsV_no _), k1⟩
  · have M1 := iMask_is a h1
    cases h2 : (d / 4294967296 == 0)
    · have M2 := iMask_is c h2
      clear h1 h2
      go_enter Try.func47, Try.ntmps47
      go_wp2_with (first | (go_at_call_of 91 (Value.int IntKind.u64 b); refine (M1.out _).mono ?_; rintro e w1 ⟨rfl, hB1⟩; have b10 := Ab.block hB1 HB.out.1; have b11 := Ab.block hB1 HB.out.2; have k1 := KK.out.trans (Below.mono hB1 KK.out.size); have x1 := cell_of_block b11) | (go_at_call_of 91 (Value.int IntKind.u64 d); refine (M2.out _).mono ?_; rintro e w2 ⟨rfl, hB2⟩; have k2 := k1.trans (Below.mono hB2 k1.size)))
      go_ret2
      exact ⟨eRet (dsV_no _), k2⟩
    · have M2 := iMask_is c h2
      clear h1 h2
      go_enter Try.func47, Try.ntmps47
      go_wp2_with (first | (go_at_call_of 91 (Value.int IntKind.u64 b); refine (M1.out _).mono ?_; rintro e w1 ⟨rfl, hB1⟩; have b10 := Ab.block hB1 HB.out.1; have b11 := Ab.block hB1 HB.out.2; have k1 := Lib.hid (KK.out.trans (Below.mono hB1 KK.out.size)); have x1 := cell_of_block b11; have b10 := Lib.hid b10; have b11 := Lib.hid b11; clear hB1) | (go_at_call_of 91 (Value.int IntKind.u64 d); refine (M2.out _).mono ?_; rintro e w2 ⟨rfl, hB2⟩; have b20 := Ab.block hB2 b10.out; have b21 := Ab.block hB2 b11.out; have k2 := Lib.hid (k1.out.trans (Below.mono hB2 k1.out.size)); clear x1 hB2; have x0 := cell_of_block b20; have x1 := cell_of_block b21; clear b20 b21) | (go_at_call 92; refine (B.out _).mono ?_; rintro e w3 ⟨rfl, hB3⟩; have k3 := Lib.hid (k2.out.trans (Below.mono hB3 k2.out.size)); clear x0 x1 hB3) | (go_at_call 93; refine (C.out _).mono ?_; rintro e w4 ⟨rfl, hB4⟩; have k4 := Lib.hid (k3.out.trans (Below.mono hB4 k3.out.size)); clear hB4))
      go_ret2
      exact ⟨eRet (dsV_yes _), k4.out⟩

def lss (a c : Int) : Int := bits .andNot .u64 a c
theorem sLessF (a b c d : Int) (w : World) : Calls Try.prog 122 #[.agg #[.int .u64 a, .int .u64 b], .agg #[.int .u64 c, .int .u64 d]] w fun e w' => e = .returned (.agg #[.int .u64 (lss a c), .int .u64 (lss b d)]) ∧ Below w.heap.size w w' := sLess_below a b c d w
set_option maxHeartbeats 800000 in
theorem sFarPQ (a b c d : Int) (p q : Nat) (C1 : Hid (∀ W : World, Calls Try.prog 103 #[.agg #[.int .u64 (lss a c), .int .u64 (lss b d)]] W fun e w' => e = .returned (.int .i64 (p : Int)) ∧ Below W.heap.size W w'))
    (C2 : Hid (∀ W : World, Calls Try.prog 103 #[.agg #[.int .u64 (lss c a), .int .u64 (lss d b)]] W fun e w' => e = .returned (.int .i64 (q : Int)) ∧ Below W.heap.size W w')) (s1 : IntKind.i64.wrap ((p : Int) + (q : Int)) = (p : Int) + (q : Int)) (w : World) :
    Calls Try.prog 95 #[.agg #[.int .u64 a, .int .u64 b], .agg #[.int .u64 c, .int .u64 d]] w fun e w' => e = .returned (.int .i64 ((p : Int) + (q : Int))) ∧ Below w.heap.size w w' := by
  have hbw := cell_bw
  go_enter Try.func95, Try.ntmps95
  go_wp2_with fail
  refine region_bw (by kernel_rfl) (by kernel_rfl) ?_
  go_big_quiet_step (fail)
  go_big_quiet_step (fail)
  go_big_quiet_step ((go_at_call 122; exact calls_bw (sLessF _ _ _ _ _)))
  go_big_quiet_step ((go_at_call 103; exact calls_bw (C1.out _)))
  go_big_quiet_step (fail)
  go_big_quiet_step (fail)
  go_big_quiet_step ((go_at_call 122; exact calls_bw (sLessF _ _ _ _ _)))
  go_big_quiet_step ((go_at_call 103; exact calls_bw (C2.out _)))
  repeat (go_big_quiet_step (fail))
  refine wpQuiet_nil ?_; intro wq hq; replace hq := below_of_bw hq; obtain ⟨qc, qf, qz⟩ := bcell hq
  go_wp2
  go_returns
  exact ⟨rfl, (by repeat' (first | (with_reducible exact Below.refl _ _) | (with_reducible assumption) | (with_reducible refine below_drewN ?_ _) | (with_reducible refine Below.drew ?_) | (with_reducible refine below_new ?_ _) | (with_reducible refine below_next ?_ (by with_reducible assumption)) | (with_reducible refine Below.setCell ?_ ?_ _) | go_size))⟩
theorem sFar_any (a b c d : Int) (ha : U64 a) (hb : U64 b) (hc : U64 c) (hd : U64 d) (w : World) :
    Calls Try.prog 95 #[.agg #[.int .u64 a, .int .u64 b], .agg #[.int .u64 c, .int .u64 d]] w fun e w' => e = .returned (.int .i64 (far a b c d : Int)) ∧ Below w.heap.size w w' := by
  have l1 := cnt_le (lss a c).toNat (lss b d).toNat
  have l2 := cnt_le (lss c a).toNat (lss d b).toNat
  refine (sFarPQ a b c d _ _ (Lib.hid fun W => sCountZ (lss a c) (lss b d) (u64_less ha hc) (u64_less hb hd) W) (Lib.hid fun W => sCountZ (lss c a) (lss d b) (u64_less hc ha) (u64_less hd hb) W) (IntWalk.i64_in _ (by omega)) w).mono ?_
  rintro e w' ⟨rfl, hB⟩
  refine ⟨?_, hB⟩
  have ef : (far a b c d : Int) = (cnt (lss a c).toNat (lss b d).toNat : Int) + (cnt (lss c a).toNat (lss d b).toNat : Int) := by
    unfold far
    rw [Int.natCast_add, Int.add_comm]
    rfl
  rw [ef]
end Go.Proofs.Ytanocllpmjhblaa
