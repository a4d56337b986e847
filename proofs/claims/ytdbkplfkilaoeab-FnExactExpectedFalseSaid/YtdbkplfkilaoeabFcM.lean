/- The chance of a false drop of a mix: the program's way and the model's. -/
import Derived.Test.YtdbkplfkilaoeabFc
import Derived.Test.YtdbkplfkilaoeabVMix
namespace Go.Proofs.Ytdbkplfkilaoeab
open Go.ChangeShapes Go.WideShapes Go.ChangeAt Go.RowKit

theorem iKept_any (x : Int) (w : World) : Calls Try.prog 27 #[.int .i64 x] w fun e w' => e = .returned (.bool (decide (0 ≤ x ∧ x ≤ 100))) ∧ w = w' := by
  by_cases h : 0 ≤ x
  · have d : decide (0 ≤ x) = true := decide_eq_true h
    have e : decide (0 ≤ x ∧ x ≤ 100) = decide (x ≤ 100) := by simp [h]
    rw [e]
    clear e
    go_enter Try.func27, Try.ntmps27
    go_wp2
    go_returns
    exact ⟨rfl, rfl⟩
  · have d : decide (0 ≤ x) = false := decide_eq_false h
    have e : decide (0 ≤ x ∧ x ≤ 100) = false := by simp [h]
    rw [e]
    clear e
    go_enter Try.func27, Try.ntmps27
    go_wp2
    go_returns
    exact ⟨rfl, rfl⟩
theorem iAsked_any (x : Int) (w : World) : Calls Try.prog 28 #[.int .i64 x] w fun e w' => e = .returned (.bool (decide (0 ≤ x ∧ x ≤ 12))) ∧ w = w' := by
  by_cases h : 0 ≤ x
  · have d : decide (0 ≤ x) = true := decide_eq_true h
    have e : decide (0 ≤ x ∧ x ≤ 12) = decide (x ≤ 12) := by simp [h]
    rw [e]
    clear e
    go_enter Try.func28, Try.ntmps28
    go_wp2
    go_returns
    exact ⟨rfl, rfl⟩
  · have d : decide (0 ≤ x) = false := decide_eq_false h
    have e : decide (0 ≤ x ∧ x ≤ 12) = false := by simp [h]
    rw [e]
    clear e
    go_enter Try.func28, Try.ntmps28
    go_wp2
    go_returns
    exact ⟨rfl, rfl⟩

theorem pa_in {P A : Nat} (h1 : P ≤ 8) (h2 : A ≤ 12) : 0 ≤ (P : Int) * (A : Int) ∧ (P : Int) * (A : Int) ≤ 96 := by
  have h : P * A ≤ 8 * 12 := Nat.mul_le_mul h1 h2
  have e : (P : Int) * (A : Int) = ((P * A : Nat) : Int) := (Int.natCast_mul P A).symm
  omega

set_option maxHeartbeats 1600000 in
theorem iFc_any (t z : Int) (P W A : Nat) (z0 : 4 ≤ z) (z1 : z ≤ 96) (p1 : 1 ≤ P) (p8 : P ≤ 8) (pz : 2 * (P : Int) ≤ z) (hW : W ≤ 100) (hA : A ≤ 12) (w : World) :
    Calls Try.prog 29 #[.agg #[.int .i16 t, .int .i16 z, .int .i16 (P : Int)], .int .i64 (W : Int), .int .i64 (A : Int)] w fun e w' => e = .returned (.int .i64 (fcV z P W A)) ∧ Below w.heap.size w w' := by
  have K1 := Lib.hid fun Wd => iChance_any (z - (P : Int)) z (W : Int) W rfl (by omega) (by omega) (by omega) (by omega) (by omega) Wd
  obtain ⟨c0, c1⟩ := ch_in (p := z - (P : Int)) (q := z) (by omega) (by omega) (by omega) W
  obtain ⟨m0, m1⟩ := pa_in p8 hA
  have em : (P : Int) * (A : Int) = ((P * A : Nat) : Int) := (Int.natCast_mul P A).symm
  unfold fcV
  generalize ch (z - (P : Int)) z W = c at *
  have K2 := Lib.hid fun Wd => iChance_any (1000000000 - c) 1000000000 ((P : Int) * (A : Int)) (P * A) em (by omega) (by omega) (by omega) (by omega) (by omega) Wd
  generalize ch (1000000000 - c) 1000000000 (P * A) = d at *
  clear em
  have tok1 : True := trivial
  have b0 : Below w.heap.size w (w.alloc (.cells #[.int .i16 t, .int .i16 z, .int .i16 (P : Int)] 33)) := below_new (Below.refl _ _) _
  have k0 := cell_of_block (block_alloc w (.cells #[.int .i16 t, .int .i16 z, .int .i16 (P : Int)] 33))
  have y0 := lt_of_block (block_alloc w (.cells #[.int .i16 t, .int .i16 z, .int .i16 (P : Int)] 33))
  have hbw := cell_bw
  go_enter Try.func29, Try.ntmps29
  go_upto_region 1 with fail
  generalize w.alloc (.cells #[.int .i16 t, .int .i16 z, .int .i16 (P : Int)] 33) = W at *
  refine region_bw (by kernel_rfl) (by kernel_rfl) ?_
  repeat (go_big_quiet_step (fail))
  refine wpQuiet_nil ?_; intro wq hq; replace hq := below_of_bw hq; obtain ⟨qc, qf, qz⟩ := bcell hq
  have BQ := Lib.hid (b0.trans (Below.mono hq b0.size))
  clear hq qc qf qz k0 y0 b0 hbw
  go_wp2_with (first
    | (go_at_call 40; have _t := tok1; clear _t tok1; refine (K1.out _).mono ?_; rintro e w1 ⟨rfl, hB⟩; have B1 := Lib.hid (BQ.out.trans (Below.mono hB BQ.out.size)); clear hB)
    | (go_at_call 40; refine (K2.out _).mono ?_; rintro e w2 ⟨rfl, hB⟩; have B2 := Lib.hid (B1.out.trans (Below.mono hB B1.out.size)); clear hB))
  go_returns
  exact ⟨rfl, B2.out⟩

set_option maxHeartbeats 1600000 in
theorem sFc_any (z : Int) (P W A : Nat) (z0 : 4 ≤ z) (z1 : z ≤ 96) (p1 : 1 ≤ P) (p8 : P ≤ 8) (pz : 2 * (P : Int) ≤ z) (hW : W ≤ 100) (hA : A ≤ 12) (w : World) :
    Calls Try.prog 25 #[.int .i64 z, .int .i64 (P : Int), .int .i64 (W : Int), .int .i64 (A : Int)] w fun e w' => e = .returned (.int .i64 (fcV z P W A)) ∧ Below w.heap.size w w' := by
  have IN := Lib.hid fun j => ch_mul (p := z - (P : Int)) (q := z) (by omega) (by omega) (by omega) (by omega) j
  obtain ⟨c0, c1⟩ := ch_in (p := z - (P : Int)) (q := z) (by omega) (by omega) (by omega) W
  obtain ⟨m0, m1⟩ := pa_in p8 hA
  have em : (P : Int) * (A : Int) = ((P * A : Nat) : Int) := (Int.natCast_mul P A).symm
  have Z := Lib.hid (ch_zero (z - (P : Int)) z)
  have NX := Lib.hid fun j => ch_next (z - (P : Int)) z j
  unfold fcV
  go_enter Try.func25, Try.ntmps25
  go_wp2
  go_loopw [9, 10] (fun x i wr => ∃ j : Nat, j ≤ W ∧ i = .int .i64 (j : Int) ∧ x = .int .i64 (ch (z - (P : Int)) z j) ∧ Below w.heap.size w wr) (fun _ i _ => W - (intOf i).toNat)
  case atStart => exact ⟨0, Nat.zero_le _, rfl, by rw [Z.out], Below.refl _ _⟩
  case round =>
    obtain ⟨j, hj, rfl, rfl, hB⟩ := hrel
    have BB := Lib.hid hB
    clear hB
    by_cases hl : j < W
    · have d1 : decide ((j : Int) < (W : Int)) = true := decide_eq_true (by omega)
      obtain ⟨b0, b1⟩ := IN.out j
      have e := NX.out j
      have E := Lib.hid e
      clear e em m0 m1 c0 c1
      generalize ch (z - (P : Int)) z j = c at *
      go_wp2
      exact ⟨⟨j + 1, by omega, by rw [Int.natCast_succ], by rw [E.out], BB.out⟩, by simp [intOf]; omega⟩
    · obtain rfl : j = W := by omega
      have d1 : decide ((j : Int) < (j : Int)) = false := by simp
      generalize hc : ch (z - (P : Int)) z j = c at *
      have HC := Lib.hid hc
      clear hc
      have IM := Lib.hid fun j => ch_mul (p := 1000000000 - c) (q := 1000000000) (by omega) (by omega) (by omega) (by omega) j
      have EM := Lib.hid em
      have Z2 := Lib.hid (ch_zero (1000000000 - c) 1000000000)
      have NX2 := Lib.hid fun j => ch_next (1000000000 - c) 1000000000 j
      clear em
      go_wp2
      go_loopw [11, 12] (fun x i wr => ∃ k : Nat, k ≤ P * A ∧ i = .int .i64 (k : Int) ∧ x = .int .i64 (ch (1000000000 - c) 1000000000 k) ∧ Below w.heap.size w wr) (fun _ i _ => P * A - (intOf i).toNat)
      case atStart => exact ⟨0, Nat.zero_le _, rfl, by rw [Z2.out], BB.out⟩
      case round =>
        obtain ⟨k, hk, rfl, rfl, hB⟩ := hrel
        have BB := Lib.hid hB
        clear hB
        have em := EM.out
        by_cases hl : k < P * A
        · have d1 : decide ((k : Int) < (P : Int) * (A : Int)) = true := decide_eq_true (by omega)
          obtain ⟨b0, b1⟩ := IM.out k
          have e := NX2.out k
          have E := Lib.hid e
          clear e em
          generalize ch (1000000000 - c) 1000000000 k = d at *
          go_wp2
          exact ⟨⟨k + 1, by omega, by rw [Int.natCast_succ], by rw [E.out], BB.out⟩, by simp [intOf]; omega⟩
        · obtain rfl : k = P * A := by omega
          have d1 : decide (((P * A : Nat) : Int) < (P : Int) * (A : Int)) = false := by rw [em]; simp
          clear em
          go_wp2
          go_returns
          exact ⟨by rw [HC.out]; rfl, BB.out⟩

/-! ### FalseChance -/
def fcIn (w a : Int) : Prop := 0 ≤ w ∧ w ≤ 100 ∧ 0 ≤ a ∧ a ≤ 12
instance (w a : Int) : Decidable (fcIn w a) := by unfold fcIn; infer_instance
def fcX (ok : Bool) (z p w a : Int) : Int := if ok = true ∧ fcIn w a then fcV z p.toNat w.toNat a.toNat else 0
def fcC (ok : Bool) (w a : Int) : Int := if ok = true then (if fcIn w a then 0 else 2) else 1
def fcR (ok : Bool) (z p w a : Int) : Value := .tuple #[.int .i64 (fcX ok z p w a), .int .i64 (fcC ok w a)]
theorem fcR_no (z p w a : Int) : fcR false z p w a = .tuple #[.int .i64 0, .int .i64 1] := by unfold fcR fcX fcC; simp
theorem fcR_out {w a : Int} (z p : Int) (h : ¬ fcIn w a) : fcR true z p w a = .tuple #[.int .i64 0, .int .i64 2] := by unfold fcR fcX fcC; simp [h]
theorem fcR_yes {z : Int} {P W A : Nat} (h1 : W ≤ 100) (h2 : A ≤ 12) : fcR true z P W A = .tuple #[.int .i64 (fcV z P W A), .int .i64 0] := by
  have h : fcIn (W : Int) (A : Int) := ⟨by omega, by omega, by omega, by omega⟩
  unfold fcR fcX fcC; simp [h]
end Go.Proofs.Ytdbkplfkilaoeab
