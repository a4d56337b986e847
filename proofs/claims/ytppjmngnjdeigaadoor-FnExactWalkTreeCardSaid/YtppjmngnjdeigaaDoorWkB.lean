/- Contracts: slices.BinarySearch over a strictly rising list of numbers, and the model's search, one by one. -/
import Derived.Test.YtppjmngnjdeigaaDoorWkP
import Derived.Test.YtppjmngnjdeigaaDoorCmp
namespace Go.Proofs.YtppjmngnjdeigaaDoor
open Go.ChangeShapes Go.WideShapes Go.ChangeAt Go.RowKit

theorem less_any (x y : Int) (w : World) : Calls Tryd.prog 127 #[.int .i64 x, .int .i64 y] w fun e w' => e = .returned (.bool (decide (x < y))) ∧ w = w' := by
  obtain ⟨b, hb⟩ : ∃ b, decide (x < y) = b := ⟨_, rfl⟩
  rw [hb]
  go_enter Tryd.func127, Tryd.ntmps127
  go_wp2_with (go_at_call 147; refine (nan_any _ _).mono ?_; rintro e w1 ⟨rfl, rfl⟩)
  all_goals go_returns
  all_goals exact ⟨rfl, rfl⟩
theorem nanS_any (x : Int) (w : World) : Calls Tryd.prog 128 #[.int .i64 x] w fun e w' => e = .returned (.bool false) ∧ w = w' := by
  have h : (x != x) = false := by simp
  go_enter Tryd.func128, Tryd.ntmps128
  go_wp2
  go_returns
  exact ⟨rfl, rfl⟩

def binV (vs : List Int) (x : Int) : Value := .tuple #[.int .i64 (lowN vs x vs.length : Int), .bool (fnd vs x).isSome]
theorem binV_no {vs : List Int} {x : Int} {p : Nat} (h : fnd vs x = none) (H : SrTo vs x p p) : Ending.returned (.tuple #[.int .i64 (p : Int), .bool false]) = .returned (binV vs x) := by unfold binV; rw [h, low_end H]; rfl
theorem binV_yes {vs : List Int} {x : Int} {p : Nat} (h : fnd vs x = some p) (H : SrTo vs x p p) : Ending.returned (.tuple #[.int .i64 (p : Int), .bool true]) = .returned (binV vs x) := by unfold binV; rw [h, low_end H]; rfl

set_option maxRecDepth 100000 in
set_option maxHeartbeats 3200000 in
theorem bin_any (a : Option Addr) (vs : List Int) (c : Nat) (x : Int) (w : World) (h : IntsIn w a vs) (hv : ValTo vs vs.length) (hl : vs.length ≤ 1048576) :
    Calls Tryd.prog 102 #[.slice a vs.length c, .int .i64 x] w fun e w' => e = .returned (binV vs x) ∧ w = w' := by
  have H := Lib.hid h
  have V := Lib.hid hv
  clear h hv
  obtain ⟨n, hn⟩ : ∃ n, vs.length = n := ⟨_, rfl⟩
  have HN := Lib.hid hn
  rw [hn] at hl ⊢
  clear hn
  have ST := Lib.hid (show SrTo vs x 0 n by rw [← HN.out]; exact sr_start vs x)
  go_enter Tryd.func102, Tryd.ntmps102
  go_wp2
  go_loop [7, 8] (fun i j => ∃ p q : Nat, i = .int .i64 (p : Int) ∧ j = .int .i64 (q : Int) ∧ p ≤ q ∧ q ≤ n ∧ Hid (SrTo vs x p q)) (fun i j => (intOf j).toNat - (intOf i).toNat)
  case atStart => exact ⟨0, n, rfl, rfl, Nat.zero_le _, Nat.le_refl _, ST⟩
  case round =>
    obtain ⟨p, q, rfl, rfl, hpq, hqn, HS⟩ := hrel
    by_cases hlt : p < q
    · have hd : decide ((p : Int) < (q : Int)) = true := decide_eq_true (by omega)
      obtain ⟨m, hm⟩ : ∃ m, m = (p + q) / 2 := ⟨_, rfl⟩
      have hm1 : p ≤ m := by omega
      have hm2 : m < q := by omega
      have x1 : IntKind.i64.wrap ((p : Int) + (q : Int)) = (p : Int) + (q : Int) := IntWalk.i64_in _ (by omega)
      have x2 : IntKind.u64.wrap ((p : Int) + (q : Int)) = (p : Int) + (q : Int) := IntWalk.u64_in _ (by omega)
      have x3 : ((p : Int) + (q : Int)) / 2 = (m : Int) := by omega
      have x4 : IntKind.i64.wrap (m : Int) = (m : Int) := IntWalk.i64_in _ (by omega)
      have x5 : IntKind.i64.wrap ((m : Int) + 1) = (m : Int) + 1 := IntWalk.i64_in _ (by omega)
      have i1 : (0 : Int) ≤ (m : Int) := by omega
      have i2 : (m : Int) < (n : Int) := by omega
      obtain ⟨b, o, rfl, hb, hc⟩ := H.out m (by rw [HN.out]; omega)
      clear hm
      by_cases hx : vs.getD m 0 < x
      · have dx : decide (vs.getD m 0 < x) = true := decide_eq_true hx
        have NS := Lib.hid (sr_up V.out HS.out hm1 hm2 hx)
        clear hx
        generalize vs.getD m 0 = y at *
        go_wp2_with (go_at_call 127; refine (less_any _ _ _).mono ?_; rintro e w1 ⟨rfl, rfl⟩)
        exact ⟨⟨m + 1, q, by rw [Int.natCast_succ], rfl, by omega, hqn, NS⟩, by (simp [intOf]) <;> omega⟩
      · have dx : decide (vs.getD m 0 < x) = false := decide_eq_false hx
        have NS := Lib.hid (sr_down V.out HS.out hm1 hm2 hx)
        clear hx
        generalize vs.getD m 0 = y at *
        go_wp2_with (go_at_call 127; refine (less_any _ _ _).mono ?_; rintro e w1 ⟨rfl, rfl⟩)
        exact ⟨⟨p, m, rfl, rfl, hm1, by omega, NS⟩, by (simp [intOf]) <;> omega⟩
    · have hd : decide ((p : Int) < (q : Int)) = false := decide_eq_false (by omega)
      have e : p = q := by omega
      subst e
      by_cases hin : p < n
      · have d2 : decide ((p : Int) < (n : Int)) = true := decide_eq_true (by omega)
        have i1 : (0 : Int) ≤ (p : Int) := by omega
        have i2 : (p : Int) < (n : Int) := by omega
        obtain ⟨b, o, rfl, hb, hc⟩ := H.out p (by rw [HN.out]; omega)
        by_cases hx : vs.getD p 0 = x
        · have NS := Lib.hid (sr_in HS.out (by rw [HN.out]; omega) hx)
          rw [hx] at hc
          have ee : (x == x) = true := by simp
          clear hx
          go_wp2_with (go_at_call 128; refine (nanS_any _ _).mono ?_; rintro e w1 ⟨rfl, rfl⟩)
          all_goals go_returns
          all_goals exact ⟨binV_yes NS.out HS.out, rfl⟩
        · have NS := Lib.hid (sr_not V.out HS.out (by rw [HN.out]; omega) hx)
          have ee : (vs.getD p 0 == x) = false := beq_false_of_ne hx
          clear hx
          generalize vs.getD p 0 = y at *
          go_wp2_with (go_at_call 128; refine (nanS_any _ _).mono ?_; rintro e w1 ⟨rfl, rfl⟩)
          all_goals go_returns
          all_goals exact ⟨binV_no NS.out HS.out, rfl⟩
      · have d2 : decide ((p : Int) < (n : Int)) = false := decide_eq_false (by omega)
        have NS := Lib.hid (sr_out HS.out (by rw [HN.out]; omega))
        go_wp2_with (go_at_call 128; refine (nanS_any _ _).mono ?_; rintro e w1 ⟨rfl, rfl⟩)
        all_goals go_returns
        all_goals exact ⟨binV_no NS.out HS.out, rfl⟩

def fdV (o : Option Nat) : Int := match o with
  | some i => (i : Int)
  | none => -1
set_option maxHeartbeats 1600000 in
theorem sFind_any (a : Option Addr) (vs : List Int) (c : Nat) (x : Int) (w : World) (h : IntsIn w a vs) (hl : vs.length ≤ 1048576) :
    Calls Tryd.prog 73 #[.slice a vs.length c, .int .i64 x] w fun e w' => e = .returned (.int .i64 (fdV (fnd vs x))) ∧ w = w' := by
  have H := Lib.hid h
  clear h
  go_enter Tryd.func73, Tryd.ntmps73
  go_wp2
  go_loop [5] (fun i => ∃ j : Nat, i = .int .i64 (j : Int) ∧ j ≤ vs.length ∧ fndN vs x j = none) (fun i => vs.length - (intOf i).toNat)
  case atStart => exact ⟨0, rfl, Nat.zero_le _, rfl⟩
  case round =>
    obtain ⟨j, rfl, hj, hf⟩ := hrel
    by_cases hkl : j < vs.length
    · have hd : decide ((j : Int) < (vs.length : Int)) = true := decide_eq_true (by omega)
      have i1 : (0 : Int) ≤ (j : Int) := by omega
      have i2 : (j : Int) < (vs.length : Int) := by omega
      have x5 : IntKind.i64.wrap ((j : Int) + 1) = (j : Int) + 1 := IntWalk.i64_in _ (by omega)
      obtain ⟨b, o, rfl, hb, hc⟩ := H.out j hkl
      by_cases hx : vs.getD j 0 = x
      · have ee : (x == x) = true := by simp
        have NS := Lib.hid (show fnd vs x = some j from fndN_hit hf hx hkl)
        rw [hx] at hc
        clear hx hf
        go_wp2
        go_ret
        exact ⟨by rw [NS.out]; rfl, rfl⟩
      · have ee : (vs.getD j 0 == x) = false := beq_false_of_ne hx
        have NS := Lib.hid (fndN_next hf hx)
        clear hx hf
        generalize vs.getD j 0 = y at *
        go_wp2
        exact ⟨⟨j + 1, by rw [Int.natCast_succ], hkl, NS.out⟩, by (simp [intOf]) <;> omega⟩
    · have e : j = vs.length := by omega
      subst e
      have hd : decide ((vs.length : Int) < (vs.length : Int)) = false := by simp
      have NS := Lib.hid (show fnd vs x = none from hf)
      clear hf
      go_wp2
      go_ret
      exact ⟨by rw [NS.out]; rfl, rfl⟩
end Go.Proofs.YtppjmngnjdeigaaDoor
