/- Contracts: FalseChance, the program's and the model's. -/
import Derived.Test.YtdbkplfkilaoeabFcM
namespace Go.Proofs.Ytdbkplfkilaoeab
open Go.ChangeShapes Go.WideShapes Go.ChangeAt Go.RowKit

theorem fret_v {x y : Value} (h : x = y) : Ending.returned y = Ending.returned x := by rw [h]

set_option maxHeartbeats 1600000 in
theorem iFalse_any (t z p n a : Int) (ht : I16 t) (hz : I16 z) (w : World) :
    Calls Try.prog 12 #[.agg #[.int .i16 t, .int .i16 z, .int .i16 p], .int .i64 n, .int .i64 a] w fun e w' => e = .returned (fcR (mixOk t z p) z p n a) ∧ Below w.heap.size w w' := by
  have V := Lib.hid fun W => iValidMix_any t z p ht hz W
  have M0 := Lib.hid (block_alloc w (.cells #[.int .i16 t, .int .i16 z, .int .i16 p] 33))
  have B0 := Lib.hid (below_new (Below.refl w.heap.size w) (.cells #[.int .i16 t, .int .i16 z, .int .i16 p] 33))
  clear ht hz
  cases hv : mixOk t z p
  · rw [hv] at V
    rw [fcR_no]
    clear hv
    go_enter Try.func12, Try.ntmps12
    go_wp2_with (go_at_call 26; refine (V.out _).mono ?_; rintro e w1 ⟨rfl, hB⟩; have b1 := Lib.hid (B0.out.trans (Below.mono hB B0.out.size)); clear hB)
    all_goals go_returns
    all_goals exact ⟨rfl, b1.out⟩
  rw [hv] at V
  obtain ⟨t0, z0, tz, p1, p8, pz⟩ := mix_inv hv
  have K1 := Lib.hid fun W => iKept_any n W
  have K2 := Lib.hid fun W => iAsked_any a W
  clear hv
  by_cases h1 : 0 ≤ n ∧ n ≤ 100
  · rw [decide_eq_true h1] at K1
    by_cases h2 : 0 ≤ a ∧ a ≤ 12
    · rw [decide_eq_true h2] at K2
      obtain ⟨P, rfl⟩ := Int.eq_ofNat_of_zero_le (show 0 ≤ p by omega)
      obtain ⟨N, rfl⟩ := Int.eq_ofNat_of_zero_le h1.1
      obtain ⟨A, rfl⟩ := Int.eq_ofNat_of_zero_le h2.1
      rw [fcR_yes (by omega) (by omega)]
      have F := Lib.hid fun W => iFc_any t z P N A z0 (by omega) (by omega) (by omega) pz (by omega) (by omega) W
      generalize fcV z P N A = v at *
      clear h1 h2
      go_enter Try.func12, Try.ntmps12
      go_wp2_with (first
        | (go_at_call 26; refine (V.out _).mono ?_; rintro e w1 ⟨rfl, hB⟩; have b1 := Lib.hid (B0.out.trans (Below.mono hB B0.out.size)); have m1 := Ab.block hB M0.out; have k1 := cell_of_block m1; have y1 := lt_of_block m1; clear hB)
        | (go_at_call 27; refine (K1.out _).mono ?_; rintro e w2 ⟨rfl, rfl⟩)
        | (go_at_call 28; refine (K2.out _).mono ?_; rintro e w2 ⟨rfl, rfl⟩)
        | (go_at_call 29; refine (F.out _).mono ?_; rintro e w3 ⟨rfl, hB⟩; have b3 := Lib.hid (b1.out.trans (Below.mono hB b1.out.size)); clear hB))
      all_goals go_returns
      all_goals exact ⟨rfl, b3.out⟩
    · rw [decide_eq_false h2] at K2
      rw [fcR_out z p (by unfold fcIn; omega)]
      clear h1 h2
      go_enter Try.func12, Try.ntmps12
      go_wp2_with (first
        | (go_at_call 26; refine (V.out _).mono ?_; rintro e w1 ⟨rfl, hB⟩; have b1 := Lib.hid (B0.out.trans (Below.mono hB B0.out.size)); clear hB)
        | (go_at_call 27; refine (K1.out _).mono ?_; rintro e w2 ⟨rfl, rfl⟩)
        | (go_at_call 28; refine (K2.out _).mono ?_; rintro e w2 ⟨rfl, rfl⟩))
      all_goals go_returns
      all_goals exact ⟨rfl, b1.out⟩
  · rw [decide_eq_false h1] at K1
    rw [fcR_out z p (by unfold fcIn; omega)]
    clear h1
    go_enter Try.func12, Try.ntmps12
    go_wp2_with (first
      | (go_at_call 26; refine (V.out _).mono ?_; rintro e w1 ⟨rfl, hB⟩; have b1 := Lib.hid (B0.out.trans (Below.mono hB B0.out.size)); clear hB)
      | (go_at_call 27; refine (K1.out _).mono ?_; rintro e w2 ⟨rfl, rfl⟩))
    all_goals go_returns
    all_goals exact ⟨rfl, b1.out⟩

set_option maxHeartbeats 1600000 in
theorem sFalse_any (t z p n a : Int) (ht : I16 t) (hz : I16 z) (hp : I16 p) (w : World) :
    Calls Try.prog 10 #[.agg #[.int .i16 t, .int .i16 z, .int .i16 p], .int .i64 n, .int .i64 a] w fun e w' => e = .returned (fcR (mixOk t z p) z p n a) ∧ Below w.heap.size w w' := by
  have V := Lib.hid fun W c0 c1 c2 => sOkMix_any t z p ht hz hp w.heap.size 0 W c0 c1 c2
  have M0 := Lib.hid (block_alloc w (.cells #[.int .i16 t, .int .i16 z, .int .i16 p] 33))
  have B0 := Lib.hid (below_new (Below.refl w.heap.size w) (.cells #[.int .i16 t, .int .i16 z, .int .i16 p] 33))
  clear ht hz hp
  cases hv : mixOk t z p
  · rw [hv] at V
    rw [fcR_no]
    clear hv
    go_enter Try.func10, Try.ntmps10
    go_wp2_with (go_at_call 23; refine (V.out _ (by simp) (by simp) (by simp)).mono ?_; rintro e w1 ⟨rfl, hB⟩; have b1 := Lib.hid (B0.out.trans (Below.mono hB B0.out.size)); clear hB)
    all_goals go_returns
    all_goals exact ⟨rfl, b1.out⟩
  rw [hv] at V
  obtain ⟨t0, z0, tz, p1, p8, pz⟩ := mix_inv hv
  have tok1 : True := trivial
  clear hv
  by_cases h1 : 0 ≤ n ∧ n ≤ 100
  · have K1 := Lib.hid fun W => sInM_t h1 W
    by_cases h2 : 0 ≤ a ∧ a ≤ 12
    · have K2 := Lib.hid fun W => sInM_t h2 W
      obtain ⟨P, rfl⟩ := Int.eq_ofNat_of_zero_le (show 0 ≤ p by omega)
      obtain ⟨N, rfl⟩ := Int.eq_ofNat_of_zero_le h1.1
      obtain ⟨A, rfl⟩ := Int.eq_ofNat_of_zero_le h2.1
      rw [fcR_yes (by omega) (by omega)]
      have F := Lib.hid fun W => sFc_any z P N A z0 (by omega) (by omega) (by omega) pz (by omega) (by omega) W
      generalize fcV z P N A = v at *
      clear h1 h2
      go_enter Try.func10, Try.ntmps10
      go_wp2_with (first
        | (go_at_call 23; refine (V.out _ (by simp) (by simp) (by simp)).mono ?_; rintro e w1 ⟨rfl, hB⟩; have b1 := Lib.hid (B0.out.trans (Below.mono hB B0.out.size)); have m1 := Ab.block hB M0.out; have k1 := cell_of_block m1; have y1 := lt_of_block m1; clear hB)
        | (go_at_call 24; have _t := tok1; clear _t tok1; refine (K1.out _).mono ?_; rintro e w2 ⟨rfl, rfl⟩)
        | (go_at_call 24; refine (K2.out _).mono ?_; rintro e w2 ⟨rfl, rfl⟩)
        | (go_at_call 25; refine (F.out _).mono ?_; rintro e w3 ⟨rfl, hB⟩; have b3 := Lib.hid (b1.out.trans (Below.mono hB b1.out.size)); clear hB))
      all_goals go_returns
      all_goals exact ⟨rfl, b3.out⟩
    · have K2 := Lib.hid fun W => sInM_f h2 W
      rw [fcR_out z p (by unfold fcIn; omega)]
      clear h1 h2
      go_enter Try.func10, Try.ntmps10
      go_wp2_with (first
        | (go_at_call 23; refine (V.out _ (by simp) (by simp) (by simp)).mono ?_; rintro e w1 ⟨rfl, hB⟩; have b1 := Lib.hid (B0.out.trans (Below.mono hB B0.out.size)); clear hB)
        | (go_at_call 24; have _t := tok1; clear _t tok1; refine (K1.out _).mono ?_; rintro e w2 ⟨rfl, rfl⟩)
        | (go_at_call 24; refine (K2.out _).mono ?_; rintro e w2 ⟨rfl, rfl⟩))
      all_goals go_returns
      all_goals exact ⟨rfl, b1.out⟩
  · have K1 := Lib.hid fun W => sInM_f h1 W
    rw [fcR_out z p (by unfold fcIn; omega)]
    clear h1
    go_enter Try.func10, Try.ntmps10
    go_wp2_with (first
      | (go_at_call 23; refine (V.out _ (by simp) (by simp) (by simp)).mono ?_; rintro e w1 ⟨rfl, hB⟩; have b1 := Lib.hid (B0.out.trans (Below.mono hB B0.out.size)); clear hB)
      | (go_at_call 24; refine (K1.out _).mono ?_; rintro e w2 ⟨rfl, rfl⟩))
    all_goals go_returns
    all_goals exact ⟨rfl, b1.out⟩
end Go.Proofs.Ytdbkplfkilaoeab
