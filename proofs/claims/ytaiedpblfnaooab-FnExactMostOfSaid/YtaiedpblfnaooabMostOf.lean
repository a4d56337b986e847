/- Contracts: powers at the sizes of fields; the greatest value of a field, as the program says and as the model does. -/
import Derived.Test.YtaiedpblfnaooabHolesOf
namespace Go.Proofs.Ytaiedpblfnaooab
open Go.ChangeShapes Go.WideShapes Go.ChangeAt Go.RowKit

set_option maxHeartbeats 400000 in
theorem sPow_10_1 (w : World) : Calls Try.prog 120 #[.int .i64 10, .int .i64 1] w fun e w' => e = .returned (.int .i64 10) ∧ w = w' := by
  go_enter Try.func120, Try.ntmps120
  go_wp2
  go_rounds 2
  go_returns
  exact ⟨rfl, rfl⟩
set_option maxHeartbeats 400000 in
theorem iPow_10_1 (w : World) : Calls Try.prog 200 #[.int .i64 10, .int .i64 1] w fun e w' => e = .returned (.int .i64 10) ∧ w = w' := by
  go_enter Try.func200, Try.ntmps200
  go_wp2
  go_rounds 2
  go_returns
  exact ⟨rfl, rfl⟩
set_option maxHeartbeats 400000 in
theorem sPow_10_2 (w : World) : Calls Try.prog 120 #[.int .i64 10, .int .i64 2] w fun e w' => e = .returned (.int .i64 100) ∧ w = w' := by
  go_enter Try.func120, Try.ntmps120
  go_wp2
  go_rounds 3
  go_returns
  exact ⟨rfl, rfl⟩
set_option maxHeartbeats 400000 in
theorem iPow_10_2 (w : World) : Calls Try.prog 200 #[.int .i64 10, .int .i64 2] w fun e w' => e = .returned (.int .i64 100) ∧ w = w' := by
  go_enter Try.func200, Try.ntmps200
  go_wp2
  go_rounds 3
  go_returns
  exact ⟨rfl, rfl⟩
set_option maxHeartbeats 400000 in
theorem sPow_10_3 (w : World) : Calls Try.prog 120 #[.int .i64 10, .int .i64 3] w fun e w' => e = .returned (.int .i64 1000) ∧ w = w' := by
  go_enter Try.func120, Try.ntmps120
  go_wp2
  go_rounds 4
  go_returns
  exact ⟨rfl, rfl⟩
set_option maxHeartbeats 400000 in
theorem iPow_10_3 (w : World) : Calls Try.prog 200 #[.int .i64 10, .int .i64 3] w fun e w' => e = .returned (.int .i64 1000) ∧ w = w' := by
  go_enter Try.func200, Try.ntmps200
  go_wp2
  go_rounds 4
  go_returns
  exact ⟨rfl, rfl⟩
set_option maxHeartbeats 400000 in
theorem sPow_10_4 (w : World) : Calls Try.prog 120 #[.int .i64 10, .int .i64 4] w fun e w' => e = .returned (.int .i64 10000) ∧ w = w' := by
  go_enter Try.func120, Try.ntmps120
  go_wp2
  go_rounds 5
  go_returns
  exact ⟨rfl, rfl⟩
set_option maxHeartbeats 400000 in
theorem iPow_10_4 (w : World) : Calls Try.prog 200 #[.int .i64 10, .int .i64 4] w fun e w' => e = .returned (.int .i64 10000) ∧ w = w' := by
  go_enter Try.func200, Try.ntmps200
  go_wp2
  go_rounds 5
  go_returns
  exact ⟨rfl, rfl⟩
set_option maxHeartbeats 400000 in
theorem sPow_2_1 (w : World) : Calls Try.prog 120 #[.int .i64 2, .int .i64 1] w fun e w' => e = .returned (.int .i64 2) ∧ w = w' := by
  go_enter Try.func120, Try.ntmps120
  go_wp2
  go_rounds 2
  go_returns
  exact ⟨rfl, rfl⟩
set_option maxHeartbeats 400000 in
theorem iPow_2_1 (w : World) : Calls Try.prog 200 #[.int .i64 2, .int .i64 1] w fun e w' => e = .returned (.int .i64 2) ∧ w = w' := by
  go_enter Try.func200, Try.ntmps200
  go_wp2
  go_rounds 2
  go_returns
  exact ⟨rfl, rfl⟩
set_option maxHeartbeats 400000 in
theorem sPow_2_2 (w : World) : Calls Try.prog 120 #[.int .i64 2, .int .i64 2] w fun e w' => e = .returned (.int .i64 4) ∧ w = w' := by
  go_enter Try.func120, Try.ntmps120
  go_wp2
  go_rounds 3
  go_returns
  exact ⟨rfl, rfl⟩
set_option maxHeartbeats 400000 in
theorem iPow_2_2 (w : World) : Calls Try.prog 200 #[.int .i64 2, .int .i64 2] w fun e w' => e = .returned (.int .i64 4) ∧ w = w' := by
  go_enter Try.func200, Try.ntmps200
  go_wp2
  go_rounds 3
  go_returns
  exact ⟨rfl, rfl⟩
set_option maxHeartbeats 400000 in
theorem sPow_2_3 (w : World) : Calls Try.prog 120 #[.int .i64 2, .int .i64 3] w fun e w' => e = .returned (.int .i64 8) ∧ w = w' := by
  go_enter Try.func120, Try.ntmps120
  go_wp2
  go_rounds 4
  go_returns
  exact ⟨rfl, rfl⟩
set_option maxHeartbeats 400000 in
theorem iPow_2_3 (w : World) : Calls Try.prog 200 #[.int .i64 2, .int .i64 3] w fun e w' => e = .returned (.int .i64 8) ∧ w = w' := by
  go_enter Try.func200, Try.ntmps200
  go_wp2
  go_rounds 4
  go_returns
  exact ⟨rfl, rfl⟩
set_option maxHeartbeats 400000 in
theorem sPow_2_4 (w : World) : Calls Try.prog 120 #[.int .i64 2, .int .i64 4] w fun e w' => e = .returned (.int .i64 16) ∧ w = w' := by
  go_enter Try.func120, Try.ntmps120
  go_wp2
  go_rounds 5
  go_returns
  exact ⟨rfl, rfl⟩
set_option maxHeartbeats 400000 in
theorem iPow_2_4 (w : World) : Calls Try.prog 200 #[.int .i64 2, .int .i64 4] w fun e w' => e = .returned (.int .i64 16) ∧ w = w' := by
  go_enter Try.func200, Try.ntmps200
  go_wp2
  go_rounds 5
  go_returns
  exact ⟨rfl, rfl⟩
set_option maxHeartbeats 400000 in
theorem sPow_2_5 (w : World) : Calls Try.prog 120 #[.int .i64 2, .int .i64 5] w fun e w' => e = .returned (.int .i64 32) ∧ w = w' := by
  go_enter Try.func120, Try.ntmps120
  go_wp2
  go_rounds 6
  go_returns
  exact ⟨rfl, rfl⟩
set_option maxHeartbeats 400000 in
theorem iPow_2_5 (w : World) : Calls Try.prog 200 #[.int .i64 2, .int .i64 5] w fun e w' => e = .returned (.int .i64 32) ∧ w = w' := by
  go_enter Try.func200, Try.ntmps200
  go_wp2
  go_rounds 6
  go_returns
  exact ⟨rfl, rfl⟩
set_option maxHeartbeats 400000 in
theorem sPow_2_6 (w : World) : Calls Try.prog 120 #[.int .i64 2, .int .i64 6] w fun e w' => e = .returned (.int .i64 64) ∧ w = w' := by
  go_enter Try.func120, Try.ntmps120
  go_wp2
  go_rounds 7
  go_returns
  exact ⟨rfl, rfl⟩
set_option maxHeartbeats 400000 in
theorem iPow_2_6 (w : World) : Calls Try.prog 200 #[.int .i64 2, .int .i64 6] w fun e w' => e = .returned (.int .i64 64) ∧ w = w' := by
  go_enter Try.func200, Try.ntmps200
  go_wp2
  go_rounds 7
  go_returns
  exact ⟨rfl, rfl⟩
set_option maxHeartbeats 400000 in
theorem sPow_2_7 (w : World) : Calls Try.prog 120 #[.int .i64 2, .int .i64 7] w fun e w' => e = .returned (.int .i64 128) ∧ w = w' := by
  go_enter Try.func120, Try.ntmps120
  go_wp2
  go_rounds 8
  go_returns
  exact ⟨rfl, rfl⟩
set_option maxHeartbeats 400000 in
theorem iPow_2_7 (w : World) : Calls Try.prog 200 #[.int .i64 2, .int .i64 7] w fun e w' => e = .returned (.int .i64 128) ∧ w = w' := by
  go_enter Try.func200, Try.ntmps200
  go_wp2
  go_rounds 8
  go_returns
  exact ⟨rfl, rfl⟩
set_option maxHeartbeats 400000 in
theorem sPow_2_8 (w : World) : Calls Try.prog 120 #[.int .i64 2, .int .i64 8] w fun e w' => e = .returned (.int .i64 256) ∧ w = w' := by
  go_enter Try.func120, Try.ntmps120
  go_wp2
  go_rounds 9
  go_returns
  exact ⟨rfl, rfl⟩
set_option maxHeartbeats 400000 in
theorem iPow_2_8 (w : World) : Calls Try.prog 200 #[.int .i64 2, .int .i64 8] w fun e w' => e = .returned (.int .i64 256) ∧ w = w' := by
  go_enter Try.func200, Try.ntmps200
  go_wp2
  go_rounds 9
  go_returns
  exact ⟨rfl, rfl⟩
set_option maxHeartbeats 400000 in
theorem sPow_2_9 (w : World) : Calls Try.prog 120 #[.int .i64 2, .int .i64 9] w fun e w' => e = .returned (.int .i64 512) ∧ w = w' := by
  go_enter Try.func120, Try.ntmps120
  go_wp2
  go_rounds 10
  go_returns
  exact ⟨rfl, rfl⟩
set_option maxHeartbeats 400000 in
theorem iPow_2_9 (w : World) : Calls Try.prog 200 #[.int .i64 2, .int .i64 9] w fun e w' => e = .returned (.int .i64 512) ∧ w = w' := by
  go_enter Try.func200, Try.ntmps200
  go_wp2
  go_rounds 10
  go_returns
  exact ⟨rfl, rfl⟩
set_option maxHeartbeats 400000 in
theorem sPow_2_10 (w : World) : Calls Try.prog 120 #[.int .i64 2, .int .i64 10] w fun e w' => e = .returned (.int .i64 1024) ∧ w = w' := by
  go_enter Try.func120, Try.ntmps120
  go_wp2
  go_rounds 11
  go_returns
  exact ⟨rfl, rfl⟩
set_option maxHeartbeats 400000 in
theorem iPow_2_10 (w : World) : Calls Try.prog 200 #[.int .i64 2, .int .i64 10] w fun e w' => e = .returned (.int .i64 1024) ∧ w = w' := by
  go_enter Try.func200, Try.ntmps200
  go_wp2
  go_rounds 11
  go_returns
  exact ⟨rfl, rfl⟩
set_option maxHeartbeats 400000 in
theorem sPow_2_11 (w : World) : Calls Try.prog 120 #[.int .i64 2, .int .i64 11] w fun e w' => e = .returned (.int .i64 2048) ∧ w = w' := by
  go_enter Try.func120, Try.ntmps120
  go_wp2
  go_rounds 12
  go_returns
  exact ⟨rfl, rfl⟩
set_option maxHeartbeats 400000 in
theorem iPow_2_11 (w : World) : Calls Try.prog 200 #[.int .i64 2, .int .i64 11] w fun e w' => e = .returned (.int .i64 2048) ∧ w = w' := by
  go_enter Try.func200, Try.ntmps200
  go_wp2
  go_rounds 12
  go_returns
  exact ⟨rfl, rfl⟩
set_option maxHeartbeats 400000 in
theorem sPow_2_12 (w : World) : Calls Try.prog 120 #[.int .i64 2, .int .i64 12] w fun e w' => e = .returned (.int .i64 4096) ∧ w = w' := by
  go_enter Try.func120, Try.ntmps120
  go_wp2
  go_rounds 13
  go_returns
  exact ⟨rfl, rfl⟩
set_option maxHeartbeats 400000 in
theorem iPow_2_12 (w : World) : Calls Try.prog 200 #[.int .i64 2, .int .i64 12] w fun e w' => e = .returned (.int .i64 4096) ∧ w = w' := by
  go_enter Try.func200, Try.ntmps200
  go_wp2
  go_rounds 13
  go_returns
  exact ⟨rfl, rfl⟩

/-- The greatest value of a field, less one, by its kind and size. -/
def topZ (k sz : Int) : Int := if k = 0 then sz - 1 else if k = 3 then 2 ^ sz.toNat - 1 else 10 ^ sz.toNat - 1
def mostV (s : ByteArray) (k st sz : Int) : Int := if fieldOk s k st sz then topZ k sz else 0
theorem mostV_no {s : ByteArray} {k st sz : Int} (h : fieldOk s k st sz = false) : mostV s k st sz = 0 ∧ fC (fieldOk s k st sz) = 1 := by unfold mostV fC; rw [h]; exact ⟨rfl, rfl⟩
theorem mostV_yes {s : ByteArray} {k st sz : Int} (h : fieldOk s k st sz = true) : mostV s k st sz = topZ k sz ∧ fC (fieldOk s k st sz) = 0 := by unfold mostV fC; rw [h]; exact ⟨rfl, rfl⟩
theorem topZ_0 (sz : Int) : topZ 0 sz = sz - 1 := by unfold topZ; simp

theorem topZ_1_1 : topZ 1 1 = 9 := by decide
theorem topZ_1_2 : topZ 1 2 = 99 := by decide
theorem topZ_1_3 : topZ 1 3 = 999 := by decide
theorem topZ_1_4 : topZ 1 4 = 9999 := by decide
theorem topZ_2_1 : topZ 2 1 = 9 := by decide
theorem topZ_2_2 : topZ 2 2 = 99 := by decide
theorem topZ_2_3 : topZ 2 3 = 999 := by decide
theorem topZ_2_4 : topZ 2 4 = 9999 := by decide
theorem topZ_3_1 : topZ 3 1 = 1 := by decide
theorem topZ_3_2 : topZ 3 2 = 3 := by decide
theorem topZ_3_3 : topZ 3 3 = 7 := by decide
theorem topZ_3_4 : topZ 3 4 = 15 := by decide
theorem topZ_3_5 : topZ 3 5 = 31 := by decide
theorem topZ_3_6 : topZ 3 6 = 63 := by decide
theorem topZ_3_7 : topZ 3 7 = 127 := by decide
theorem topZ_3_8 : topZ 3 8 = 255 := by decide
theorem topZ_3_9 : topZ 3 9 = 511 := by decide
theorem topZ_3_10 : topZ 3 10 = 1023 := by decide
theorem topZ_3_11 : topZ 3 11 = 2047 := by decide
theorem topZ_3_12 : topZ 3 12 = 4095 := by decide
set_option maxHeartbeats 6400000 in
theorem sMostOf_any (s : ByteArray) (k st sz : Int) (hs : s.size ≤ maxLen) (hk : I8 k) (ht : I16 st) (hz : I16 sz) (w : World) :
    Calls Try.prog 16 #[.agg #[.string s, .int .i8 k, .int .i16 st, .int .i16 sz]] w fun e w' => e = .returned (.tuple #[.int .i64 (mostV s k st sz), .int .i64 (fC (fieldOk s k st sz))]) ∧ Below w.heap.size w w' := by
  have S := Lib.hid hs
  have K := Lib.hid hk
  have T := Lib.hid ht
  have Z := Lib.hid hz
  clear hs ht hz
  cases h : fieldOk s k st sz
  · have f := Lib.hid (mostV_no h)
    clear hk
    go_enter Try.func16, Try.ntmps16
    go_wp2_with (go_at_call 65; refine (sVF_any s k st sz S.out T.out Z.out w.heap.size 0 _ (by simp) (by simp) (by simp) (by simp)).mono ?_; rintro e w1 ⟨rfl, hB⟩; obtain ⟨hc, hf, hz⟩ := bcell hB)
    go_ret2
    exact ⟨ret_two _ _ f.out.1 (by have := f.out.2; rw [h] at this; exact this), (by repeat' (first | (with_reducible exact Below.refl _ _) | (with_reducible assumption) | (with_reducible refine below_drewN ?_ _) | (with_reducible refine Below.drew ?_) | (with_reducible refine below_new ?_ _) | (with_reducible refine below_next ?_ (by with_reducible assumption)) | (with_reducible refine Below.setCell ?_ ?_ _) | go_size))⟩
  · have f := Lib.hid (mostV_yes h)
    obtain ⟨_, k0, k3, t0, z0, zm, tw⟩ := field_inv h
    clear tw
    have hk' : k = 0 ∨ k = 1 ∨ k = 2 ∨ k = 3 := by omega
    clear hk
    rcases hk' with rfl | rfl | rfl | rfl
    · have zb : sz ≤ 24 := by rw [mostZ_0] at zm; omega
      have g := Lib.hid (topZ_0 sz)
      clear zm
      go_enter Try.func16, Try.ntmps16
      go_wp2_with (first | (go_at_call 65; refine (sVF_any s 0 st sz S.out T.out Z.out w.heap.size 0 _ (by simp) (by simp) (by simp) (by simp)).mono ?_; rintro e w1 ⟨rfl, hB⟩; obtain ⟨hc, hf, hz⟩ := bcell hB) | fail | go_in)
      go_ret2
      exact ⟨ret_two _ _ (f.out.1.trans g.out) (by have := f.out.2; rw [h] at this; exact this), (by repeat' (first | (with_reducible exact Below.refl _ _) | (with_reducible assumption) | (with_reducible refine below_drewN ?_ _) | (with_reducible refine Below.drew ?_) | (with_reducible refine below_new ?_ _) | (with_reducible refine below_next ?_ (by with_reducible assumption)) | (with_reducible refine Below.setCell ?_ ?_ _) | go_size))⟩
    · have zb : 1 ≤ sz ∧ sz ≤ 4 := by rw [mostZ_1] at zm; omega
      clear zm z0
      have hzz : sz = 1 ∨ sz = 2 ∨ sz = 3 ∨ sz = 4 := by omega
      clear zb
      rcases hzz with rfl | rfl | rfl | rfl
      · have g := Lib.hid topZ_1_1
        go_enter Try.func16, Try.ntmps16
        go_wp2_with (first | (go_at_call 65; refine (sVF_any s 1 st 1 S.out T.out Z.out w.heap.size 0 _ (by simp) (by simp) (by simp) (by simp)).mono ?_; rintro e w1 ⟨rfl, hB⟩; obtain ⟨hc, hf, hz⟩ := bcell hB) | (go_at_call 120; refine (sPow_10_1 _).mono ?_; rintro e w2 ⟨rfl, rfl⟩) | go_in)
        go_ret2
        exact ⟨ret_two _ _ (f.out.1.trans g.out) (by have := f.out.2; rw [h] at this; exact this), (by repeat' (first | (with_reducible exact Below.refl _ _) | (with_reducible assumption) | (with_reducible refine below_drewN ?_ _) | (with_reducible refine Below.drew ?_) | (with_reducible refine below_new ?_ _) | (with_reducible refine below_next ?_ (by with_reducible assumption)) | (with_reducible refine Below.setCell ?_ ?_ _) | go_size))⟩
      · have g := Lib.hid topZ_1_2
        go_enter Try.func16, Try.ntmps16
        go_wp2_with (first | (go_at_call 65; refine (sVF_any s 1 st 2 S.out T.out Z.out w.heap.size 0 _ (by simp) (by simp) (by simp) (by simp)).mono ?_; rintro e w1 ⟨rfl, hB⟩; obtain ⟨hc, hf, hz⟩ := bcell hB) | (go_at_call 120; refine (sPow_10_2 _).mono ?_; rintro e w2 ⟨rfl, rfl⟩) | go_in)
        go_ret2
        exact ⟨ret_two _ _ (f.out.1.trans g.out) (by have := f.out.2; rw [h] at this; exact this), (by repeat' (first | (with_reducible exact Below.refl _ _) | (with_reducible assumption) | (with_reducible refine below_drewN ?_ _) | (with_reducible refine Below.drew ?_) | (with_reducible refine below_new ?_ _) | (with_reducible refine below_next ?_ (by with_reducible assumption)) | (with_reducible refine Below.setCell ?_ ?_ _) | go_size))⟩
      · have g := Lib.hid topZ_1_3
        go_enter Try.func16, Try.ntmps16
        go_wp2_with (first | (go_at_call 65; refine (sVF_any s 1 st 3 S.out T.out Z.out w.heap.size 0 _ (by simp) (by simp) (by simp) (by simp)).mono ?_; rintro e w1 ⟨rfl, hB⟩; obtain ⟨hc, hf, hz⟩ := bcell hB) | (go_at_call 120; refine (sPow_10_3 _).mono ?_; rintro e w2 ⟨rfl, rfl⟩) | go_in)
        go_ret2
        exact ⟨ret_two _ _ (f.out.1.trans g.out) (by have := f.out.2; rw [h] at this; exact this), (by repeat' (first | (with_reducible exact Below.refl _ _) | (with_reducible assumption) | (with_reducible refine below_drewN ?_ _) | (with_reducible refine Below.drew ?_) | (with_reducible refine below_new ?_ _) | (with_reducible refine below_next ?_ (by with_reducible assumption)) | (with_reducible refine Below.setCell ?_ ?_ _) | go_size))⟩
      · have g := Lib.hid topZ_1_4
        go_enter Try.func16, Try.ntmps16
        go_wp2_with (first | (go_at_call 65; refine (sVF_any s 1 st 4 S.out T.out Z.out w.heap.size 0 _ (by simp) (by simp) (by simp) (by simp)).mono ?_; rintro e w1 ⟨rfl, hB⟩; obtain ⟨hc, hf, hz⟩ := bcell hB) | (go_at_call 120; refine (sPow_10_4 _).mono ?_; rintro e w2 ⟨rfl, rfl⟩) | go_in)
        go_ret2
        exact ⟨ret_two _ _ (f.out.1.trans g.out) (by have := f.out.2; rw [h] at this; exact this), (by repeat' (first | (with_reducible exact Below.refl _ _) | (with_reducible assumption) | (with_reducible refine below_drewN ?_ _) | (with_reducible refine Below.drew ?_) | (with_reducible refine below_new ?_ _) | (with_reducible refine below_next ?_ (by with_reducible assumption)) | (with_reducible refine Below.setCell ?_ ?_ _) | go_size))⟩
    · have zb : 1 ≤ sz ∧ sz ≤ 4 := by rw [mostZ_2] at zm; omega
      clear zm z0
      have hzz : sz = 1 ∨ sz = 2 ∨ sz = 3 ∨ sz = 4 := by omega
      clear zb
      rcases hzz with rfl | rfl | rfl | rfl
      · have g := Lib.hid topZ_2_1
        go_enter Try.func16, Try.ntmps16
        go_wp2_with (first | (go_at_call 65; refine (sVF_any s 2 st 1 S.out T.out Z.out w.heap.size 0 _ (by simp) (by simp) (by simp) (by simp)).mono ?_; rintro e w1 ⟨rfl, hB⟩; obtain ⟨hc, hf, hz⟩ := bcell hB) | (go_at_call 120; refine (sPow_10_1 _).mono ?_; rintro e w2 ⟨rfl, rfl⟩) | go_in)
        go_ret2
        exact ⟨ret_two _ _ (f.out.1.trans g.out) (by have := f.out.2; rw [h] at this; exact this), (by repeat' (first | (with_reducible exact Below.refl _ _) | (with_reducible assumption) | (with_reducible refine below_drewN ?_ _) | (with_reducible refine Below.drew ?_) | (with_reducible refine below_new ?_ _) | (with_reducible refine below_next ?_ (by with_reducible assumption)) | (with_reducible refine Below.setCell ?_ ?_ _) | go_size))⟩
      · have g := Lib.hid topZ_2_2
        go_enter Try.func16, Try.ntmps16
        go_wp2_with (first | (go_at_call 65; refine (sVF_any s 2 st 2 S.out T.out Z.out w.heap.size 0 _ (by simp) (by simp) (by simp) (by simp)).mono ?_; rintro e w1 ⟨rfl, hB⟩; obtain ⟨hc, hf, hz⟩ := bcell hB) | (go_at_call 120; refine (sPow_10_2 _).mono ?_; rintro e w2 ⟨rfl, rfl⟩) | go_in)
        go_ret2
        exact ⟨ret_two _ _ (f.out.1.trans g.out) (by have := f.out.2; rw [h] at this; exact this), (by repeat' (first | (with_reducible exact Below.refl _ _) | (with_reducible assumption) | (with_reducible refine below_drewN ?_ _) | (with_reducible refine Below.drew ?_) | (with_reducible refine below_new ?_ _) | (with_reducible refine below_next ?_ (by with_reducible assumption)) | (with_reducible refine Below.setCell ?_ ?_ _) | go_size))⟩
      · have g := Lib.hid topZ_2_3
        go_enter Try.func16, Try.ntmps16
        go_wp2_with (first | (go_at_call 65; refine (sVF_any s 2 st 3 S.out T.out Z.out w.heap.size 0 _ (by simp) (by simp) (by simp) (by simp)).mono ?_; rintro e w1 ⟨rfl, hB⟩; obtain ⟨hc, hf, hz⟩ := bcell hB) | (go_at_call 120; refine (sPow_10_3 _).mono ?_; rintro e w2 ⟨rfl, rfl⟩) | go_in)
        go_ret2
        exact ⟨ret_two _ _ (f.out.1.trans g.out) (by have := f.out.2; rw [h] at this; exact this), (by repeat' (first | (with_reducible exact Below.refl _ _) | (with_reducible assumption) | (with_reducible refine below_drewN ?_ _) | (with_reducible refine Below.drew ?_) | (with_reducible refine below_new ?_ _) | (with_reducible refine below_next ?_ (by with_reducible assumption)) | (with_reducible refine Below.setCell ?_ ?_ _) | go_size))⟩
      · have g := Lib.hid topZ_2_4
        go_enter Try.func16, Try.ntmps16
        go_wp2_with (first | (go_at_call 65; refine (sVF_any s 2 st 4 S.out T.out Z.out w.heap.size 0 _ (by simp) (by simp) (by simp) (by simp)).mono ?_; rintro e w1 ⟨rfl, hB⟩; obtain ⟨hc, hf, hz⟩ := bcell hB) | (go_at_call 120; refine (sPow_10_4 _).mono ?_; rintro e w2 ⟨rfl, rfl⟩) | go_in)
        go_ret2
        exact ⟨ret_two _ _ (f.out.1.trans g.out) (by have := f.out.2; rw [h] at this; exact this), (by repeat' (first | (with_reducible exact Below.refl _ _) | (with_reducible assumption) | (with_reducible refine below_drewN ?_ _) | (with_reducible refine Below.drew ?_) | (with_reducible refine below_new ?_ _) | (with_reducible refine below_next ?_ (by with_reducible assumption)) | (with_reducible refine Below.setCell ?_ ?_ _) | go_size))⟩
    · have zb : 1 ≤ sz ∧ sz ≤ 12 := by rw [mostZ_3] at zm; omega
      clear zm z0
      have hzz : sz = 1 ∨ sz = 2 ∨ sz = 3 ∨ sz = 4 ∨ sz = 5 ∨ sz = 6 ∨ sz = 7 ∨ sz = 8 ∨ sz = 9 ∨ sz = 10 ∨ sz = 11 ∨ sz = 12 := by omega
      clear zb
      rcases hzz with rfl | rfl | rfl | rfl | rfl | rfl | rfl | rfl | rfl | rfl | rfl | rfl
      · have g := Lib.hid topZ_3_1
        go_enter Try.func16, Try.ntmps16
        go_wp2_with (first | (go_at_call 65; refine (sVF_any s 3 st 1 S.out T.out Z.out w.heap.size 0 _ (by simp) (by simp) (by simp) (by simp)).mono ?_; rintro e w1 ⟨rfl, hB⟩; obtain ⟨hc, hf, hz⟩ := bcell hB) | (go_at_call 120; refine (sPow_2_1 _).mono ?_; rintro e w2 ⟨rfl, rfl⟩) | go_in)
        go_ret2
        exact ⟨ret_two _ _ (f.out.1.trans g.out) (by have := f.out.2; rw [h] at this; exact this), (by repeat' (first | (with_reducible exact Below.refl _ _) | (with_reducible assumption) | (with_reducible refine below_drewN ?_ _) | (with_reducible refine Below.drew ?_) | (with_reducible refine below_new ?_ _) | (with_reducible refine below_next ?_ (by with_reducible assumption)) | (with_reducible refine Below.setCell ?_ ?_ _) | go_size))⟩
      · have g := Lib.hid topZ_3_2
        go_enter Try.func16, Try.ntmps16
        go_wp2_with (first | (go_at_call 65; refine (sVF_any s 3 st 2 S.out T.out Z.out w.heap.size 0 _ (by simp) (by simp) (by simp) (by simp)).mono ?_; rintro e w1 ⟨rfl, hB⟩; obtain ⟨hc, hf, hz⟩ := bcell hB) | (go_at_call 120; refine (sPow_2_2 _).mono ?_; rintro e w2 ⟨rfl, rfl⟩) | go_in)
        go_ret2
        exact ⟨ret_two _ _ (f.out.1.trans g.out) (by have := f.out.2; rw [h] at this; exact this), (by repeat' (first | (with_reducible exact Below.refl _ _) | (with_reducible assumption) | (with_reducible refine below_drewN ?_ _) | (with_reducible refine Below.drew ?_) | (with_reducible refine below_new ?_ _) | (with_reducible refine below_next ?_ (by with_reducible assumption)) | (with_reducible refine Below.setCell ?_ ?_ _) | go_size))⟩
      · have g := Lib.hid topZ_3_3
        go_enter Try.func16, Try.ntmps16
        go_wp2_with (first | (go_at_call 65; refine (sVF_any s 3 st 3 S.out T.out Z.out w.heap.size 0 _ (by simp) (by simp) (by simp) (by simp)).mono ?_; rintro e w1 ⟨rfl, hB⟩; obtain ⟨hc, hf, hz⟩ := bcell hB) | (go_at_call 120; refine (sPow_2_3 _).mono ?_; rintro e w2 ⟨rfl, rfl⟩) | go_in)
        go_ret2
        exact ⟨ret_two _ _ (f.out.1.trans g.out) (by have := f.out.2; rw [h] at this; exact this), (by repeat' (first | (with_reducible exact Below.refl _ _) | (with_reducible assumption) | (with_reducible refine below_drewN ?_ _) | (with_reducible refine Below.drew ?_) | (with_reducible refine below_new ?_ _) | (with_reducible refine below_next ?_ (by with_reducible assumption)) | (with_reducible refine Below.setCell ?_ ?_ _) | go_size))⟩
      · have g := Lib.hid topZ_3_4
        go_enter Try.func16, Try.ntmps16
        go_wp2_with (first | (go_at_call 65; refine (sVF_any s 3 st 4 S.out T.out Z.out w.heap.size 0 _ (by simp) (by simp) (by simp) (by simp)).mono ?_; rintro e w1 ⟨rfl, hB⟩; obtain ⟨hc, hf, hz⟩ := bcell hB) | (go_at_call 120; refine (sPow_2_4 _).mono ?_; rintro e w2 ⟨rfl, rfl⟩) | go_in)
        go_ret2
        exact ⟨ret_two _ _ (f.out.1.trans g.out) (by have := f.out.2; rw [h] at this; exact this), (by repeat' (first | (with_reducible exact Below.refl _ _) | (with_reducible assumption) | (with_reducible refine below_drewN ?_ _) | (with_reducible refine Below.drew ?_) | (with_reducible refine below_new ?_ _) | (with_reducible refine below_next ?_ (by with_reducible assumption)) | (with_reducible refine Below.setCell ?_ ?_ _) | go_size))⟩
      · have g := Lib.hid topZ_3_5
        go_enter Try.func16, Try.ntmps16
        go_wp2_with (first | (go_at_call 65; refine (sVF_any s 3 st 5 S.out T.out Z.out w.heap.size 0 _ (by simp) (by simp) (by simp) (by simp)).mono ?_; rintro e w1 ⟨rfl, hB⟩; obtain ⟨hc, hf, hz⟩ := bcell hB) | (go_at_call 120; refine (sPow_2_5 _).mono ?_; rintro e w2 ⟨rfl, rfl⟩) | go_in)
        go_ret2
        exact ⟨ret_two _ _ (f.out.1.trans g.out) (by have := f.out.2; rw [h] at this; exact this), (by repeat' (first | (with_reducible exact Below.refl _ _) | (with_reducible assumption) | (with_reducible refine below_drewN ?_ _) | (with_reducible refine Below.drew ?_) | (with_reducible refine below_new ?_ _) | (with_reducible refine below_next ?_ (by with_reducible assumption)) | (with_reducible refine Below.setCell ?_ ?_ _) | go_size))⟩
      · have g := Lib.hid topZ_3_6
        go_enter Try.func16, Try.ntmps16
        go_wp2_with (first | (go_at_call 65; refine (sVF_any s 3 st 6 S.out T.out Z.out w.heap.size 0 _ (by simp) (by simp) (by simp) (by simp)).mono ?_; rintro e w1 ⟨rfl, hB⟩; obtain ⟨hc, hf, hz⟩ := bcell hB) | (go_at_call 120; refine (sPow_2_6 _).mono ?_; rintro e w2 ⟨rfl, rfl⟩) | go_in)
        go_ret2
        exact ⟨ret_two _ _ (f.out.1.trans g.out) (by have := f.out.2; rw [h] at this; exact this), (by repeat' (first | (with_reducible exact Below.refl _ _) | (with_reducible assumption) | (with_reducible refine below_drewN ?_ _) | (with_reducible refine Below.drew ?_) | (with_reducible refine below_new ?_ _) | (with_reducible refine below_next ?_ (by with_reducible assumption)) | (with_reducible refine Below.setCell ?_ ?_ _) | go_size))⟩
      · have g := Lib.hid topZ_3_7
        go_enter Try.func16, Try.ntmps16
        go_wp2_with (first | (go_at_call 65; refine (sVF_any s 3 st 7 S.out T.out Z.out w.heap.size 0 _ (by simp) (by simp) (by simp) (by simp)).mono ?_; rintro e w1 ⟨rfl, hB⟩; obtain ⟨hc, hf, hz⟩ := bcell hB) | (go_at_call 120; refine (sPow_2_7 _).mono ?_; rintro e w2 ⟨rfl, rfl⟩) | go_in)
        go_ret2
        exact ⟨ret_two _ _ (f.out.1.trans g.out) (by have := f.out.2; rw [h] at this; exact this), (by repeat' (first | (with_reducible exact Below.refl _ _) | (with_reducible assumption) | (with_reducible refine below_drewN ?_ _) | (with_reducible refine Below.drew ?_) | (with_reducible refine below_new ?_ _) | (with_reducible refine below_next ?_ (by with_reducible assumption)) | (with_reducible refine Below.setCell ?_ ?_ _) | go_size))⟩
      · have g := Lib.hid topZ_3_8
        go_enter Try.func16, Try.ntmps16
        go_wp2_with (first | (go_at_call 65; refine (sVF_any s 3 st 8 S.out T.out Z.out w.heap.size 0 _ (by simp) (by simp) (by simp) (by simp)).mono ?_; rintro e w1 ⟨rfl, hB⟩; obtain ⟨hc, hf, hz⟩ := bcell hB) | (go_at_call 120; refine (sPow_2_8 _).mono ?_; rintro e w2 ⟨rfl, rfl⟩) | go_in)
        go_ret2
        exact ⟨ret_two _ _ (f.out.1.trans g.out) (by have := f.out.2; rw [h] at this; exact this), (by repeat' (first | (with_reducible exact Below.refl _ _) | (with_reducible assumption) | (with_reducible refine below_drewN ?_ _) | (with_reducible refine Below.drew ?_) | (with_reducible refine below_new ?_ _) | (with_reducible refine below_next ?_ (by with_reducible assumption)) | (with_reducible refine Below.setCell ?_ ?_ _) | go_size))⟩
      · have g := Lib.hid topZ_3_9
        go_enter Try.func16, Try.ntmps16
        go_wp2_with (first | (go_at_call 65; refine (sVF_any s 3 st 9 S.out T.out Z.out w.heap.size 0 _ (by simp) (by simp) (by simp) (by simp)).mono ?_; rintro e w1 ⟨rfl, hB⟩; obtain ⟨hc, hf, hz⟩ := bcell hB) | (go_at_call 120; refine (sPow_2_9 _).mono ?_; rintro e w2 ⟨rfl, rfl⟩) | go_in)
        go_ret2
        exact ⟨ret_two _ _ (f.out.1.trans g.out) (by have := f.out.2; rw [h] at this; exact this), (by repeat' (first | (with_reducible exact Below.refl _ _) | (with_reducible assumption) | (with_reducible refine below_drewN ?_ _) | (with_reducible refine Below.drew ?_) | (with_reducible refine below_new ?_ _) | (with_reducible refine below_next ?_ (by with_reducible assumption)) | (with_reducible refine Below.setCell ?_ ?_ _) | go_size))⟩
      · have g := Lib.hid topZ_3_10
        go_enter Try.func16, Try.ntmps16
        go_wp2_with (first | (go_at_call 65; refine (sVF_any s 3 st 10 S.out T.out Z.out w.heap.size 0 _ (by simp) (by simp) (by simp) (by simp)).mono ?_; rintro e w1 ⟨rfl, hB⟩; obtain ⟨hc, hf, hz⟩ := bcell hB) | (go_at_call 120; refine (sPow_2_10 _).mono ?_; rintro e w2 ⟨rfl, rfl⟩) | go_in)
        go_ret2
        exact ⟨ret_two _ _ (f.out.1.trans g.out) (by have := f.out.2; rw [h] at this; exact this), (by repeat' (first | (with_reducible exact Below.refl _ _) | (with_reducible assumption) | (with_reducible refine below_drewN ?_ _) | (with_reducible refine Below.drew ?_) | (with_reducible refine below_new ?_ _) | (with_reducible refine below_next ?_ (by with_reducible assumption)) | (with_reducible refine Below.setCell ?_ ?_ _) | go_size))⟩
      · have g := Lib.hid topZ_3_11
        go_enter Try.func16, Try.ntmps16
        go_wp2_with (first | (go_at_call 65; refine (sVF_any s 3 st 11 S.out T.out Z.out w.heap.size 0 _ (by simp) (by simp) (by simp) (by simp)).mono ?_; rintro e w1 ⟨rfl, hB⟩; obtain ⟨hc, hf, hz⟩ := bcell hB) | (go_at_call 120; refine (sPow_2_11 _).mono ?_; rintro e w2 ⟨rfl, rfl⟩) | go_in)
        go_ret2
        exact ⟨ret_two _ _ (f.out.1.trans g.out) (by have := f.out.2; rw [h] at this; exact this), (by repeat' (first | (with_reducible exact Below.refl _ _) | (with_reducible assumption) | (with_reducible refine below_drewN ?_ _) | (with_reducible refine Below.drew ?_) | (with_reducible refine below_new ?_ _) | (with_reducible refine below_next ?_ (by with_reducible assumption)) | (with_reducible refine Below.setCell ?_ ?_ _) | go_size))⟩
      · have g := Lib.hid topZ_3_12
        go_enter Try.func16, Try.ntmps16
        go_wp2_with (first | (go_at_call 65; refine (sVF_any s 3 st 12 S.out T.out Z.out w.heap.size 0 _ (by simp) (by simp) (by simp) (by simp)).mono ?_; rintro e w1 ⟨rfl, hB⟩; obtain ⟨hc, hf, hz⟩ := bcell hB) | (go_at_call 120; refine (sPow_2_12 _).mono ?_; rintro e w2 ⟨rfl, rfl⟩) | go_in)
        go_ret2
        exact ⟨ret_two _ _ (f.out.1.trans g.out) (by have := f.out.2; rw [h] at this; exact this), (by repeat' (first | (with_reducible exact Below.refl _ _) | (with_reducible assumption) | (with_reducible refine below_drewN ?_ _) | (with_reducible refine Below.drew ?_) | (with_reducible refine below_new ?_ _) | (with_reducible refine below_next ?_ (by with_reducible assumption)) | (with_reducible refine Below.setCell ?_ ?_ _) | go_size))⟩

set_option maxHeartbeats 6400000 in
theorem iMostOf_any (s : ByteArray) (k st sz : Int) (hs : s.size ≤ maxLen) (hk : I8 k) (ht : I16 st) (hz : I16 sz) (w : World) :
    Calls Try.prog 18 #[.agg #[.string s, .int .i8 k, .int .i16 st, .int .i16 sz]] w fun e w' => e = .returned (.tuple #[.int .i64 (mostV s k st sz), .int .i64 (fC (fieldOk s k st sz))]) ∧ Below w.heap.size w w' := by
  have S := Lib.hid hs
  have K := Lib.hid hk
  have T := Lib.hid ht
  have Z := Lib.hid hz
  clear hs ht hz
  cases h : fieldOk s k st sz
  · have f := Lib.hid (mostV_no h)
    clear hk
    go_enter Try.func18, Try.ntmps18
    go_wp2_with (go_at_call 67; refine (iVF_any _ _ _ _ S.out K.out T.out Z.out _).mono ?_; rintro e w1 ⟨rfl, hB⟩; obtain ⟨hc, hf, hz⟩ := bcell hB)
    go_ret2
    exact ⟨ret_two _ _ f.out.1 (by have := f.out.2; rw [h] at this; exact this), (by repeat' (first | (with_reducible exact Below.refl _ _) | (with_reducible assumption) | (with_reducible refine below_drewN ?_ _) | (with_reducible refine Below.drew ?_) | (with_reducible refine below_new ?_ _) | (with_reducible refine below_next ?_ (by with_reducible assumption)) | (with_reducible refine Below.setCell ?_ ?_ _) | go_size))⟩
  · have f := Lib.hid (mostV_yes h)
    obtain ⟨_, k0, k3, t0, z0, zm, tw⟩ := field_inv h
    clear tw
    have hk' : k = 0 ∨ k = 1 ∨ k = 2 ∨ k = 3 := by omega
    clear hk
    rcases hk' with rfl | rfl | rfl | rfl
    · have zb : sz ≤ 24 := by rw [mostZ_0] at zm; omega
      have g := Lib.hid (topZ_0 sz)
      clear zm
      go_enter Try.func18, Try.ntmps18
      go_wp2_with (first | (go_at_call 67; refine (iVF_any _ _ _ _ S.out K.out T.out Z.out _).mono ?_; rintro e w1 ⟨rfl, hB⟩; obtain ⟨hc, hf, hz⟩ := bcell hB) | (go_at_call 68; refine (layout_0 _ _ _ z0 (by omega) _).mono ?_; rintro e w1 ⟨rfl, hB⟩; obtain ⟨hc, hf, hz⟩ := bcell hB) | go_in)
      go_ret2
      exact ⟨ret_two _ _ (f.out.1.trans g.out) (by have := f.out.2; rw [h] at this; exact this), (by repeat' (first | (with_reducible exact Below.refl _ _) | (with_reducible assumption) | (with_reducible refine below_drewN ?_ _) | (with_reducible refine Below.drew ?_) | (with_reducible refine below_new ?_ _) | (with_reducible refine below_next ?_ (by with_reducible assumption)) | (with_reducible refine Below.setCell ?_ ?_ _) | go_size))⟩
    · have zb : 1 ≤ sz ∧ sz ≤ 4 := by rw [mostZ_1] at zm; omega
      clear zm z0
      have hzz : sz = 1 ∨ sz = 2 ∨ sz = 3 ∨ sz = 4 := by omega
      clear zb
      rcases hzz with rfl | rfl | rfl | rfl
      · have g := Lib.hid topZ_1_1
        go_enter Try.func18, Try.ntmps18
        go_wp2_with (first | (go_at_call 67; refine (iVF_any _ _ _ _ S.out K.out T.out Z.out _).mono ?_; rintro e w1 ⟨rfl, hB⟩; obtain ⟨hc, hf, hz⟩ := bcell hB) | (go_at_call 68; refine (layout_1 _ _ _ (by omega) (by omega) _).mono ?_; rintro e w1 ⟨rfl, hB⟩; obtain ⟨hc, hf, hz⟩ := bcell hB) | (go_at_call 200; refine (iPow_10_1 _).mono ?_; rintro e w2 ⟨rfl, rfl⟩) | go_in)
        go_ret2
        exact ⟨ret_two _ _ (f.out.1.trans g.out) (by have := f.out.2; rw [h] at this; exact this), (by repeat' (first | (with_reducible exact Below.refl _ _) | (with_reducible assumption) | (with_reducible refine below_drewN ?_ _) | (with_reducible refine Below.drew ?_) | (with_reducible refine below_new ?_ _) | (with_reducible refine below_next ?_ (by with_reducible assumption)) | (with_reducible refine Below.setCell ?_ ?_ _) | go_size))⟩
      · have g := Lib.hid topZ_1_2
        go_enter Try.func18, Try.ntmps18
        go_wp2_with (first | (go_at_call 67; refine (iVF_any _ _ _ _ S.out K.out T.out Z.out _).mono ?_; rintro e w1 ⟨rfl, hB⟩; obtain ⟨hc, hf, hz⟩ := bcell hB) | (go_at_call 68; refine (layout_1 _ _ _ (by omega) (by omega) _).mono ?_; rintro e w1 ⟨rfl, hB⟩; obtain ⟨hc, hf, hz⟩ := bcell hB) | (go_at_call 200; refine (iPow_10_2 _).mono ?_; rintro e w2 ⟨rfl, rfl⟩) | go_in)
        go_ret2
        exact ⟨ret_two _ _ (f.out.1.trans g.out) (by have := f.out.2; rw [h] at this; exact this), (by repeat' (first | (with_reducible exact Below.refl _ _) | (with_reducible assumption) | (with_reducible refine below_drewN ?_ _) | (with_reducible refine Below.drew ?_) | (with_reducible refine below_new ?_ _) | (with_reducible refine below_next ?_ (by with_reducible assumption)) | (with_reducible refine Below.setCell ?_ ?_ _) | go_size))⟩
      · have g := Lib.hid topZ_1_3
        go_enter Try.func18, Try.ntmps18
        go_wp2_with (first | (go_at_call 67; refine (iVF_any _ _ _ _ S.out K.out T.out Z.out _).mono ?_; rintro e w1 ⟨rfl, hB⟩; obtain ⟨hc, hf, hz⟩ := bcell hB) | (go_at_call 68; refine (layout_1 _ _ _ (by omega) (by omega) _).mono ?_; rintro e w1 ⟨rfl, hB⟩; obtain ⟨hc, hf, hz⟩ := bcell hB) | (go_at_call 200; refine (iPow_10_3 _).mono ?_; rintro e w2 ⟨rfl, rfl⟩) | go_in)
        go_ret2
        exact ⟨ret_two _ _ (f.out.1.trans g.out) (by have := f.out.2; rw [h] at this; exact this), (by repeat' (first | (with_reducible exact Below.refl _ _) | (with_reducible assumption) | (with_reducible refine below_drewN ?_ _) | (with_reducible refine Below.drew ?_) | (with_reducible refine below_new ?_ _) | (with_reducible refine below_next ?_ (by with_reducible assumption)) | (with_reducible refine Below.setCell ?_ ?_ _) | go_size))⟩
      · have g := Lib.hid topZ_1_4
        go_enter Try.func18, Try.ntmps18
        go_wp2_with (first | (go_at_call 67; refine (iVF_any _ _ _ _ S.out K.out T.out Z.out _).mono ?_; rintro e w1 ⟨rfl, hB⟩; obtain ⟨hc, hf, hz⟩ := bcell hB) | (go_at_call 68; refine (layout_1 _ _ _ (by omega) (by omega) _).mono ?_; rintro e w1 ⟨rfl, hB⟩; obtain ⟨hc, hf, hz⟩ := bcell hB) | (go_at_call 200; refine (iPow_10_4 _).mono ?_; rintro e w2 ⟨rfl, rfl⟩) | go_in)
        go_ret2
        exact ⟨ret_two _ _ (f.out.1.trans g.out) (by have := f.out.2; rw [h] at this; exact this), (by repeat' (first | (with_reducible exact Below.refl _ _) | (with_reducible assumption) | (with_reducible refine below_drewN ?_ _) | (with_reducible refine Below.drew ?_) | (with_reducible refine below_new ?_ _) | (with_reducible refine below_next ?_ (by with_reducible assumption)) | (with_reducible refine Below.setCell ?_ ?_ _) | go_size))⟩
    · have zb : 1 ≤ sz ∧ sz ≤ 4 := by rw [mostZ_2] at zm; omega
      clear zm z0
      have hzz : sz = 1 ∨ sz = 2 ∨ sz = 3 ∨ sz = 4 := by omega
      clear zb
      rcases hzz with rfl | rfl | rfl | rfl
      · have g := Lib.hid topZ_2_1
        go_enter Try.func18, Try.ntmps18
        go_wp2_with (first | (go_at_call 67; refine (iVF_any _ _ _ _ S.out K.out T.out Z.out _).mono ?_; rintro e w1 ⟨rfl, hB⟩; obtain ⟨hc, hf, hz⟩ := bcell hB) | (go_at_call 68; refine (layout_2 _ _ _ (by omega) (by omega) _).mono ?_; rintro e w1 ⟨rfl, hB⟩; obtain ⟨hc, hf, hz⟩ := bcell hB) | (go_at_call 200; refine (iPow_10_1 _).mono ?_; rintro e w2 ⟨rfl, rfl⟩) | go_in)
        go_ret2
        exact ⟨ret_two _ _ (f.out.1.trans g.out) (by have := f.out.2; rw [h] at this; exact this), (by repeat' (first | (with_reducible exact Below.refl _ _) | (with_reducible assumption) | (with_reducible refine below_drewN ?_ _) | (with_reducible refine Below.drew ?_) | (with_reducible refine below_new ?_ _) | (with_reducible refine below_next ?_ (by with_reducible assumption)) | (with_reducible refine Below.setCell ?_ ?_ _) | go_size))⟩
      · have g := Lib.hid topZ_2_2
        go_enter Try.func18, Try.ntmps18
        go_wp2_with (first | (go_at_call 67; refine (iVF_any _ _ _ _ S.out K.out T.out Z.out _).mono ?_; rintro e w1 ⟨rfl, hB⟩; obtain ⟨hc, hf, hz⟩ := bcell hB) | (go_at_call 68; refine (layout_2 _ _ _ (by omega) (by omega) _).mono ?_; rintro e w1 ⟨rfl, hB⟩; obtain ⟨hc, hf, hz⟩ := bcell hB) | (go_at_call 200; refine (iPow_10_2 _).mono ?_; rintro e w2 ⟨rfl, rfl⟩) | go_in)
        go_ret2
        exact ⟨ret_two _ _ (f.out.1.trans g.out) (by have := f.out.2; rw [h] at this; exact this), (by repeat' (first | (with_reducible exact Below.refl _ _) | (with_reducible assumption) | (with_reducible refine below_drewN ?_ _) | (with_reducible refine Below.drew ?_) | (with_reducible refine below_new ?_ _) | (with_reducible refine below_next ?_ (by with_reducible assumption)) | (with_reducible refine Below.setCell ?_ ?_ _) | go_size))⟩
      · have g := Lib.hid topZ_2_3
        go_enter Try.func18, Try.ntmps18
        go_wp2_with (first | (go_at_call 67; refine (iVF_any _ _ _ _ S.out K.out T.out Z.out _).mono ?_; rintro e w1 ⟨rfl, hB⟩; obtain ⟨hc, hf, hz⟩ := bcell hB) | (go_at_call 68; refine (layout_2 _ _ _ (by omega) (by omega) _).mono ?_; rintro e w1 ⟨rfl, hB⟩; obtain ⟨hc, hf, hz⟩ := bcell hB) | (go_at_call 200; refine (iPow_10_3 _).mono ?_; rintro e w2 ⟨rfl, rfl⟩) | go_in)
        go_ret2
        exact ⟨ret_two _ _ (f.out.1.trans g.out) (by have := f.out.2; rw [h] at this; exact this), (by repeat' (first | (with_reducible exact Below.refl _ _) | (with_reducible assumption) | (with_reducible refine below_drewN ?_ _) | (with_reducible refine Below.drew ?_) | (with_reducible refine below_new ?_ _) | (with_reducible refine below_next ?_ (by with_reducible assumption)) | (with_reducible refine Below.setCell ?_ ?_ _) | go_size))⟩
      · have g := Lib.hid topZ_2_4
        go_enter Try.func18, Try.ntmps18
        go_wp2_with (first | (go_at_call 67; refine (iVF_any _ _ _ _ S.out K.out T.out Z.out _).mono ?_; rintro e w1 ⟨rfl, hB⟩; obtain ⟨hc, hf, hz⟩ := bcell hB) | (go_at_call 68; refine (layout_2 _ _ _ (by omega) (by omega) _).mono ?_; rintro e w1 ⟨rfl, hB⟩; obtain ⟨hc, hf, hz⟩ := bcell hB) | (go_at_call 200; refine (iPow_10_4 _).mono ?_; rintro e w2 ⟨rfl, rfl⟩) | go_in)
        go_ret2
        exact ⟨ret_two _ _ (f.out.1.trans g.out) (by have := f.out.2; rw [h] at this; exact this), (by repeat' (first | (with_reducible exact Below.refl _ _) | (with_reducible assumption) | (with_reducible refine below_drewN ?_ _) | (with_reducible refine Below.drew ?_) | (with_reducible refine below_new ?_ _) | (with_reducible refine below_next ?_ (by with_reducible assumption)) | (with_reducible refine Below.setCell ?_ ?_ _) | go_size))⟩
    · have zb : 1 ≤ sz ∧ sz ≤ 12 := by rw [mostZ_3] at zm; omega
      clear zm z0
      have hzz : sz = 1 ∨ sz = 2 ∨ sz = 3 ∨ sz = 4 ∨ sz = 5 ∨ sz = 6 ∨ sz = 7 ∨ sz = 8 ∨ sz = 9 ∨ sz = 10 ∨ sz = 11 ∨ sz = 12 := by omega
      clear zb
      rcases hzz with rfl | rfl | rfl | rfl | rfl | rfl | rfl | rfl | rfl | rfl | rfl | rfl
      · have g := Lib.hid topZ_3_1
        go_enter Try.func18, Try.ntmps18
        go_wp2_with (first | (go_at_call 67; refine (iVF_any _ _ _ _ S.out K.out T.out Z.out _).mono ?_; rintro e w1 ⟨rfl, hB⟩; obtain ⟨hc, hf, hz⟩ := bcell hB) | (go_at_call 68; refine (layout_3 _ _ _ (by omega) (by omega) _).mono ?_; rintro e w1 ⟨rfl, hB⟩; obtain ⟨hc, hf, hz⟩ := bcell hB) | (go_at_call 200; refine (iPow_2_1 _).mono ?_; rintro e w2 ⟨rfl, rfl⟩) | go_in)
        go_ret2
        exact ⟨ret_two _ _ (f.out.1.trans g.out) (by have := f.out.2; rw [h] at this; exact this), (by repeat' (first | (with_reducible exact Below.refl _ _) | (with_reducible assumption) | (with_reducible refine below_drewN ?_ _) | (with_reducible refine Below.drew ?_) | (with_reducible refine below_new ?_ _) | (with_reducible refine below_next ?_ (by with_reducible assumption)) | (with_reducible refine Below.setCell ?_ ?_ _) | go_size))⟩
      · have g := Lib.hid topZ_3_2
        go_enter Try.func18, Try.ntmps18
        go_wp2_with (first | (go_at_call 67; refine (iVF_any _ _ _ _ S.out K.out T.out Z.out _).mono ?_; rintro e w1 ⟨rfl, hB⟩; obtain ⟨hc, hf, hz⟩ := bcell hB) | (go_at_call 68; refine (layout_3 _ _ _ (by omega) (by omega) _).mono ?_; rintro e w1 ⟨rfl, hB⟩; obtain ⟨hc, hf, hz⟩ := bcell hB) | (go_at_call 200; refine (iPow_2_2 _).mono ?_; rintro e w2 ⟨rfl, rfl⟩) | go_in)
        go_ret2
        exact ⟨ret_two _ _ (f.out.1.trans g.out) (by have := f.out.2; rw [h] at this; exact this), (by repeat' (first | (with_reducible exact Below.refl _ _) | (with_reducible assumption) | (with_reducible refine below_drewN ?_ _) | (with_reducible refine Below.drew ?_) | (with_reducible refine below_new ?_ _) | (with_reducible refine below_next ?_ (by with_reducible assumption)) | (with_reducible refine Below.setCell ?_ ?_ _) | go_size))⟩
      · have g := Lib.hid topZ_3_3
        go_enter Try.func18, Try.ntmps18
        go_wp2_with (first | (go_at_call 67; refine (iVF_any _ _ _ _ S.out K.out T.out Z.out _).mono ?_; rintro e w1 ⟨rfl, hB⟩; obtain ⟨hc, hf, hz⟩ := bcell hB) | (go_at_call 68; refine (layout_3 _ _ _ (by omega) (by omega) _).mono ?_; rintro e w1 ⟨rfl, hB⟩; obtain ⟨hc, hf, hz⟩ := bcell hB) | (go_at_call 200; refine (iPow_2_3 _).mono ?_; rintro e w2 ⟨rfl, rfl⟩) | go_in)
        go_ret2
        exact ⟨ret_two _ _ (f.out.1.trans g.out) (by have := f.out.2; rw [h] at this; exact this), (by repeat' (first | (with_reducible exact Below.refl _ _) | (with_reducible assumption) | (with_reducible refine below_drewN ?_ _) | (with_reducible refine Below.drew ?_) | (with_reducible refine below_new ?_ _) | (with_reducible refine below_next ?_ (by with_reducible assumption)) | (with_reducible refine Below.setCell ?_ ?_ _) | go_size))⟩
      · have g := Lib.hid topZ_3_4
        go_enter Try.func18, Try.ntmps18
        go_wp2_with (first | (go_at_call 67; refine (iVF_any _ _ _ _ S.out K.out T.out Z.out _).mono ?_; rintro e w1 ⟨rfl, hB⟩; obtain ⟨hc, hf, hz⟩ := bcell hB) | (go_at_call 68; refine (layout_3 _ _ _ (by omega) (by omega) _).mono ?_; rintro e w1 ⟨rfl, hB⟩; obtain ⟨hc, hf, hz⟩ := bcell hB) | (go_at_call 200; refine (iPow_2_4 _).mono ?_; rintro e w2 ⟨rfl, rfl⟩) | go_in)
        go_ret2
        exact ⟨ret_two _ _ (f.out.1.trans g.out) (by have := f.out.2; rw [h] at this; exact this), (by repeat' (first | (with_reducible exact Below.refl _ _) | (with_reducible assumption) | (with_reducible refine below_drewN ?_ _) | (with_reducible refine Below.drew ?_) | (with_reducible refine below_new ?_ _) | (with_reducible refine below_next ?_ (by with_reducible assumption)) | (with_reducible refine Below.setCell ?_ ?_ _) | go_size))⟩
      · have g := Lib.hid topZ_3_5
        go_enter Try.func18, Try.ntmps18
        go_wp2_with (first | (go_at_call 67; refine (iVF_any _ _ _ _ S.out K.out T.out Z.out _).mono ?_; rintro e w1 ⟨rfl, hB⟩; obtain ⟨hc, hf, hz⟩ := bcell hB) | (go_at_call 68; refine (layout_3 _ _ _ (by omega) (by omega) _).mono ?_; rintro e w1 ⟨rfl, hB⟩; obtain ⟨hc, hf, hz⟩ := bcell hB) | (go_at_call 200; refine (iPow_2_5 _).mono ?_; rintro e w2 ⟨rfl, rfl⟩) | go_in)
        go_ret2
        exact ⟨ret_two _ _ (f.out.1.trans g.out) (by have := f.out.2; rw [h] at this; exact this), (by repeat' (first | (with_reducible exact Below.refl _ _) | (with_reducible assumption) | (with_reducible refine below_drewN ?_ _) | (with_reducible refine Below.drew ?_) | (with_reducible refine below_new ?_ _) | (with_reducible refine below_next ?_ (by with_reducible assumption)) | (with_reducible refine Below.setCell ?_ ?_ _) | go_size))⟩
      · have g := Lib.hid topZ_3_6
        go_enter Try.func18, Try.ntmps18
        go_wp2_with (first | (go_at_call 67; refine (iVF_any _ _ _ _ S.out K.out T.out Z.out _).mono ?_; rintro e w1 ⟨rfl, hB⟩; obtain ⟨hc, hf, hz⟩ := bcell hB) | (go_at_call 68; refine (layout_3 _ _ _ (by omega) (by omega) _).mono ?_; rintro e w1 ⟨rfl, hB⟩; obtain ⟨hc, hf, hz⟩ := bcell hB) | (go_at_call 200; refine (iPow_2_6 _).mono ?_; rintro e w2 ⟨rfl, rfl⟩) | go_in)
        go_ret2
        exact ⟨ret_two _ _ (f.out.1.trans g.out) (by have := f.out.2; rw [h] at this; exact this), (by repeat' (first | (with_reducible exact Below.refl _ _) | (with_reducible assumption) | (with_reducible refine below_drewN ?_ _) | (with_reducible refine Below.drew ?_) | (with_reducible refine below_new ?_ _) | (with_reducible refine below_next ?_ (by with_reducible assumption)) | (with_reducible refine Below.setCell ?_ ?_ _) | go_size))⟩
      · have g := Lib.hid topZ_3_7
        go_enter Try.func18, Try.ntmps18
        go_wp2_with (first | (go_at_call 67; refine (iVF_any _ _ _ _ S.out K.out T.out Z.out _).mono ?_; rintro e w1 ⟨rfl, hB⟩; obtain ⟨hc, hf, hz⟩ := bcell hB) | (go_at_call 68; refine (layout_3 _ _ _ (by omega) (by omega) _).mono ?_; rintro e w1 ⟨rfl, hB⟩; obtain ⟨hc, hf, hz⟩ := bcell hB) | (go_at_call 200; refine (iPow_2_7 _).mono ?_; rintro e w2 ⟨rfl, rfl⟩) | go_in)
        go_ret2
        exact ⟨ret_two _ _ (f.out.1.trans g.out) (by have := f.out.2; rw [h] at this; exact this), (by repeat' (first | (with_reducible exact Below.refl _ _) | (with_reducible assumption) | (with_reducible refine below_drewN ?_ _) | (with_reducible refine Below.drew ?_) | (with_reducible refine below_new ?_ _) | (with_reducible refine below_next ?_ (by with_reducible assumption)) | (with_reducible refine Below.setCell ?_ ?_ _) | go_size))⟩
      · have g := Lib.hid topZ_3_8
        go_enter Try.func18, Try.ntmps18
        go_wp2_with (first | (go_at_call 67; refine (iVF_any _ _ _ _ S.out K.out T.out Z.out _).mono ?_; rintro e w1 ⟨rfl, hB⟩; obtain ⟨hc, hf, hz⟩ := bcell hB) | (go_at_call 68; refine (layout_3 _ _ _ (by omega) (by omega) _).mono ?_; rintro e w1 ⟨rfl, hB⟩; obtain ⟨hc, hf, hz⟩ := bcell hB) | (go_at_call 200; refine (iPow_2_8 _).mono ?_; rintro e w2 ⟨rfl, rfl⟩) | go_in)
        go_ret2
        exact ⟨ret_two _ _ (f.out.1.trans g.out) (by have := f.out.2; rw [h] at this; exact this), (by repeat' (first | (with_reducible exact Below.refl _ _) | (with_reducible assumption) | (with_reducible refine below_drewN ?_ _) | (with_reducible refine Below.drew ?_) | (with_reducible refine below_new ?_ _) | (with_reducible refine below_next ?_ (by with_reducible assumption)) | (with_reducible refine Below.setCell ?_ ?_ _) | go_size))⟩
      · have g := Lib.hid topZ_3_9
        go_enter Try.func18, Try.ntmps18
        go_wp2_with (first | (go_at_call 67; refine (iVF_any _ _ _ _ S.out K.out T.out Z.out _).mono ?_; rintro e w1 ⟨rfl, hB⟩; obtain ⟨hc, hf, hz⟩ := bcell hB) | (go_at_call 68; refine (layout_3 _ _ _ (by omega) (by omega) _).mono ?_; rintro e w1 ⟨rfl, hB⟩; obtain ⟨hc, hf, hz⟩ := bcell hB) | (go_at_call 200; refine (iPow_2_9 _).mono ?_; rintro e w2 ⟨rfl, rfl⟩) | go_in)
        go_ret2
        exact ⟨ret_two _ _ (f.out.1.trans g.out) (by have := f.out.2; rw [h] at this; exact this), (by repeat' (first | (with_reducible exact Below.refl _ _) | (with_reducible assumption) | (with_reducible refine below_drewN ?_ _) | (with_reducible refine Below.drew ?_) | (with_reducible refine below_new ?_ _) | (with_reducible refine below_next ?_ (by with_reducible assumption)) | (with_reducible refine Below.setCell ?_ ?_ _) | go_size))⟩
      · have g := Lib.hid topZ_3_10
        go_enter Try.func18, Try.ntmps18
        go_wp2_with (first | (go_at_call 67; refine (iVF_any _ _ _ _ S.out K.out T.out Z.out _).mono ?_; rintro e w1 ⟨rfl, hB⟩; obtain ⟨hc, hf, hz⟩ := bcell hB) | (go_at_call 68; refine (layout_3 _ _ _ (by omega) (by omega) _).mono ?_; rintro e w1 ⟨rfl, hB⟩; obtain ⟨hc, hf, hz⟩ := bcell hB) | (go_at_call 200; refine (iPow_2_10 _).mono ?_; rintro e w2 ⟨rfl, rfl⟩) | go_in)
        go_ret2
        exact ⟨ret_two _ _ (f.out.1.trans g.out) (by have := f.out.2; rw [h] at this; exact this), (by repeat' (first | (with_reducible exact Below.refl _ _) | (with_reducible assumption) | (with_reducible refine below_drewN ?_ _) | (with_reducible refine Below.drew ?_) | (with_reducible refine below_new ?_ _) | (with_reducible refine below_next ?_ (by with_reducible assumption)) | (with_reducible refine Below.setCell ?_ ?_ _) | go_size))⟩
      · have g := Lib.hid topZ_3_11
        go_enter Try.func18, Try.ntmps18
        go_wp2_with (first | (go_at_call 67; refine (iVF_any _ _ _ _ S.out K.out T.out Z.out _).mono ?_; rintro e w1 ⟨rfl, hB⟩; obtain ⟨hc, hf, hz⟩ := bcell hB) | (go_at_call 68; refine (layout_3 _ _ _ (by omega) (by omega) _).mono ?_; rintro e w1 ⟨rfl, hB⟩; obtain ⟨hc, hf, hz⟩ := bcell hB) | (go_at_call 200; refine (iPow_2_11 _).mono ?_; rintro e w2 ⟨rfl, rfl⟩) | go_in)
        go_ret2
        exact ⟨ret_two _ _ (f.out.1.trans g.out) (by have := f.out.2; rw [h] at this; exact this), (by repeat' (first | (with_reducible exact Below.refl _ _) | (with_reducible assumption) | (with_reducible refine below_drewN ?_ _) | (with_reducible refine Below.drew ?_) | (with_reducible refine below_new ?_ _) | (with_reducible refine below_next ?_ (by with_reducible assumption)) | (with_reducible refine Below.setCell ?_ ?_ _) | go_size))⟩
      · have g := Lib.hid topZ_3_12
        go_enter Try.func18, Try.ntmps18
        go_wp2_with (first | (go_at_call 67; refine (iVF_any _ _ _ _ S.out K.out T.out Z.out _).mono ?_; rintro e w1 ⟨rfl, hB⟩; obtain ⟨hc, hf, hz⟩ := bcell hB) | (go_at_call 68; refine (layout_3 _ _ _ (by omega) (by omega) _).mono ?_; rintro e w1 ⟨rfl, hB⟩; obtain ⟨hc, hf, hz⟩ := bcell hB) | (go_at_call 200; refine (iPow_2_12 _).mono ?_; rintro e w2 ⟨rfl, rfl⟩) | go_in)
        go_ret2
        exact ⟨ret_two _ _ (f.out.1.trans g.out) (by have := f.out.2; rw [h] at this; exact this), (by repeat' (first | (with_reducible exact Below.refl _ _) | (with_reducible assumption) | (with_reducible refine below_drewN ?_ _) | (with_reducible refine Below.drew ?_) | (with_reducible refine below_new ?_ _) | (with_reducible refine below_next ?_ (by with_reducible assumption)) | (with_reducible refine Below.setCell ?_ ?_ _) | go_size))⟩

end Go.Proofs.Ytaiedpblfnaooab