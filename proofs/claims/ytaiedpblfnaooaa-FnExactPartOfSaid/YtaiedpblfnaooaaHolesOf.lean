/- Contracts: how many holes a field has, as the program says and as the model does. -/
import Derived.Test.YtaiedpblfnaooaaVFi
import Derived.Test.YtaiedpblfnaooaaVFs
namespace Go.Proofs.Ytaiedpblfnaooaa
open Go.ChangeShapes Go.WideShapes Go.ChangeAt Go.RowKit

def fC (b : Bool) : Int := if b then 0 else 1
def holV (s : ByteArray) (k st sz : Int) : Int := if fieldOk s k st sz then widthZ k sz else 0
theorem field_inv {s : ByteArray} {k st sz : Int} (h : fieldOk s k st sz = true) : nameOk s = true ∧ 0 ≤ k ∧ k ≤ 3 ∧ 0 ≤ st ∧ 1 ≤ sz ∧ sz ≤ mostZ k ∧ st + widthZ k sz ≤ 96 := by
  unfold fieldOk at h
  rw [Bool.and_eq_true] at h
  exact ⟨h.1, of_decide_eq_true h.2⟩
theorem ret_two (x c : Int) {y d : Int} (hx : y = x) (hc : d = c) : Ending.returned (.tuple #[.int .i64 x, .int .i64 c]) = Ending.returned (.tuple #[.int .i64 y, .int .i64 d]) := by rw [hx, hc]
theorem holV_no {s : ByteArray} {k st sz : Int} (h : fieldOk s k st sz = false) : holV s k st sz = 0 ∧ fC (fieldOk s k st sz) = 1 := by unfold holV fC; rw [h]; exact ⟨rfl, rfl⟩
theorem holV_yes {s : ByteArray} {k st sz : Int} (h : fieldOk s k st sz = true) : holV s k st sz = widthZ k sz ∧ fC (fieldOk s k st sz) = 0 := by unfold holV fC; rw [h]; exact ⟨rfl, rfl⟩

set_option maxHeartbeats 3200000 in
theorem sHolesOf_any (s : ByteArray) (k st sz : Int) (hs : s.size ≤ maxLen) (hk : I8 k) (ht : I16 st) (hz : I16 sz) (w : World) :
    Calls Try.prog 51 #[.agg #[.string s, .int .i8 k, .int .i16 st, .int .i16 sz]] w fun e w' => e = .returned (.tuple #[.int .i64 (holV s k st sz), .int .i64 (fC (fieldOk s k st sz))]) ∧ Below w.heap.size w w' := by
  have S := Lib.hid hs
  have K := Lib.hid hk
  have T := Lib.hid ht
  have Z := Lib.hid hz
  clear hs ht hz
  cases h : fieldOk s k st sz
  · have f := Lib.hid (holV_no h)
    clear hk
    go_enter Try.func51, Try.ntmps51
    go_wp2_with (go_at_call 89; refine (sVF_any s k st sz S.out T.out Z.out w.heap.size 0 _ (by simp) (by simp) (by simp) (by simp)).mono ?_; rintro e w1 ⟨rfl, hB⟩; obtain ⟨hc, hf, hz⟩ := bcell hB)
    go_ret2
    exact ⟨ret_two _ _ f.out.1 (by have := f.out.2; rw [h] at this; exact this), (by repeat' (first | (with_reducible exact Below.refl _ _) | (with_reducible assumption) | (with_reducible refine below_drewN ?_ _) | (with_reducible refine Below.drew ?_) | (with_reducible refine below_new ?_ _) | (with_reducible refine below_next ?_ (by with_reducible assumption)) | (with_reducible refine Below.setCell ?_ ?_ _) | go_size))⟩
  · have f := Lib.hid (holV_yes h)
    obtain ⟨_, k0, k3, t0, z0, zm, tw⟩ := field_inv h
    have zb : sz ≤ 24 := by unfold mostZ at zm; split at zm <;> (try split at zm) <;> omega
    clear zm tw
    have hk' : k = 0 ∨ k = 1 ∨ k = 2 ∨ k = 3 := by omega
    clear hk
    rcases hk' with rfl | rfl | rfl | rfl
    · have g := Lib.hid (widthZ_0 sz)
      go_enter Try.func51, Try.ntmps51
      go_wp2_with (first | (go_at_call 89; refine (sVF_any s 0 st sz S.out T.out Z.out w.heap.size 0 _ (by simp) (by simp) (by simp) (by simp)).mono ?_; rintro e w1 ⟨rfl, hB⟩; obtain ⟨hc, hf, hz⟩ := bcell hB) | (go_at_call 92; refine (sWidth_0 sz (by omega) (by omega) w.heap.size 0 _ (by simp [hc]) (by simp [hc])).mono ?_; rintro e w2 ⟨rfl, rfl⟩))
      go_ret2
      exact ⟨ret_two _ _ (f.out.1.trans g.out) (by have := f.out.2; rw [h] at this; exact this), (by repeat' (first | (with_reducible exact Below.refl _ _) | (with_reducible assumption) | (with_reducible refine below_drewN ?_ _) | (with_reducible refine Below.drew ?_) | (with_reducible refine below_new ?_ _) | (with_reducible refine below_next ?_ (by with_reducible assumption)) | (with_reducible refine Below.setCell ?_ ?_ _) | go_size))⟩
    · have g := Lib.hid (widthZ_1 sz)
      go_enter Try.func51, Try.ntmps51
      go_wp2_with (first | (go_at_call 89; refine (sVF_any s 1 st sz S.out T.out Z.out w.heap.size 0 _ (by simp) (by simp) (by simp) (by simp)).mono ?_; rintro e w1 ⟨rfl, hB⟩; obtain ⟨hc, hf, hz⟩ := bcell hB) | (go_at_call 92; refine (sWidth_1 sz (by omega) (by omega) w.heap.size 0 _ (by simp [hc]) (by simp [hc])).mono ?_; rintro e w2 ⟨rfl, rfl⟩))
      go_ret2
      exact ⟨ret_two _ _ (f.out.1.trans g.out) (by have := f.out.2; rw [h] at this; exact this), (by repeat' (first | (with_reducible exact Below.refl _ _) | (with_reducible assumption) | (with_reducible refine below_drewN ?_ _) | (with_reducible refine Below.drew ?_) | (with_reducible refine below_new ?_ _) | (with_reducible refine below_next ?_ (by with_reducible assumption)) | (with_reducible refine Below.setCell ?_ ?_ _) | go_size))⟩
    · have g := Lib.hid (widthZ_2 sz)
      go_enter Try.func51, Try.ntmps51
      go_wp2_with (first | (go_at_call 89; refine (sVF_any s 2 st sz S.out T.out Z.out w.heap.size 0 _ (by simp) (by simp) (by simp) (by simp)).mono ?_; rintro e w1 ⟨rfl, hB⟩; obtain ⟨hc, hf, hz⟩ := bcell hB) | (go_at_call 92; refine (sWidth_2 sz (by omega) (by omega) w.heap.size 0 _ (by simp [hc]) (by simp [hc])).mono ?_; rintro e w2 ⟨rfl, rfl⟩))
      go_ret2
      exact ⟨ret_two _ _ (f.out.1.trans g.out) (by have := f.out.2; rw [h] at this; exact this), (by repeat' (first | (with_reducible exact Below.refl _ _) | (with_reducible assumption) | (with_reducible refine below_drewN ?_ _) | (with_reducible refine Below.drew ?_) | (with_reducible refine below_new ?_ _) | (with_reducible refine below_next ?_ (by with_reducible assumption)) | (with_reducible refine Below.setCell ?_ ?_ _) | go_size))⟩
    · have g := Lib.hid (widthZ_3 sz)
      go_enter Try.func51, Try.ntmps51
      go_wp2_with (first | (go_at_call 89; refine (sVF_any s 3 st sz S.out T.out Z.out w.heap.size 0 _ (by simp) (by simp) (by simp) (by simp)).mono ?_; rintro e w1 ⟨rfl, hB⟩; obtain ⟨hc, hf, hz⟩ := bcell hB) | (go_at_call 92; refine (sWidth_3 sz (by omega) (by omega) w.heap.size 0 _ (by simp [hc]) (by simp [hc])).mono ?_; rintro e w2 ⟨rfl, rfl⟩))
      go_ret2
      exact ⟨ret_two _ _ (f.out.1.trans g.out) (by have := f.out.2; rw [h] at this; exact this), (by repeat' (first | (with_reducible exact Below.refl _ _) | (with_reducible assumption) | (with_reducible refine below_drewN ?_ _) | (with_reducible refine Below.drew ?_) | (with_reducible refine below_new ?_ _) | (with_reducible refine below_next ?_ (by with_reducible assumption)) | (with_reducible refine Below.setCell ?_ ?_ _) | go_size))⟩

set_option maxHeartbeats 3200000 in
theorem iHolesOf_any (s : ByteArray) (k st sz : Int) (hs : s.size ≤ maxLen) (hk : I8 k) (ht : I16 st) (hz : I16 sz) (w : World) :
    Calls Try.prog 52 #[.agg #[.string s, .int .i8 k, .int .i16 st, .int .i16 sz]] w fun e w' => e = .returned (.tuple #[.int .i64 (holV s k st sz), .int .i64 (fC (fieldOk s k st sz))]) ∧ Below w.heap.size w w' := by
  have S := Lib.hid hs
  have K := Lib.hid hk
  have T := Lib.hid ht
  have Z := Lib.hid hz
  clear hs ht hz
  cases h : fieldOk s k st sz
  · have f := Lib.hid (holV_no h)
    clear hk
    go_enter Try.func52, Try.ntmps52
    go_wp2_with (go_at_call 50; refine (iVF_any _ _ _ _ S.out K.out T.out Z.out _).mono ?_; rintro e w1 ⟨rfl, hB⟩; obtain ⟨hc, hf, hz⟩ := bcell hB)
    go_ret2
    exact ⟨ret_two _ _ f.out.1 (by have := f.out.2; rw [h] at this; exact this), (by repeat' (first | (with_reducible exact Below.refl _ _) | (with_reducible assumption) | (with_reducible refine below_drewN ?_ _) | (with_reducible refine Below.drew ?_) | (with_reducible refine below_new ?_ _) | (with_reducible refine below_next ?_ (by with_reducible assumption)) | (with_reducible refine Below.setCell ?_ ?_ _) | go_size))⟩
  · have f := Lib.hid (holV_yes h)
    obtain ⟨_, k0, k3, t0, z0, zm, tw⟩ := field_inv h
    have zb : sz ≤ 24 := by unfold mostZ at zm; split at zm <;> (try split at zm) <;> omega
    clear zm tw
    have hk' : k = 0 ∨ k = 1 ∨ k = 2 ∨ k = 3 := by omega
    clear hk
    rcases hk' with rfl | rfl | rfl | rfl
    · have g := Lib.hid (widthZ_0 sz)
      go_enter Try.func52, Try.ntmps52
      go_wp2_with (first | (go_at_call 50; refine (iVF_any _ _ _ _ S.out K.out T.out Z.out _).mono ?_; rintro e w1 ⟨rfl, hB⟩; obtain ⟨hc, hf, hz⟩ := bcell hB) | (go_at_call 90; refine (layout_0 _ _ _ z0 (by omega) _).mono ?_; rintro e w1 ⟨rfl, hB⟩; obtain ⟨hc, hf, hz⟩ := bcell hB) | (go_at_call 151; refine (holes_0 _ z0 (by omega) _).mono ?_; rintro e w2 ⟨rfl, rfl⟩))
      go_ret2
      exact ⟨ret_two _ _ (f.out.1.trans g.out) (by have := f.out.2; rw [h] at this; exact this), (by repeat' (first | (with_reducible exact Below.refl _ _) | (with_reducible assumption) | (with_reducible refine below_drewN ?_ _) | (with_reducible refine Below.drew ?_) | (with_reducible refine below_new ?_ _) | (with_reducible refine below_next ?_ (by with_reducible assumption)) | (with_reducible refine Below.setCell ?_ ?_ _) | go_size))⟩
    · have g := Lib.hid (widthZ_1 sz)
      go_enter Try.func52, Try.ntmps52
      go_wp2_with (first | (go_at_call 50; refine (iVF_any _ _ _ _ S.out K.out T.out Z.out _).mono ?_; rintro e w1 ⟨rfl, hB⟩; obtain ⟨hc, hf, hz⟩ := bcell hB) | (go_at_call 90; refine (layout_1 _ _ _ z0 (by omega) _).mono ?_; rintro e w1 ⟨rfl, hB⟩; obtain ⟨hc, hf, hz⟩ := bcell hB) | (go_at_call 159; refine (holes_1 _ z0 (by omega) _).mono ?_; rintro e w2 ⟨rfl, rfl⟩))
      go_ret2
      exact ⟨ret_two _ _ (f.out.1.trans g.out) (by have := f.out.2; rw [h] at this; exact this), (by repeat' (first | (with_reducible exact Below.refl _ _) | (with_reducible assumption) | (with_reducible refine below_drewN ?_ _) | (with_reducible refine Below.drew ?_) | (with_reducible refine below_new ?_ _) | (with_reducible refine below_next ?_ (by with_reducible assumption)) | (with_reducible refine Below.setCell ?_ ?_ _) | go_size))⟩
    · have g := Lib.hid (widthZ_2 sz)
      go_enter Try.func52, Try.ntmps52
      go_wp2_with (first | (go_at_call 50; refine (iVF_any _ _ _ _ S.out K.out T.out Z.out _).mono ?_; rintro e w1 ⟨rfl, hB⟩; obtain ⟨hc, hf, hz⟩ := bcell hB) | (go_at_call 90; refine (layout_2 _ _ _ z0 (by omega) _).mono ?_; rintro e w1 ⟨rfl, hB⟩; obtain ⟨hc, hf, hz⟩ := bcell hB) | (go_at_call 163; refine (holes_2 _ z0 (by omega) _).mono ?_; rintro e w2 ⟨rfl, rfl⟩))
      go_ret2
      exact ⟨ret_two _ _ (f.out.1.trans g.out) (by have := f.out.2; rw [h] at this; exact this), (by repeat' (first | (with_reducible exact Below.refl _ _) | (with_reducible assumption) | (with_reducible refine below_drewN ?_ _) | (with_reducible refine Below.drew ?_) | (with_reducible refine below_new ?_ _) | (with_reducible refine below_next ?_ (by with_reducible assumption)) | (with_reducible refine Below.setCell ?_ ?_ _) | go_size))⟩
    · have g := Lib.hid (widthZ_3 sz)
      go_enter Try.func52, Try.ntmps52
      go_wp2_with (first | (go_at_call 50; refine (iVF_any _ _ _ _ S.out K.out T.out Z.out _).mono ?_; rintro e w1 ⟨rfl, hB⟩; obtain ⟨hc, hf, hz⟩ := bcell hB) | (go_at_call 90; refine (layout_3 _ _ _ z0 (by omega) _).mono ?_; rintro e w1 ⟨rfl, hB⟩; obtain ⟨hc, hf, hz⟩ := bcell hB) | (go_at_call 155; refine (holes_3 _ z0 (by omega) _).mono ?_; rintro e w2 ⟨rfl, rfl⟩))
      go_ret2
      exact ⟨ret_two _ _ (f.out.1.trans g.out) (by have := f.out.2; rw [h] at this; exact this), (by repeat' (first | (with_reducible exact Below.refl _ _) | (with_reducible assumption) | (with_reducible refine below_drewN ?_ _) | (with_reducible refine Below.drew ?_) | (with_reducible refine below_new ?_ _) | (with_reducible refine below_next ?_ (by with_reducible assumption)) | (with_reducible refine Below.setCell ?_ ?_ _) | go_size))⟩

end Go.Proofs.Ytaiedpblfnaooaa