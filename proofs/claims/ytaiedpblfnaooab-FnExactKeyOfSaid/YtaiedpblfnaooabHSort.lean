/- Contracts: HolesToSort, the program's and the model's. -/
import Derived.Test.YtaiedpblfnaooabISort
import Derived.Test.YtaiedpblfnaooabHolesIn
import Derived.Test.YtaiedpblfnaooabHolesOf
namespace Go.Proofs.Ytaiedpblfnaooab
open Go.ChangeShapes Go.WideShapes Go.ChangeAt Go.RowKit

theorem fld_ok {s : ByteArray} {k st sz : Int} (h : fieldOk s k st sz = true) : (k = 0 ∨ k = 1 ∨ k = 2 ∨ k = 3) ∧ 0 ≤ st ∧ st ≤ 95 ∧ 1 ≤ sz ∧ sz ≤ mostZ k := by
  obtain ⟨_, k0, k3, t0, z0, zm, tw⟩ := field_inv h
  have hk : k = 0 ∨ k = 1 ∨ k = 2 ∨ k = 3 := by omega
  refine ⟨hk, t0, ?_, z0, zm⟩
  rcases hk with rfl | rfl | rfl | rfl <;> simp [widthZ] at tw <;> omega

theorem iSortOk (s : ByteArray) (k st sz : Int) (h : fieldOk s k st sz = true) (w : World) :
    Calls Try.prog 80 #[.agg #[.string s, .int .i8 k, .int .i16 st, .int .i16 sz]] w (SlcR (srt k st sz) w) := by
  obtain ⟨hk, t0, t1, z0, zm⟩ := fld_ok h
  clear h
  rcases hk with rfl | rfl | rfl | rfl
  · rw [mostZ_0] at zm; rw [srt_0]; exact iSort_0 s st sz _ (by omega) t0 t1 z0 zm (by omega) w
  · rw [mostZ_1] at zm; rw [srt_1]; exact iSort_1 s st sz _ (by omega) t0 t1 z0 (by omega) (by omega) w
  · rw [mostZ_2] at zm; rw [srt_2]; exact iSort_2 s st sz _ (by omega) t0 t1 z0 (by omega) (by omega) w
  · rw [mostZ_3] at zm; rw [srt_3]; exact iSort_3 s st sz _ (by omega) t0 t1 z0 (by omega) (by omega) w

theorem sSortOk (s : ByteArray) (k st sz : Int) (h : fieldOk s k st sz = true) (g o : Nat) (w : World) (h1 : w.cell? ⟨g, o + 1, none⟩ = some (.int .i8 k)) (h2 : w.cell? ⟨g, o + 2, none⟩ = some (.int .i16 st)) (h3 : w.cell? ⟨g, o + 3, none⟩ = some (.int .i16 sz)) :
    Calls Try.prog 79 #[.pointer (some ⟨g, o, none⟩)] w (SlcR (srt k st sz) w) := by
  obtain ⟨hk, t0, t1, z0, zm⟩ := fld_ok h
  clear h
  rcases hk with rfl | rfl | rfl | rfl
  · rw [mostZ_0] at zm; rw [srt_0]; exact sSort_0 st sz _ (by omega) t0 t1 z0 zm (by omega) g o w h1 h2 h3
  · rw [mostZ_1] at zm; rw [srt_1]; exact sSort_1 st sz _ (by omega) t0 t1 z0 (by omega) (by omega) g o w h1 h2 h3
  · rw [mostZ_2] at zm; rw [srt_2]; exact sSort_2 st sz _ (by omega) t0 t1 z0 (by omega) (by omega) g o w h1 h2 h3
  · rw [mostZ_3] at zm; rw [srt_3]; exact sSort_3 st sz _ (by omega) t0 t1 z0 (by omega) (by omega) g o w h1 h2 h3

def hsL (s : ByteArray) (k st sz : Int) : List Int := if fieldOk s k st sz then srt k st sz else []
theorem hsL_yes {s : ByteArray} {k st sz : Int} (h : fieldOk s k st sz = true) : hsL s k st sz = srt k st sz := by unfold hsL; rw [if_pos h]
theorem hsL_no {s : ByteArray} {k st sz : Int} (h : fieldOk s k st sz = false) : hsL s k st sz = [] := by unfold hsL; rw [h]; rfl
theorem hs_len (s : ByteArray) (k st sz : Int) : (hsL s k st sz).length ≤ 96 := by
  unfold hsL
  split
  · obtain ⟨hk, t0, t1, z0, zm⟩ := fld_ok (by assumption)
    rcases hk with rfl | rfl | rfl | rfl
    · rw [mostZ_0] at zm; rw [srt_0, marks_len]; omega
    · rw [mostZ_1] at zm; rw [srt_1, dsc_len]; omega
    · rw [mostZ_2] at zm; rw [srt_2, dsc_len]; omega
    · rw [mostZ_3] at zm; rw [srt_3, dsc_len]; omega
  · simp
theorem fC_no : fC false = 1 := rfl
theorem fC_yes : fC true = 0 := rfl

set_option maxHeartbeats 1600000 in
theorem iHSort_any (s : ByteArray) (k st sz : Int) (hs : s.size ≤ maxLen) (hk : I8 k) (ht : I16 st) (hz : I16 sz) (w : World) :
    Calls Try.prog 30 #[.agg #[.string s, .int .i8 k, .int .i16 st, .int .i16 sz]] w (HolR (hsL s k st sz) (fC (fieldOk s k st sz)) w) := by
  have V := Lib.hid fun W => iVF_any s k st sz hs hk ht hz W
  cases h : fieldOk s k st sz
  · have f := Lib.hid (hsL_no h)
    rw [h] at V
    clear h hs hk ht hz
    go_enter Try.func30, Try.ntmps30
    go_wp2_with (go_at_call 67; refine (V.out _).mono ?_; rintro e w1 ⟨rfl, hB⟩; have c := Lib.hid hB; clear hB)
    go_ret2
    exact HolR.mk fC_no (by rw [f.out]; exact own_nil _ _) (by have h := c.out; ((repeat' (first | (with_reducible exact Below.refl _ _) | (with_reducible assumption) | (with_reducible refine below_drewN ?_ _) | (with_reducible refine Below.drew ?_) | (with_reducible refine below_new ?_ _) | (with_reducible refine below_next ?_ (by with_reducible assumption)) | (with_reducible refine Below.setCell ?_ ?_ _) | go_size)); done))
  · have f := Lib.hid (hsL_yes h)
    have S := Lib.hid fun W => iSortOk s k st sz h W
    rw [h] at V
    clear h hs hk ht hz
    go_enter Try.func30, Try.ntmps30
    go_wp2_with (first
      | (go_at_call 67; refine (V.out _).mono ?_; rintro e w1 ⟨rfl, hB⟩; obtain ⟨hc, hf, hz⟩ := bcell hB; have bb : Below w.heap.size w w1 := (by repeat' (first | (with_reducible exact Below.refl _ _) | (with_reducible assumption) | (with_reducible refine below_drewN ?_ _) | (with_reducible refine Below.drew ?_) | (with_reducible refine below_new ?_ _) | (with_reducible refine below_next ?_ (by with_reducible assumption)) | (with_reducible refine Below.setCell ?_ ?_ _) | go_size)); have B1 := Lib.hid bb; clear bb)
      | (go_at_call 80; refine (S.out _).mono ?_; rintro e w2 ⟨v, rfl, hO, hB2⟩; have O := Lib.hid hO; have B2 := Lib.hid hB2; clear hO hB2))
    go_ret2
    exact HolR.mk fC_yes (by rw [f.out]; exact own_weaken O.out B1.out.size) (below_next B1.out B2.out)

set_option maxHeartbeats 1600000 in
theorem sHSort_any (s : ByteArray) (k st sz : Int) (hs : s.size ≤ maxLen) (ht : I16 st) (hz : I16 sz) (w : World) :
    Calls Try.prog 29 #[.agg #[.string s, .int .i8 k, .int .i16 st, .int .i16 sz]] w (HolR (hsL s k st sz) (fC (fieldOk s k st sz)) w) := by
  have V := Lib.hid fun W h0 h1 h2 h3 => sVF_any s k st sz hs ht hz w.heap.size 0 W h0 h1 h2 h3
  cases h : fieldOk s k st sz
  · have f := Lib.hid (hsL_no h)
    rw [h] at V
    clear h hs ht hz
    go_enter Try.func29, Try.ntmps29
    go_wp2_with (go_at_call 65; refine Calls.mono (V.out _ ?_ ?_ ?_ ?_) ?_; simp; simp; simp; simp; rintro e w1 ⟨rfl, hB⟩; have bb : Below w.heap.size w w1 := (by repeat' (first | (with_reducible exact Below.refl _ _) | (with_reducible assumption) | (with_reducible refine below_drewN ?_ _) | (with_reducible refine Below.drew ?_) | (with_reducible refine below_new ?_ _) | (with_reducible refine below_next ?_ (by with_reducible assumption)) | (with_reducible refine Below.setCell ?_ ?_ _) | go_size)); have B1 := Lib.hid bb; clear hB bb)
    go_ret2
    exact HolR.mk fC_no (by rw [f.out]; exact own_none rfl B1.out.size) (B1.out.alloc B1.out.size _)
  · have f := Lib.hid (hsL_yes h)
    have S := Lib.hid fun W h1 h2 h3 => sSortOk s k st sz h w.heap.size 0 W h1 h2 h3
    rw [h] at V
    clear h hs ht hz
    go_enter Try.func29, Try.ntmps29
    go_wp2_with (first
      | (go_at_call 65; refine Calls.mono (V.out _ ?_ ?_ ?_ ?_) ?_; simp; simp; simp; simp; rintro e w1 ⟨rfl, hB⟩; have bb : Below w.heap.size w w1 := (by repeat' (first | (with_reducible exact Below.refl _ _) | (with_reducible assumption) | (with_reducible refine below_drewN ?_ _) | (with_reducible refine Below.drew ?_) | (with_reducible refine below_new ?_ _) | (with_reducible refine below_next ?_ (by with_reducible assumption)) | (with_reducible refine Below.setCell ?_ ?_ _) | go_size)); have c1 : w1.cell? ⟨w.heap.size, 0 + 1, none⟩ = some (.int .i8 k) := (hB.cell (by first | omega | (simp; done) | (simp; omega))).trans (by simp); have c2 : w1.cell? ⟨w.heap.size, 0 + 2, none⟩ = some (.int .i16 st) := (hB.cell (by first | omega | (simp; done) | (simp; omega))).trans (by simp); have c3 : w1.cell? ⟨w.heap.size, 0 + 3, none⟩ = some (.int .i16 sz) := (hB.cell (by first | omega | (simp; done) | (simp; omega))).trans (by simp); have B1 := Lib.hid bb; have C1 := Lib.hid c1; have C2 := Lib.hid c2; have C3 := Lib.hid c3; clear hB bb c1 c2 c3)
      | (go_at_call 79; refine Calls.mono (S.out _ C1.out C2.out C3.out) ?_; rintro e w2 ⟨v, rfl, hO, hB2⟩; have O := Lib.hid hO; have B2 := Lib.hid hB2; clear hO hB2))
    go_ret2
    exact HolR.mk fC_yes (by rw [f.out]; exact own_weaken O.out B1.out.size) (below_next B1.out B2.out)
end Go.Proofs.Ytaiedpblfnaooab
