/- Contracts: HolesToSort, the program's and the model's. -/
import Derived.Test.YtdbkplfkilaoeaaISort
import Derived.Test.YtdbkplfkilaoeaaHolesIn
import Derived.Test.YtdbkplfkilaoeaaHolesOf
namespace Go.Proofs.Ytdbkplfkilaoeaa
open Go.ChangeShapes Go.WideShapes Go.ChangeAt Go.RowKit

theorem fld_ok {s : ByteArray} {k st sz : Int} (h : fieldOk s k st sz = true) : (k = 0 ∨ k = 1 ∨ k = 2 ∨ k = 3) ∧ 0 ≤ st ∧ st ≤ 95 ∧ 1 ≤ sz ∧ sz ≤ mostZ k := by
  obtain ⟨_, k0, k3, t0, z0, zm, tw⟩ := field_inv h
  have hk : k = 0 ∨ k = 1 ∨ k = 2 ∨ k = 3 := by omega
  refine ⟨hk, t0, ?_, z0, zm⟩
  rcases hk with rfl | rfl | rfl | rfl <;> simp [widthZ] at tw <;> omega

theorem iSortOk (s : ByteArray) (k st sz : Int) (h : fieldOk s k st sz = true) (w : World) :
    Calls Try.prog 63 #[.agg #[.string s, .int .i8 k, .int .i16 st, .int .i16 sz]] w (SlcR (srt k st sz) w) := by
  obtain ⟨hk, t0, t1, z0, zm⟩ := fld_ok h
  clear h
  rcases hk with rfl | rfl | rfl | rfl
  · rw [mostZ_0] at zm; rw [srt_0]; exact iSort_0 s st sz _ (by omega) t0 t1 z0 zm (by omega) w
  · rw [mostZ_1] at zm; rw [srt_1]; exact iSort_1 s st sz _ (by omega) t0 t1 z0 (by omega) (by omega) w
  · rw [mostZ_2] at zm; rw [srt_2]; exact iSort_2 s st sz _ (by omega) t0 t1 z0 (by omega) (by omega) w
  · rw [mostZ_3] at zm; rw [srt_3]; exact iSort_3 s st sz _ (by omega) t0 t1 z0 (by omega) (by omega) w

theorem sSortOk (s : ByteArray) (k st sz : Int) (h : fieldOk s k st sz = true) (g o : Nat) (w : World) (h1 : w.cell? ⟨g, o + 1, none⟩ = some (.int .i8 k)) (h2 : w.cell? ⟨g, o + 2, none⟩ = some (.int .i16 st)) (h3 : w.cell? ⟨g, o + 3, none⟩ = some (.int .i16 sz)) :
    Calls Try.prog 56 #[.pointer (some ⟨g, o, none⟩)] w (SlcR (srt k st sz) w) := by
  obtain ⟨hk, t0, t1, z0, zm⟩ := fld_ok h
  clear h
  rcases hk with rfl | rfl | rfl | rfl
  · rw [mostZ_0] at zm; rw [srt_0]; exact sSort_0 st sz _ (by omega) t0 t1 z0 zm (by omega) g o w h1 h2 h3
  · rw [mostZ_1] at zm; rw [srt_1]; exact sSort_1 st sz _ (by omega) t0 t1 z0 (by omega) (by omega) g o w h1 h2 h3
  · rw [mostZ_2] at zm; rw [srt_2]; exact sSort_2 st sz _ (by omega) t0 t1 z0 (by omega) (by omega) g o w h1 h2 h3
  · rw [mostZ_3] at zm; rw [srt_3]; exact sSort_3 st sz _ (by omega) t0 t1 z0 (by omega) (by omega) g o w h1 h2 h3

def hsL (s : ByteArray) (k st sz : Int) : List Int := if fieldOk s k st sz then srt k st sz else []
theorem hsL_yes {s : ByteArray} {k st sz : Int} (h : fieldOk s k st sz = true) : hsL s k st sz = srt k st sz := by unfold hsL; rw [if_pos h]
theorem hsL_no {s : ByteArray} {k st sz : Int} (h : fieldOk s k st sz = false) : hsL s k st sz = [] := by unfold hsL; rw [h]; rfl
theorem hs_len (s : ByteArray) (k st sz : Int) : (hsL s k st sz).length ≤ 96 := by
  unfold hsL
  split
  · obtain ⟨hk, t0, t1, z0, zm⟩ := fld_ok (by assumption)
    rcases hk with rfl | rfl | rfl | rfl
    · rw [mostZ_0] at zm; rw [srt_0, marks_len]; omega
    · rw [mostZ_1] at zm; rw [srt_1, dsc_len]; omega
    · rw [mostZ_2] at zm; rw [srt_2, dsc_len]; omega
    · rw [mostZ_3] at zm; rw [srt_3, dsc_len]; omega
  · simp
theorem fC_no : fC false = 1 := rfl
theorem fC_yes : fC true = 0 := rfl


end Go.Proofs.Ytdbkplfkilaoeaa
