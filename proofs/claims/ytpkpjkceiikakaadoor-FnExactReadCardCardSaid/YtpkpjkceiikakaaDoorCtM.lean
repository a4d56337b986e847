/- The text of a card, in plain words. No program. -/
import Derived.Test.YtpkpjkceiikakaaDoorAppI
import Derived.Test.YtpkpjkceiikakaaDoorHolesIn
import Derived.Test.YtpkpjkceiikakaaDoorCard
namespace Go.Proofs.YtpkpjkceiikakaaDoor
open Go.ChangeShapes Go.WideShapes Go.ChangeAt Go.RowKit

/-- The text behind the first n holes. -/
def cdN (s : ByteArray) (zs : List Int) : Nat → ByteArray
  | 0 => s
  | n + 1 => cdN s zs n ++ (⟨#[32]⟩ ++ dec2 (zs.getD n 0).toNat)
theorem cdN_next (s : ByteArray) (zs : List Int) (n : Nat) : cdN s zs (n + 1) = cdN s zs n ++ (⟨#[32]⟩ ++ dec2 (zs.getD n 0).toNat) := rfl
theorem cdN_bytes (s : ByteArray) (zs : List Int) (n : Nat) : (cdN s zs n).data.toList ++ [32] ++ (dec2 (zs.getD n 0).toNat).data.toList = (cdN s zs (n + 1)).data.toList := by
  rw [cdN_next, ByteArray.data_append, ByteArray.data_append, Array.toList_append, Array.toList_append, List.append_assoc]
theorem back_eq (x : ByteArray) : (⟨x.data.toList.toArray⟩ : ByteArray) = x := by
  apply ByteArray.ext
  exact Array.toArray_toList
theorem mem_holX {f : Int → Bool} {n : Nat} {z : Int} (h : z ∈ hol f n) : 0 ≤ z ∧ z < n := by
  unfold hol at h
  rw [List.mem_filter, List.mem_map] at h
  obtain ⟨⟨i, hi, rfl⟩, _⟩ := h
  have := List.mem_range.1 hi
  omega
theorem hol_atX {f : Int → Bool} {n j : Nat} (h : j < (hol f n).length) : 0 ≤ (hol f n).getD j 0 ∧ (hol f n).getD j 0 < n := by
  rw [List.getD, List.getElem?_eq_getElem h]
  exact mem_holX (List.getElem_mem h)
theorem cdN_size (s : ByteArray) {zs : List Int} (hz : ∀ j, j < zs.length → 0 ≤ zs.getD j 0 ∧ zs.getD j 0 < 96) : ∀ n, n ≤ zs.length → (cdN s zs n).size ≤ s.size + 3 * n
  | 0, _ => Nat.le_refl _
  | n + 1, hn => by
    have ih := cdN_size s hz n (by omega)
    have h := hz n (by omega)
    have := dec2_le (n := (zs.getD n 0).toNat) (by omega)
    rw [cdN_next, ByteArray.size_append, ByteArray.size_append]
    have e : (⟨#[32]⟩ : ByteArray).size = 1 := rfl
    omega
theorem cdN_pos {s : ByteArray} (hs : 0 < s.size) (zs : List Int) : ∀ n, 0 < (cdN s zs n).size
  | 0 => hs
  | n + 1 => by rw [cdN_next, ByteArray.size_append]; have := cdN_pos hs zs n; omega
theorem nameOk_size {s : ByteArray} (h : nameOk s = true) : 1 ≤ s.size ∧ s.size ≤ 16 := by
  unfold nameOk at h
  simp only [Bool.and_eq_true, decide_eq_true_eq] at h
  exact h.1
theorem ret_strC {x y : ByteArray} (h : x = y) : Ending.returned (.string x) = Ending.returned (.string y) := by rw [h]
/-- The text of a card. -/
def cdT (s : ByteArray) (a b : Int) : ByteArray := if cardOk s b = true then cdN s (hol (hasB a b) 96) (hol (hasB a b) 96).length else ByteArray.empty
end Go.Proofs.YtpkpjkceiikakaaDoor
