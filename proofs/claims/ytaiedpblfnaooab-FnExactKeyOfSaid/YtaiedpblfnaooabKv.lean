/- The number that a list of holes and a test make, the least digit first; a field's holes are holes. -/
import Derived.Test.YtaiedpblfnaooabHSort
namespace Go.Proofs.Ytaiedpblfnaooab
open Go.ChangeShapes Go.WideShapes Go.ChangeAt Go.RowKit

def kv (f : Int → Bool) : List Int → Nat
  | [] => 0
  | z :: zs => (if f z then 1 else 0) + 2 * kv f zs
theorem kv_lt (f : Int → Bool) : ∀ zs : List Int, kv f zs < 2 ^ zs.length
  | [] => by simp [kv]
  | z :: zs => by
    have := kv_lt f zs
    rw [kv, List.length_cons, Nat.pow_succ]
    split <;> omega
theorem kv_snoc (f : Int → Bool) (x : Int) : ∀ zs : List Int, kv f (zs ++ [x]) = kv f zs + (if f x then 2 ^ zs.length else 0)
  | [] => by simp [kv]
  | z :: zs => by
    rw [List.cons_append, kv, kv_snoc f x zs, kv, List.length_cons, Nat.pow_succ]
    split <;> split <;> omega
theorem kv_drop (f : Int → Bool) (zs : List Int) (i : Nat) (h : i < zs.length) : kv f (zs.drop i) = (if f (zs.getD i 0) then 1 else 0) + 2 * kv f (zs.drop (i + 1)) := by
  rw [List.drop_eq_getElem_cons h, kv]; simp [List.getD, h]
theorem kv_take (f : Int → Bool) (zs : List Int) (i : Nat) (h : i < zs.length) : kv f (zs.take (i + 1)) = kv f (zs.take i) + (if f (zs.getD i 0) then 2 ^ i else 0) := by
  rw [List.take_succ_eq_append_getElem h, kv_snoc]; simp [List.getD, h, Nat.min_eq_left (Nat.le_of_lt h)]
theorem kv_small (f : Int → Bool) (zs : List Int) (h : zs.length ≤ 24) : kv f zs < 16777216 := by
  have := kv_lt f zs
  have h2 : 2 ^ zs.length ≤ 2 ^ 24 := Nat.pow_le_pow_right (by decide) h
  omega
theorem srt_in {s : ByteArray} {k st sz : Int} (h : fieldOk s k st sz = true) : (srt k st sz).length ≤ 24 ∧ ∀ i, i < (srt k st sz).length → 0 ≤ (srt k st sz).getD i 0 ∧ (srt k st sz).getD i 0 ≤ 95 := by
  obtain ⟨_, k0, k3, t0, z0, zm, tw⟩ := field_inv h
  have hk : k = 0 ∨ k = 1 ∨ k = 2 ∨ k = 3 := by omega
  have mg : ∀ n : Nat, st + (n : Int) ≤ 96 → ∀ i, i < (marks st n).length → 0 ≤ (marks st n).getD i 0 ∧ (marks st n).getD i 0 ≤ 95 := fun n hn i hi => by
    rw [marks_len] at hi; rw [marks_get st n i hi]; omega
  have dg : ∀ n : Nat, st + (n : Int) ≤ 96 → ∀ i, i < (dsc st n n).length → 0 ≤ (dsc st n n).getD i 0 ∧ (dsc st n n).getD i 0 ≤ 95 := fun n hn i hi => by
    rw [dsc_len] at hi
    have e : (dsc st n n).getD i 0 = st + (n : Int) - 1 - (i : Int) := by unfold dsc; simp [List.getD, hi]
    rw [e]; omega
  rcases hk with rfl | rfl | rfl | rfl
  · rw [mostZ_0] at zm; rw [widthZ_0] at tw; rw [srt_0]; exact ⟨by rw [marks_len]; omega, mg _ (by omega)⟩
  · rw [mostZ_1] at zm; rw [widthZ_1] at tw; rw [srt_1]; exact ⟨by rw [dsc_len]; omega, dg _ (by omega)⟩
  · rw [mostZ_2] at zm; rw [widthZ_2] at tw; rw [srt_2]; exact ⟨by rw [dsc_len]; omega, dg _ (by omega)⟩
  · rw [mostZ_3] at zm; rw [widthZ_3] at tw; rw [srt_3]; exact ⟨by rw [dsc_len]; omega, dg _ (by omega)⟩
end Go.Proofs.Ytaiedpblfnaooab
