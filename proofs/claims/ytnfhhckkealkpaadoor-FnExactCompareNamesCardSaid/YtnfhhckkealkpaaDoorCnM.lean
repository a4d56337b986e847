/- Mathematics of how names are filed. No program. -/
import Derived.Test.YtnfhhckkealkpaaDoorMadeOf
import Derived.Test.YtnfhhckkealkpaaDoorEName
import Derived.Lib.Bytealg
import Derived.Lib.TrimByte
namespace Go.Proofs.YtnfhhckkealkpaaDoor
open Go.ChangeShapes Go.WideShapes Go.ChangeAt Go.RowKit

theorem cmpB_eq : ∀ x y : List UInt8, Lib.compareBytes x y = if Op.bytesLess x y = true then -1 else if (x == y) = true then 0 else 1
  | [], [] => rfl
  | [], _ :: _ => rfl
  | _ :: _, [] => rfl
  | a :: x, b :: y => by
    rw [Lib.compareBytes, Op.bytesLess, cmpB_eq x y]
    by_cases h1 : a < b
    · simp [h1]
    · by_cases h2 : b < a
      · have hne : a ≠ b := fun e => by subst e; exact h1 h2
        simp [h1, h2, hne]
      · have e : a = b := by
          apply UInt8.toNat_inj.1
          have h3 : ¬ a.toNat < b.toNat := fun h => h1 (UInt8.lt_iff_toNat_lt.2 h)
          have h4 : ¬ b.toNat < a.toNat := fun h => h2 (UInt8.lt_iff_toNat_lt.2 h)
          omega
        subst e
        simp [h1]
/-- Digits alone. -/
def dig (u : ByteArray) : Bool := u.data.toList.all fun b => decide (b.toNat ≤ 57)
def digSet : ByteArray := ⟨#[48, 49, 50, 51, 52, 53, 54, 55, 56, 57]⟩
def Plain (u : ByteArray) : Prop := ∀ b ∈ u.data.toList, plainSet.data.toList.contains b = true
theorem dig_byteN : ∀ n : Nat, n < 256 → plainSet.data.toList.contains (UInt8.ofNat n) = true → digSet.data.toList.contains (UInt8.ofNat n) = decide ((UInt8.ofNat n).toNat ≤ 57) := by decide +kernel
theorem dig_byte (b : UInt8) (h : plainSet.data.toList.contains b = true) : digSet.data.toList.contains b = decide (b.toNat ≤ 57) := by
  have k := dig_byteN b.toNat b.toNat_lt
  rw [UInt8.ofNat_toNat] at k
  exact k h
theorem dig_in {u : ByteArray} (h : Plain u) : allIn digSet.data.toList u = dig u := by
  unfold allIn dig
  rw [Bool.eq_iff_iff, List.all_eq_true, List.all_eq_true]
  exact ⟨fun k b hb => by rw [← dig_byte b (h b hb)]; exact k b hb, fun k b hb => by rw [dig_byte b (h b hb)]; exact k b hb⟩
/-- Without zeros in front. -/
def vaL (u : ByteArray) : ByteArray := ⟨(Lib.trimLeftB u.data.toList 48).toArray⟩
theorem vaL_size (u : ByteArray) : (vaL u).size ≤ u.size := by
  unfold vaL Lib.trimLeftB
  rw [show (ByteArray.mk (List.dropWhile (fun x => x == 48) u.data.toList).toArray).size = (List.dropWhile (fun x => x == 48) u.data.toList).length from List.size_toArray]
  have := (List.dropWhile_sublist (l := u.data.toList) (fun x => x == 48)).length_le
  simpa using this
def cmpI (m n : Int) : Int := if m < n then -1 else if n < m then 1 else 0
def ordB (x y : ByteArray) : Int := Lib.compareBytes x.data.toList y.data.toList
/-- How two words are filed. -/
def valC (u v : ByteArray) : Int := if cmpI (vaL u).size (vaL v).size ≠ 0 then cmpI (vaL u).size (vaL v).size else ordB (vaL u) (vaL v)
def wcmp (u v : ByteArray) : Int := if dig u = true ∧ dig v = true then valC u v else if dig u = true then -1 else if dig v = true then 1 else ordB u v
theorem wcmp_vv {u v : ByteArray} (h1 : dig u = true) (h2 : dig v = true) : wcmp u v = valC u v := by unfold wcmp; rw [if_pos ⟨h1, h2⟩]
theorem wcmp_v1 {u v : ByteArray} (h1 : dig u = true) (h2 : dig v = false) : wcmp u v = -1 := by unfold wcmp; rw [if_neg (by simp [h2]), if_pos h1]
theorem wcmp_1v {u v : ByteArray} (h1 : dig u = false) (h2 : dig v = true) : wcmp u v = 1 := by unfold wcmp; rw [if_neg (by simp [h1]), if_neg (by simp [h1]), if_pos h2]
theorem wcmp_nn {u v : ByteArray} (h1 : dig u = false) (h2 : dig v = false) : wcmp u v = ordB u v := by unfold wcmp; rw [if_neg (by simp [h1]), if_neg (by simp [h1]), if_neg (by simp [h2])]
/-- What the first n pairs of words say. -/
def lcN (xs ys : List ByteArray) : Nat → Option Int
  | 0 => none
  | n + 1 => match lcN xs ys n with
    | some c => some c
    | none => if wcmp (xs.getD n ByteArray.empty) (ys.getD n ByteArray.empty) ≠ 0 then some (wcmp (xs.getD n ByteArray.empty) (ys.getD n ByteArray.empty)) else none
theorem lcN_next {xs ys : List ByteArray} {n : Nat} (h : lcN xs ys n = none) (h0 : wcmp (xs.getD n ByteArray.empty) (ys.getD n ByteArray.empty) = 0) : lcN xs ys (n + 1) = none := by
  rw [lcN, h]; simp only [h0]; simp
theorem lcN_hit {xs ys : List ByteArray} {n m : Nat} (h : lcN xs ys n = none) (h0 : wcmp (xs.getD n ByteArray.empty) (ys.getD n ByteArray.empty) ≠ 0) (hm : n < m) : lcN xs ys m = some (wcmp (xs.getD n ByteArray.empty) (ys.getD n ByteArray.empty)) := by
  induction m with
  | zero => exact absurd hm (Nat.not_lt_zero _)
  | succ m ih =>
    rw [lcN]
    by_cases e : n = m
    · subst e; rw [h]; simp only [if_pos h0]
    · rw [ih (by omega)]
/-- How two lists of words are filed. -/
def lc (xs ys : List ByteArray) : Int := (lcN xs ys (min xs.length ys.length)).getD (cmpI xs.length ys.length)
theorem lc_hit {xs ys : List ByteArray} {n : Nat} (h : lcN xs ys n = none) (h0 : wcmp (xs.getD n ByteArray.empty) (ys.getD n ByteArray.empty) ≠ 0) (hm : n < min xs.length ys.length) : lc xs ys = wcmp (xs.getD n ByteArray.empty) (ys.getD n ByteArray.empty) := by
  unfold lc; rw [lcN_hit h h0 hm]; rfl
theorem lc_end {xs ys : List ByteArray} (h : lcN xs ys (min xs.length ys.length) = none) : lc xs ys = cmpI xs.length ys.length := by unfold lc; rw [h]; rfl
/-- The words by which a name is filed. -/
def isArt (w : ByteArray) : Bool := decide (w = ⟨#[97]⟩) || decide (w = ⟨#[97, 110]⟩) || decide (w = ⟨#[116, 104, 101]⟩)
def fwL : List ByteArray → List ByteArray
  | w :: x :: r => if isArt w = true then x :: r else w :: x :: r
  | l => l
def fw (s : ByteArray) : List ByteArray := fwL (pieces 32 s)
def cnV (xs ys : List ByteArray) (o : Int) : Int := if lc xs ys ≠ 0 then lc xs ys else o
theorem cnV_yes {xs ys : List ByteArray} {o z : Int} (h : lc xs ys = z) (hz : z ≠ 0) : cnV xs ys o = z := by unfold cnV; rw [h, if_pos hz]
theorem cnV_no {xs ys : List ByteArray} {o : Int} (h : lc xs ys = 0) : cnV xs ys o = o := by unfold cnV; rw [h, if_neg (by simp)]
def cmpN (a b : ByteArray) : Int := cnV (fw a) (fw b) (ordB a b)
theorem fwL_mem : ∀ {l : List ByteArray} {p : ByteArray}, p ∈ fwL l → p ∈ l
  | [], p, h => h
  | [_], p, h => h
  | w :: x :: r, p, h => by
    have h : p ∈ (if isArt w = true then x :: r else w :: x :: r) := h
    by_cases hb : isArt w = true
    · rw [if_pos hb] at h; exact List.mem_cons_of_mem _ h
    · rw [if_neg hb] at h; exact h
theorem name_plain {s : ByteArray} (h : ename s = true) : ∀ p ∈ fw s, Plain p ∧ p.size ≤ 24 := by
  intro p hp
  have hp := fwL_mem hp
  unfold ename at h
  rw [Bool.and_eq_true, decide_eq_true_eq] at h
  have hw := List.all_eq_true.1 h.2 p hp
  unfold wordOk at hw
  rw [Bool.and_eq_true] at hw
  exact ⟨fun b hb => List.all_eq_true.1 hw.2 b hb, Nat.le_trans (pieces_fit 32 s p hp) h.1⟩
theorem fw_len (s : ByteArray) : (fw s).length ≤ (pieces 32 s).length := by
  unfold fw
  match pieces 32 s with
  | [] => exact Nat.le_refl _
  | [_] => exact Nat.le_refl _
  | w :: x :: r =>
    show (if isArt w = true then x :: r else w :: x :: r).length ≤ _
    by_cases hb : isArt w = true
    · rw [if_pos hb]; exact Nat.le_succ _
    · rw [if_neg hb]; exact Nat.le_refl _
end Go.Proofs.YtnfhhckkealkpaaDoor
