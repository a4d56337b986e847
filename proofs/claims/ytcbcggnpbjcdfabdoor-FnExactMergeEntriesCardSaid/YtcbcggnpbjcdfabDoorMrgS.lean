/- Contract: MergeEntries, the model's. -/
import Derived.Test.YtcbcggnpbjcdfabDoorMrgI
namespace Go.Proofs.YtcbcggnpbjcdfabDoor
open Go.ChangeShapes Go.WideShapes Go.ChangeAt Go.RowKit

/-- What hinders two entries from being merged. -/
noncomputable def meNo (cs : List Et) (i k : Nat) : Bool := ((etAt cs i).a != -1 || (etAt cs k).a != -1) || leads cs (firstE cs k) i
noncomputable def meL (cs : List Et) (i k : Nat) : List Et := if meNo cs i k then [] else mgL cs i k
noncomputable def meC (cs : List Et) (i k : Nat) : Int := if meNo cs i k then 4 else 0
def meER (cs : List Et) (x y : Int) (w : World) (e : Ending) (w' : World) : Prop := EEL (if catOk cs && (hasX cs.length x && hasX cs.length y) then meL cs x.toNat y.toNat else []) (if catOk cs then (if hasX cs.length x && hasX cs.length y then meC cs x.toNat y.toNat else 2) else 1) w e w'
theorem meER_bad {cs : List Et} (x y : Int) (h : catOk cs = false) : meER cs x y = EEL [] 1 := by funext w e w'; unfold meER; rw [h]; rfl
theorem meER_none {cs : List Et} {x y : Int} (h : catOk cs = true) (h2 : (hasX cs.length x && hasX cs.length y) = false) : meER cs x y = EEL [] 2 := by funext w e w'; unfold meER; rw [h, h2]; rfl
theorem meER_ok {cs : List Et} {x y : Int} (h : catOk cs = true) (h2 : (hasX cs.length x && hasX cs.length y) = true) : meER cs x y = EEL (meL cs x.toNat y.toNat) (meC cs x.toNat y.toNat) := by funext w e w'; unfold meER; rw [h, h2]; rfl
theorem me_no {cs : List Et} {i k : Nat} (h : meNo cs i k = true) : meL cs i k = [] ∧ meC cs i k = 4 := by unfold meL meC; rw [h]; exact ⟨rfl, rfl⟩
theorem me_yes {cs : List Et} {i k : Nat} (h : meNo cs i k = false) : meL cs i k = mgL cs i k ∧ meC cs i k = 0 := by unfold meL meC; rw [h]; exact ⟨rfl, rfl⟩
theorem me_parts {cs : List Et} {i k : Nat} (hi : i < cs.length) (hk : k < cs.length) (h : meNo cs i k = false) : pref cs (i : Int) = true ∧ pref cs (k : Int) = true ∧ leads cs (k : Int) (i : Int) = false := by
  unfold meNo at h
  simp only [Bool.or_eq_false_iff, bne_eq_false_iff_eq] at h
  obtain ⟨⟨h1, h2⟩, h3⟩ := h
  have e : firstE cs k = (k : Int) := by unfold firstE; rw [if_pos h2]
  rw [e] at h3
  exact ⟨pref_iff.2 ⟨by omega, by simpa using h1⟩, pref_iff.2 ⟨by omega, by simpa using h2⟩, h3⟩

/-- The first l ones are done, the merged one as the others. -/
def rowF (cs : List Et) (i k : Int) (l : Nat) : List Et := (List.range cs.length).map fun n => if n < l then fixE i k (etAt cs n) else etAt cs n
theorem rowF_len (cs : List Et) (i k : Int) (l : Nat) : (rowF cs i k l).length = cs.length := by unfold rowF; simp
theorem rowF_at {cs : List Et} (i k : Int) (l : Nat) {n : Nat} (h : n < cs.length) : etAt (rowF cs i k l) n = if n < l then fixE i k (etAt cs n) else etAt cs n := etAt_map _ _ _ h
theorem rowF_zero (cs : List Et) (i k : Int) : rowF cs i k 0 = cs := by
  refine ext_et (rowF_len _ _ _ _) fun n hn => ?_
  rw [rowF_len] at hn
  rw [rowF_at _ _ _ hn, if_neg (Nat.not_lt_zero _)]
theorem rowF_next {cs : List Et} (i k : Int) {l : Nat} (hl : l < cs.length) : rowF cs i k (l + 1) = (rowF cs i k l).set l (fixE i k (etAt (rowF cs i k l) l)) := by
  refine ext_et (by rw [List.length_set, rowF_len, rowF_len]) fun n hn => ?_
  rw [rowF_len] at hn
  rw [rowF_at _ _ _ hn, etAt_set (by rw [rowF_len]; exact hn), rowF_at _ _ _ hn, rowF_at _ _ _ hl, if_neg (Nat.lt_irrefl _)]
  by_cases e : l = n
  · subst e; rw [if_pos (Nat.lt_succ_self _), if_pos rfl]
  · rw [if_neg e]
    by_cases e2 : n < l
    · rw [if_pos (by omega), if_pos e2]
    · rw [if_neg (by omega), if_neg e2]
theorem rowF_all {cs : List Et} {j : Nat} (hj : j < cs.length) (k : Int) : (rowF cs j k cs.length).set j ⟨(etAt (rowF cs j k cs.length) j).s, k, -1⟩ = mgL cs j k := by
  refine ext_et (by rw [List.length_set, rowF_len, mg_len]) fun n hn => ?_
  rw [List.length_set, rowF_len] at hn
  rw [etAt_set (by rw [rowF_len]; exact hn), rowF_at _ _ _ hj, rowF_at _ _ _ hn, mg_at _ _ hn, if_pos hj, if_pos hn]
  unfold mE
  by_cases e : j = n
  · subst e; rw [if_pos rfl, if_pos rfl]; rfl
  · rw [if_neg e, if_neg (by omega)]; rfl
end Go.Proofs.YtcbcggnpbjcdfabDoor
