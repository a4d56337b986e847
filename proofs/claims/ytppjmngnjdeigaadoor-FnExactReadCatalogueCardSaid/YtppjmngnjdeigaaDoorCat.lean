/- Catalogues in plain words: preferred entries, names, paths; circles are found by one step more or one less (no program). -/
import Derived.Test.YtppjmngnjdeigaaDoorEnts
import Derived.Test.YtppjmngnjdeigaaDoorNames
import Derived.Test.YtppjmngnjdeigaaDoorEName
namespace Go.Proofs.YtppjmngnjdeigaaDoor
open Go.ChangeShapes Go.WideShapes Go.ChangeAt Go.RowKit

/-- Is a number the index of a preferred entry. -/
def pref (cs : List Et) (x : Int) : Bool := (decide (0 ≤ x) && decide (x < cs.length)) && ((etAt cs x.toNat).a == -1)
def entOk (cs : List Et) (e : Et) : Bool := ((e.a == -1 || pref cs e.a) && (e.b == -1 || pref cs e.b)) && (e.a == -1 || e.b == -1)
def enTo (cs : List Et) (i : Nat) : List ByteArray := (List.range i).map fun j => (etAt cs j).s
def eTo (cs : List Et) : Nat → Bool
  | 0 => true
  | i + 1 => eTo cs i && ((ename (etAt cs i).s && entOk cs (etAt cs i)) && !hasN (enTo cs i) (etAt cs i).s)
/-- The k-th one on the path from x on; -1 behind its end. -/
def up (cs : List Et) : Nat → Int → Int
  | 0, x => x
  | k + 1, x => if up cs k x = -1 then -1 else (etAt cs (up cs k x).toNat).b
def firstE (cs : List Et) (i : Nat) : Int := if (etAt cs i).a = -1 then (i : Int) else (etAt cs i).a
def endS (cs : List Et) (i : Nat) : Prop := ∀ j, j < i → up cs (cs.length + 1) j = -1
def endI (cs : List Et) (i : Nat) : Prop := ∀ j, j < i → up cs cs.length (firstE cs j) = -1
instance (cs : List Et) (i : Nat) : Decidable (endS cs i) := Nat.decidableBallLT i (fun j _ => up cs (cs.length + 1) j = -1)
def catOk (cs : List Et) : Bool := (decide (cs.length ≤ 40) && eTo cs cs.length) && decide (endS cs cs.length)

theorem enTo_next (cs : List Et) (i : Nat) : enTo cs (i + 1) = enTo cs i ++ [(etAt cs i).s] := by unfold enTo; rw [List.range_succ, List.map_append]; rfl
theorem enTo_len (cs : List Et) (i : Nat) : (enTo cs i).length = i := by unfold enTo; simp
theorem enTo_zero (cs : List Et) : enTo cs 0 = [] := rfl
theorem ebytes_beq (t s : ByteArray) : (t == s) = (t.data.toList == s.data.toList) := by rw [beq_toListBytes, ByteArray.toList_eq, ByteArray.toList_eq]
theorem ehasN_next (cs : List Et) (k : Nat) (s : ByteArray) : hasN (enTo cs (k + 1)) s = (hasN (enTo cs k) s || ((etAt cs k).s == s)) := by
  rw [enTo_next, ebytes_beq]; unfold hasN; simp
theorem ehasN_mono {cs : List Et} {k : Nat} {s : ByteArray} (h : ((etAt cs k).s == s) = true) : ∀ n, k < n → hasN (enTo cs n) s = true
  | 0, hk => absurd hk (Nat.not_lt_zero _)
  | n + 1, hk => by
    rw [ehasN_next]
    by_cases e : k = n
    · subst e; rw [h, Bool.or_true]
    · rw [ehasN_mono h n (by omega)]; rfl
theorem eTo_no {cs : List Et} {i : Nat} (h : eTo cs (i + 1) = false) : ∀ n, i < n → eTo cs n = false
  | 0, hk => absurd hk (Nat.not_lt_zero _)
  | n + 1, hk => by
    by_cases e : i = n
    · subst e; exact h
    · unfold eTo; rw [eTo_no h n (by omega)]; rfl
theorem eTo_at {cs : List Et} : ∀ {n i : Nat}, eTo cs n = true → i < n → ename (etAt cs i).s = true ∧ entOk cs (etAt cs i) = true
  | n + 1, i, h, hi => by
    unfold eTo at h
    simp only [Bool.and_eq_true] at h
    by_cases e : i = n
    · subst e; exact h.2.1
    · exact eTo_at h.1 (by omega)
theorem cat_long {cs : List Et} (h : ¬ cs.length ≤ 40) : catOk cs = false := by unfold catOk; simp [h]
theorem cat_bad {cs : List Et} {i : Nat} (hi : i < cs.length) (h : eTo cs (i + 1) = false) : catOk cs = false := by unfold catOk; rw [eTo_no h _ hi, Bool.and_false, Bool.false_and]
theorem cat_ring {cs : List Et} {j : Nat} (hj : j < cs.length) (h : up cs (cs.length + 1) j ≠ -1) : catOk cs = false := by
  unfold catOk
  rw [decide_eq_false (fun e : endS cs cs.length => h (e j hj)), Bool.and_false]
theorem cat_yes {cs : List Et} (h : cs.length ≤ 40) (h1 : eTo cs cs.length = true) (h2 : endS cs cs.length) : catOk cs = true := by unfold catOk; rw [h1, decide_eq_true h, decide_eq_true h2]; rfl
theorem eTo_name {cs : List Et} {i : Nat} (h : ename (etAt cs i).s = false) : eTo cs (i + 1) = false := by unfold eTo; rw [h]; simp
theorem eTo_ent {cs : List Et} {i : Nat} (h : entOk cs (etAt cs i) = false) : eTo cs (i + 1) = false := by unfold eTo; rw [h]; simp
theorem eTo_twice {cs : List Et} {i : Nat} (h : hasN (enTo cs i) (etAt cs i).s = true) : eTo cs (i + 1) = false := by unfold eTo; rw [h]; simp
theorem eTo_yes {cs : List Et} {i : Nat} (h0 : eTo cs i = true) (h1 : ename (etAt cs i).s = true) (h2 : entOk cs (etAt cs i) = true) (h3 : hasN (enTo cs i) (etAt cs i).s = false) : eTo cs (i + 1) = true := by unfold eTo; rw [h0, h1, h2, h3]; rfl

/-! ### Circles -/
theorem pigeon : ∀ (n : Nat) (f : Nat → Nat), (∀ i, i ≤ n → f i < n) → ∃ i j, i < j ∧ j ≤ n ∧ f i = f j
  | 0, f, h => absurd (h 0 (Nat.le_refl _)) (Nat.not_lt_zero _)
  | n + 1, f, h => by
    by_cases hv : ∃ i, i ≤ n ∧ f i = f (n + 1)
    · obtain ⟨i, hi, e⟩ := hv
      exact ⟨i, n + 1, by omega, Nat.le_refl _, e⟩
    · have hne : ∀ i, i ≤ n → f i ≠ f (n + 1) := fun i hi e => hv ⟨i, hi, e⟩
      obtain ⟨i, j, hij, hj, e⟩ := pigeon n (fun i => if f i = n then f (n + 1) else f i) (fun i hi => by
        have h1 := h i (by omega)
        have h2 := h (n + 1) (Nat.le_refl _)
        have h3 := hne i hi
        show (if f i = n then f (n + 1) else f i) < n
        split <;> omega)
      refine ⟨i, j, hij, by omega, ?_⟩
      have a := hne i (by omega)
      have b := hne j hj
      split at e <;> split at e <;> omega
theorem up_stay {cs : List Et} {k : Nat} {x : Int} (h : up cs k x = -1) : ∀ d, up cs (k + d) x = -1
  | 0 => h
  | d + 1 => by rw [← Nat.add_assoc, up, if_pos (up_stay h d)]
theorem up_le {cs : List Et} {k n : Nat} {x : Int} (hk : k ≤ n) (h : up cs n x ≠ -1) : up cs k x ≠ -1 := fun e => h (by have := up_stay e (n - k); rwa [show k + (n - k) = n by omega] at this)
theorem up_add (cs : List Et) (m : Nat) (x : Int) : ∀ d, up cs (m + d) x = up cs d (up cs m x)
  | 0 => rfl
  | d + 1 => by rw [← Nat.add_assoc, up, up, up_add cs m x d]
/-- In a catalogue whose entries are well formed, the path of a preferred entry stays among preferred ones. -/
theorem pref_iff {cs : List Et} {x : Int} : pref cs x = true ↔ (0 ≤ x ∧ x < cs.length) ∧ (etAt cs x.toNat).a = -1 := by unfold pref; simp [and_assoc]
theorem ent_up {cs : List Et} (hT : eTo cs cs.length = true) {x : Int} (h : pref cs x = true) : (etAt cs x.toNat).b = -1 ∨ pref cs (etAt cs x.toNat).b = true := by
  have h1 := pref_iff.1 h
  have := (eTo_at hT (show x.toNat < cs.length by omega)).2
  unfold entOk at this
  simp only [Bool.and_eq_true, Bool.or_eq_true, beq_iff_eq] at this
  exact this.1.2
theorem up_pref {cs : List Et} (hT : eTo cs cs.length = true) {x : Int} (h : pref cs x = true) : ∀ k, up cs k x = -1 ∨ pref cs (up cs k x) = true
  | 0 => .inr h
  | k + 1 => by
    rw [up]
    split
    · exact .inl rfl
    · next e => exact ent_up hT ((up_pref hT h k).resolve_left e)
theorem up_ring {cs : List Et} (hT : eTo cs cs.length = true) {x : Int} (h : pref cs x = true) (hn : up cs cs.length x ≠ -1) : ∀ k, up cs k x ≠ -1 := by
  have hp : ∀ i, i ≤ cs.length → pref cs (up cs i x) = true := fun i hi => (up_pref hT h i).resolve_left (up_le hi hn)
  obtain ⟨i, j, hij, hj, e⟩ := pigeon cs.length (fun i => (up cs i x).toNat) (fun i hi => by have := pref_iff.1 (hp i hi); show (up cs i x).toNat < cs.length; omega)
  have e2 : up cs i x = up cs j x := by
    have a := pref_iff.1 (hp i (by omega))
    have b := pref_iff.1 (hp j hj)
    omega
  intro k
  induction k using Nat.strongRecOn with
  | _ k ih =>
    by_cases hk : k < j
    · exact up_le (by omega) (up_le hj hn)
    · have := ih (k - (j - i)) (by omega)
      rw [show k = j + (k - j) by omega, up_add, ← e2, ← up_add, show i + (k - j) = k - (j - i) by omega]
      exact this
theorem firstE_pref {cs : List Et} (hT : eTo cs cs.length = true) {j : Nat} (hj : j < cs.length) : pref cs (firstE cs j) = true := by
  unfold firstE
  split
  · next e => exact pref_iff.2 ⟨by omega, by simpa using e⟩
  · next e =>
    have := (eTo_at hT hj).2
    unfold entOk at this
    simp only [Bool.and_eq_true, Bool.or_eq_true, beq_iff_eq] at this
    exact this.1.1.resolve_left e
/-- One step more, or from the preferred entry on: the same circles are found. -/
theorem ring_iff {cs : List Et} (hT : eTo cs cs.length = true) : endS cs cs.length ↔ endI cs cs.length := by
  constructor
  · intro h j hj
    refine Classical.byContradiction fun hn => ?_
    have hp := firstE_pref hT hj
    have hr := up_ring hT hp hn
    have hb := pref_iff.1 hp
    have := h (firstE cs j).toNat (by omega)
    rw [show ((firstE cs j).toNat : Int) = firstE cs j by omega] at this
    exact hr _ this
  · intro h j hj
    by_cases e : (etAt cs j).a = -1
    · have := h j hj
      unfold firstE at this
      rw [if_pos e] at this
      exact up_stay this 1
    · have hk := (eTo_at hT hj).2
      unfold entOk at hk
      simp only [Bool.and_eq_true, Bool.or_eq_true, beq_iff_eq] at hk
      have hb := hk.2.resolve_left e
      have h1 : up cs 1 (j : Int) = -1 := by
        rw [up, up, if_neg (by omega)]
        simpa using hb
      have := up_stay h1 cs.length
      rwa [Nat.add_comm] at this
theorem cat_ringI {cs : List Et} (hT : eTo cs cs.length = true) {j : Nat} (hj : j < cs.length) (h : up cs cs.length (firstE cs j) ≠ -1) : catOk cs = false := by
  unfold catOk
  rw [decide_eq_false (fun e : endS cs cs.length => h ((ring_iff hT).1 e j hj)), Bool.and_false]
theorem cat_yesI {cs : List Et} (h : cs.length ≤ 40) (h1 : eTo cs cs.length = true) (h2 : endI cs cs.length) : catOk cs = true := cat_yes h h1 ((ring_iff h1).2 h2)
theorem cat_parts {cs : List Et} (h : catOk cs = true) : cs.length ≤ 40 ∧ eTo cs cs.length = true ∧ endI cs cs.length := by
  unfold catOk at h
  simp only [Bool.and_eq_true, decide_eq_true_eq] at h
  exact ⟨h.1.1, h.1.2, (ring_iff h.1.2).1 h.2⟩
end Go.Proofs.YtppjmngnjdeigaaDoor
