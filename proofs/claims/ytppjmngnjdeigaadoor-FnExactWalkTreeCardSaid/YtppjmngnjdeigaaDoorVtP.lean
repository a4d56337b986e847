/- What a valid tree is; and two ways to count those that are reached. -/
import Derived.Test.YtppjmngnjdeigaaDoorKn
namespace Go.Proofs.YtppjmngnjdeigaaDoor
open Go.ChangeShapes Go.WideShapes Go.ChangeAt Go.RowKit

/-! ### One knot -/
/-- The least number that may come at an index of a strictly increasing list of indices. -/
def least (zs : List Int) (i : Nat) : Int := if i = 0 then 0 else zs.getD (i - 1) 0 + 1
theorem least_zero (zs : List Int) : least zs 0 = 0 := rfl
theorem least_succ (zs : List Int) (i : Nat) : least zs (i + 1) = zs.getD i 0 + 1 := by unfold least; rw [if_neg (by omega)]; rfl
def IdxTo (zs : List Int) (n : Nat) : Prop := ∀ i, i < n → least zs i ≤ zs.getD i 0 ∧ zs.getD i 0 < 60
instance (zs : List Int) (n : Nat) : Decidable (IdxTo zs n) := by unfold IdxTo; infer_instance
theorem idxTo_next {zs : List Int} {n : Nat} (h : IdxTo zs n) (k : least zs n ≤ zs.getD n 0 ∧ zs.getD n 0 < 60) : IdxTo zs (n + 1) := fun i hi => by
  by_cases e : i = n
  · subst e; exact k
  · exact h i (by omega)
theorem idxTo_low {zs : List Int} : ∀ {n : Nat}, IdxTo zs n → 0 ≤ least zs n ∧ least zs n ≤ 60
  | 0, _ => by rw [least_zero]; omega
  | n + 1, h => by
    have ih := idxTo_low (n := n) (fun i hi => h i (by omega))
    have := h n (Nat.lt_succ_self n)
    rw [least_succ]
    omega

/-- Values that are strictly increasing, and none less than -2. -/
def ValTo (zs : List Int) (n : Nat) : Prop := ∀ i, i < n → -2 ≤ zs.getD i 0 ∧ (0 < i → zs.getD (i - 1) 0 < zs.getD i 0)
instance (zs : List Int) (n : Nat) : Decidable (ValTo zs n) := by unfold ValTo; infer_instance
theorem valTo_next {zs : List Int} {n : Nat} (h : ValTo zs n) (k : -2 ≤ zs.getD n 0 ∧ (0 < n → zs.getD (n - 1) 0 < zs.getD n 0)) : ValTo zs (n + 1) := fun i hi => by
  by_cases e : i = n
  · subst e; exact k
  · exact h i (by omega)

def LeafOk (k : Kn) : Prop := k.vs.length = 0 ∧ k.ns.length = 0 ∧ IdxTo k.cs k.cs.length
def AskOk (k : Kn) : Prop := 0 ≤ k.f ∧ k.f < 12 ∧ k.cs.length = 0 ∧ 0 < k.vs.length ∧ k.ns.length = k.vs.length ∧ ValTo k.vs k.vs.length
instance (k : Kn) : Decidable (LeafOk k) := by unfold LeafOk; infer_instance
instance (k : Kn) : Decidable (AskOk k) := by unfold AskOk; infer_instance
def LocOk (k : Kn) : Prop := if k.f = -1 then LeafOk k else AskOk k
instance (k : Kn) : Decidable (LocOk k) := by unfold LocOk; infer_instance
/-- The first m indices to which the knot i leads come behind it, and lie within n. -/
def NxTo (n i : Nat) (k : Kn) (m : Nat) : Prop := ∀ t, t < m → (i : Int) < k.ns.getD t 0 ∧ k.ns.getD t 0 < (n : Int)
instance (n i : Nat) (k : Kn) (m : Nat) : Decidable (NxTo n i k m) := by unfold NxTo; infer_instance
theorem nxTo_next {n i : Nat} {k : Kn} {m : Nat} (h : NxTo n i k m) (hk : (i : Int) < k.ns.getD m 0 ∧ k.ns.getD m 0 < (n : Int)) : NxTo n i k (m + 1) := fun t ht => by
  by_cases e : t = m
  · subst e; exact hk
  · exact h t (by omega)

/-! ### Those that are reached -/
/-- All indices to which the first i knots lead. -/
def nx (ks : List Kn) (i : Nat) : List Int := (ks.take i).flatMap Kn.ns
/-- .. and the first t of the knot i. -/
def nxt (ks : List Kn) (i t : Nat) : List Int := nx ks i ++ (knAt ks i).ns.take t
theorem nx_zero (ks : List Kn) : nx ks 0 = [] := rfl
theorem nxt_zero (ks : List Kn) (i : Nat) : nxt ks i 0 = nx ks i := by unfold nxt; simp
theorem take_next {ks : List Kn} {i : Nat} (h : i < ks.length) : ks.take (i + 1) = ks.take i ++ [knAt ks i] := by
  rw [List.take_add_one, List.getElem?_eq_getElem h]
  simp [knAt, List.getD, h]
theorem nx_next {ks : List Kn} {i : Nat} (h : i < ks.length) : nx ks (i + 1) = nx ks i ++ (knAt ks i).ns := by
  unfold nx; rw [take_next h, List.flatMap_append]; simp
theorem nxt_all {ks : List Kn} {i : Nat} (h : i < ks.length) : nxt ks i (knAt ks i).ns.length = nx ks (i + 1) := by
  unfold nxt; rw [nx_next h, List.take_length]
theorem nxt_next {ks : List Kn} {i t : Nat} (h : t < (knAt ks i).ns.length) : nxt ks i (t + 1) = nxt ks i t ++ [(knAt ks i).ns.getD t 0] := by
  unfold nxt; rw [List.take_add_one, List.getElem?_eq_getElem h]
  simp [List.getD, h]
theorem nx_more (ks : List Kn) : ∀ (d i : Nat), ∃ r, nx ks (i + d) = nx ks i ++ r
  | 0, i => ⟨[], by simp⟩
  | d + 1, i => by
    obtain ⟨r, hr⟩ := nx_more ks d i
    by_cases h : i + d < ks.length
    · exact ⟨r ++ (knAt ks (i + d)).ns, by rw [← Nat.add_assoc, nx_next h, hr, List.append_assoc]⟩
    · refine ⟨r, ?_⟩
      rw [← hr]
      unfold nx
      rw [List.take_of_length_le (by omega), List.take_of_length_le (by omega)]
theorem nxt_more {ks : List Kn} {i t : Nat} (h : i < ks.length) : ∃ r, nx ks ks.length = nxt ks i t ++ r := by
  obtain ⟨r, hr⟩ := nx_more ks (ks.length - (i + 1)) (i + 1)
  rw [show i + 1 + (ks.length - (i + 1)) = ks.length by omega, nx_next h] at hr
  refine ⟨(knAt ks i).ns.drop t ++ r, ?_⟩
  unfold nxt
  rw [hr, List.append_assoc, List.append_assoc, ← List.append_assoc ((knAt ks i).ns.take t), List.take_append_drop]

/-! ### A tree -/
def TreeOk (ks : List Kn) : Prop := 1 ≤ ks.length ∧ ks.length ≤ 120 ∧ (∀ i, i < ks.length → LocOk (knAt ks i) ∧ NxTo ks.length i (knAt ks i) (knAt ks i).ns.length) ∧ ∀ j : Nat, j < ks.length → 1 ≤ j → (nx ks ks.length).count (j : Int) = 1
instance (ks : List Kn) : Decidable (TreeOk ks) := by unfold TreeOk; infer_instance
def treeOk (ks : List Kn) : Bool := decide (TreeOk ks)
/-- The first i knots are right by themselves, and lead to later ones alone. -/
def TrTo (ks : List Kn) (i : Nat) : Prop := ∀ j, j < i → LocOk (knAt ks j) ∧ NxTo ks.length j (knAt ks j) (knAt ks j).ns.length
theorem trTo_next {ks : List Kn} {i : Nat} (h : TrTo ks i) (k : LocOk (knAt ks i) ∧ NxTo ks.length i (knAt ks i) (knAt ks i).ns.length) : TrTo ks (i + 1) := fun j hj => by
  by_cases e : j = i
  · subst e; exact k
  · exact h j (by omega)

/-- All indices that are reached so far lie behind 0 and within n. -/
def InN (n : Nat) (L : List Int) : Prop := ∀ x ∈ L, (1 : Int) ≤ x ∧ x < (n : Int)
theorem inN_nx {ks : List Kn} : ∀ {i : Nat}, i ≤ ks.length → TrTo ks i → InN ks.length (nx ks i)
  | 0, _, _ => fun x hx => by rw [nx_zero] at hx; cases hx
  | i + 1, hi, h => fun x hx => by
    rw [nx_next (by omega)] at hx
    rcases List.mem_append.1 hx with hx | hx
    · exact inN_nx (i := i) (by omega) (fun j hj => h j (by omega)) x hx
    · obtain ⟨t, ht, rfl⟩ := List.getElem_of_mem hx
      have := (h i (Nat.lt_succ_self i)).2 t ht
      simp [List.getD, ht] at this
      omega

/-- No index is reached twice. -/
def Once (L : List Int) : Prop := ∀ x, L.count x ≤ 1
theorem once_nil : Once [] := fun x => by simp
theorem once_next {L : List Int} {x : Int} (h : Once L) (hx : L.count x = 0) : Once (L ++ [x]) := fun y => by
  rw [List.count_append, List.count_singleton]
  by_cases e : x = y
  · subst e; rw [hx]; simp
  · have := h y
    simp [e]
    omega
theorem count_app (L r : List Int) (x : Int) : L.count x ≤ (L ++ r).count x := by rw [List.count_append]; omega
theorem twice {L : List Int} {x : Int} (hx : 0 < L.count x) : 2 ≤ (L ++ [x]).count x := by
  rw [List.count_append, List.count_singleton, if_pos (by simp)]; omega

/-! ### Sums -/
def sumc (c : Nat → Nat) : Nat → Nat
  | 0 => 0
  | m + 1 => sumc c m + c m
theorem sumc_add (c d : Nat → Nat) : ∀ m, sumc (fun j => c j + d j) m = sumc c m + sumc d m
  | 0 => rfl
  | m + 1 => by simp only [sumc]; rw [sumc_add c d m]; omega
theorem sumc_zero : ∀ m, sumc (fun _ => 0) m = 0
  | 0 => rfl
  | m + 1 => by simp only [sumc]; rw [sumc_zero m]
theorem sumc_le {c : Nat → Nat} : ∀ {m : Nat}, (∀ j, j < m → c j ≤ 1) → sumc c m ≤ m
  | 0, _ => Nat.le_refl _
  | m + 1, h => by
    simp only [sumc]
    have := sumc_le (m := m) (fun j hj => h j (by omega))
    have := h m (Nat.lt_succ_self m)
    omega
theorem sumc_one {c : Nat → Nat} : ∀ {m : Nat}, (∀ j, j < m → c j ≤ 1) → sumc c m = m → ∀ j, j < m → c j = 1
  | 0, _, _, j, hj => absurd hj (Nat.not_lt_zero _)
  | m + 1, h, hs, j, hj => by
    have h1 := sumc_le (c := c) (m := m) (fun j hj => h j (by omega))
    have h2 := h m (Nat.lt_succ_self m)
    simp only [sumc] at hs
    by_cases e : j = m
    · subst e; omega
    · exact sumc_one (m := m) (fun j hj => h j (by omega)) (by omega) j (by omega)
theorem sumc_eq {c d : Nat → Nat} : ∀ {m : Nat}, (∀ j, j < m → c j = d j) → sumc c m = sumc d m
  | 0, _ => rfl
  | m + 1, h => by simp only [sumc]; rw [sumc_eq (m := m) (fun j hj => h j (by omega)), h m (Nat.lt_succ_self m)]
theorem sumc_ones : ∀ m, sumc (fun _ => 1) m = m
  | 0 => rfl
  | m + 1 => by simp only [sumc]; rw [sumc_ones m]
theorem sumc_hit (k : Nat) : ∀ m, sumc (fun j => if j = k then 1 else 0) m = if k < m then 1 else 0
  | 0 => by simp [sumc]
  | m + 1 => by
    simp only [sumc]
    rw [sumc_hit k m]
    by_cases e : m = k
    · subst e; simp
    · by_cases h : k < m
      · rw [if_pos h, if_neg e, if_pos (by omega)]
      · rw [if_neg h, if_neg e, if_neg (by omega)]
/-- The counts of all indices behind 0 add up to the number of things. -/
theorem sumc_len {n : Nat} : ∀ {L : List Int}, InN (n + 1) L → sumc (fun j => L.count ((j : Int) + 1)) n = L.length
  | [], _ => by simp [sumc_zero]
  | x :: L, h => by
    have ih := sumc_len (n := n) (L := L) (fun y hy => h y (List.mem_cons_of_mem _ hy))
    obtain ⟨h1, h2⟩ := h x (List.mem_cons_self ..)
    have e : ∀ j : Nat, (x :: L).count ((j : Int) + 1) = L.count ((j : Int) + 1) + (if j = (x - 1).toNat then 1 else 0) := fun j => by
      rw [List.count_cons]
      by_cases hj : j = (x - 1).toNat
      · rw [if_pos hj, if_pos (by simp; omega)]
      · rw [if_neg hj, if_neg (by simp; omega)]
    rw [sumc_eq (d := fun j => L.count ((j : Int) + 1) + (if j = (x - 1).toNat then 1 else 0)) (fun j _ => e j), sumc_add (fun j => L.count ((j : Int) + 1)), ih, sumc_hit, if_pos (by omega)]
    simp

theorem once_all {n : Nat} {L : List Int} (h : InN (n + 1) L) (ho : Once L) (hl : L.length = n) (j : Nat) (hj : j < n + 1) (h1 : 1 ≤ j) : L.count (j : Int) = 1 := by
  have := sumc_one (c := fun j => L.count ((j : Int) + 1)) (m := n) (fun j _ => ho _) (by rw [sumc_len h, hl]) (j - 1) (by omega)
  rwa [show ((j - 1 : Nat) : Int) + 1 = (j : Int) by omega] at this
theorem all_len {n : Nat} {L : List Int} (h : InN (n + 1) L) (ha : ∀ j : Nat, j < n + 1 → 1 ≤ j → L.count (j : Int) = 1) : L.length = n := by
  rw [← sumc_len h, sumc_eq (d := fun _ => 1) (fun j hj => by have := ha (j + 1) (by omega) (by omega); simpa using this), sumc_ones]

/-! ### What each side finds -/
theorem tree_len {ks : List Kn} (h : ¬ (1 ≤ ks.length ∧ ks.length ≤ 120)) : treeOk ks = false := decide_eq_false fun t => h ⟨t.1, t.2.1⟩
theorem tree_loc {ks : List Kn} {i : Nat} (hi : i < ks.length) (h : ¬ LocOk (knAt ks i)) : treeOk ks = false := decide_eq_false fun t => h (t.2.2.1 i hi).1
theorem tree_nxt {ks : List Kn} {i t : Nat} (hi : i < ks.length) (ht : t < (knAt ks i).ns.length) (h : ¬ ((i : Int) < (knAt ks i).ns.getD t 0 ∧ (knAt ks i).ns.getD t 0 < (ks.length : Int))) : treeOk ks = false :=
  decide_eq_false fun T => h ((T.2.2.1 i hi).2 t ht)
theorem tree_twice {ks : List Kn} {i t : Nat} (hi : i < ks.length) (ht : t < (knAt ks i).ns.length) (hx : (i : Int) < (knAt ks i).ns.getD t 0 ∧ (knAt ks i).ns.getD t 0 < (ks.length : Int)) (h : 0 < (nxt ks i t).count ((knAt ks i).ns.getD t 0)) : treeOk ks = false :=
  decide_eq_false fun T => by
    obtain ⟨r, hr⟩ := nxt_more (ks := ks) (i := i) (t := t + 1) hi
    have h2 := T.2.2.2 ((knAt ks i).ns.getD t 0).toNat (by omega) (by omega)
    rw [show (((knAt ks i).ns.getD t 0).toNat : Int) = (knAt ks i).ns.getD t 0 by omega] at h2
    rw [hr, nxt_next ht] at h2
    have h3 := twice h
    have h4 := count_app (nxt ks i t ++ [(knAt ks i).ns.getD t 0]) r ((knAt ks i).ns.getD t 0)
    omega
theorem tree_end {ks : List Kn} (h1 : 1 ≤ ks.length) (h2 : ks.length ≤ 120) (h : TrTo ks ks.length) (ho : Once (nx ks ks.length)) : treeOk ks = decide ((nx ks ks.length).length + 1 = ks.length) := by
  obtain ⟨n, hn⟩ : ∃ n, ks.length = n + 1 := ⟨ks.length - 1, by omega⟩
  have hI := inN_nx (Nat.le_refl _) h
  by_cases e : (nx ks ks.length).length + 1 = ks.length
  · rw [decide_eq_true e]
    refine decide_eq_true ⟨h1, h2, h, fun j hj hj1 => ?_⟩
    rw [hn] at hI hj e ho ⊢
    exact once_all hI ho (by omega) j hj hj1
  · rw [decide_eq_false e]
    refine decide_eq_false fun t => e ?_
    have ha := t.2.2.2
    rw [hn] at hI ha ⊢
    rw [all_len hI ha]
theorem tree_count {ks : List Kn} (h1 : 1 ≤ ks.length) (h2 : ks.length ≤ 120) (h : TrTo ks ks.length) (ha : ∀ j : Nat, j < ks.length → 1 ≤ j → (nx ks ks.length).count (j : Int) = 1) : treeOk ks = true := decide_eq_true ⟨h1, h2, h, ha⟩
theorem tree_nocount {ks : List Kn} {j : Nat} (hj : j < ks.length) (h1 : 1 ≤ j) (h : ¬ (nx ks ks.length).count (j : Int) = 1) : treeOk ks = false := decide_eq_false fun t => h (t.2.2.2 j hj h1)
theorem count_none {ks : List Kn} (h : TrTo ks ks.length) : (nx ks ks.length).count ((0 : Nat) : Int) = 0 := by
  rw [List.count_eq_zero]
  intro hm
  have := inN_nx (Nat.le_refl _) h _ hm
  omega
end Go.Proofs.YtppjmngnjdeigaaDoor
