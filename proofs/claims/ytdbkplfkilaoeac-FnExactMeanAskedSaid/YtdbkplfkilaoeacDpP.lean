/- A valid tree: how deep its knots lie, and those that are come to one after the other. -/
import Derived.Test.YtdbkplfkilaoeacVtP
namespace Go.Proofs.Ytdbkplfkilaoeac
open Go.ChangeShapes Go.WideShapes Go.ChangeAt Go.RowKit

/-! ### Sums over all knots -/
theorem count_nx (ks : List Kn) (x : Int) : ∀ n, n ≤ ks.length → (nx ks n).count x = sumc (fun i => (knAt ks i).ns.count x) n
  | 0, _ => by rw [nx_zero]; rfl
  | n + 1, h => by
    rw [nx_next (by omega), List.count_append, count_nx ks x n (by omega)]
    rfl
theorem sumc_ge {c : Nat → Nat} {i : Nat} : ∀ {n : Nat}, i < n → c i ≤ sumc c n
  | 0, h => absurd h (Nat.not_lt_zero _)
  | n + 1, h => by
    simp only [sumc]
    by_cases e : i = n
    · subst e; omega
    · have := sumc_ge (c := c) (i := i) (n := n) (by omega)
      omega
theorem sumc_two {c : Nat → Nat} {i j : Nat} (hij : i < j) : ∀ {n : Nat}, j < n → c i + c j ≤ sumc c n
  | 0, h => absurd h (Nat.not_lt_zero _)
  | n + 1, h => by
    simp only [sumc]
    by_cases e : j = n
    · subst e
      have := sumc_ge (c := c) (i := i) (n := j) hij
      omega
    · have := sumc_two (c := c) hij (n := n) (by omega)
      omega
theorem sumc_mono {c d : Nat → Nat} : ∀ {n : Nat}, (∀ i, i < n → c i ≤ d i) → sumc c n ≤ sumc d n
  | 0, _ => Nat.le_refl _
  | n + 1, h => by
    simp only [sumc]
    have := sumc_mono (c := c) (d := d) (n := n) (fun i hi => h i (by omega))
    have := h n (Nat.lt_succ_self n)
    omega
/-- A sum over a list of indices. -/
theorem sum_list (c : Nat → Nat) (n : Nat) : ∀ (P : List Nat), (∀ p ∈ P, p < n) → (P.map c).sum = sumc (fun i => P.count i * c i) n
  | [], _ => by simp [sumc_zero]
  | p :: P, h => by
    have ih := sum_list c n P (fun q hq => h q (List.mem_cons_of_mem _ hq))
    have hp := h p (List.mem_cons_self ..)
    have e : sumc (fun i => (p :: P).count i * c i) n = sumc (fun i => (if i = p then c p else 0) + P.count i * c i) n := sumc_eq fun i _ => by
      rw [List.count_cons]
      by_cases e : i = p
      · subst e; simp [Nat.add_mul]; omega
      · rw [if_neg e, if_neg (by simp; omega)]; simp
    rw [List.map_cons, List.sum_cons, ih, e, sumc_add (fun i => if i = p then c p else 0)]
    congr 1
    have : ∀ m, sumc (fun i => if i = p then c p else 0) m = if p < m then c p else 0 := fun m => by
      induction m with
      | zero => simp [sumc]
      | succ m ih =>
        simp only [sumc]
        rw [ih]
        by_cases e : m = p
        · subst e; simp
        · by_cases hl : p < m
          · rw [if_pos hl, if_neg e, if_pos (by omega)]; rfl
          · rw [if_neg hl, if_neg e, if_neg (by omega)]
    rw [this, if_pos hp]

/-! ### Depths -/
/-- The first knot that leads to one. -/
def par (ks : List Kn) (j : Nat) : Option Nat := (List.range j).find? fun i => (knAt ks i).ns.contains (j : Int)
theorem par_lt {ks : List Kn} {j i : Nat} (h : par ks j = some i) : i < j := by
  have := List.mem_of_find?_eq_some h
  simpa using this
theorem par_in {ks : List Kn} {j i : Nat} (h : par ks j = some i) : (j : Int) ∈ (knAt ks i).ns := by
  have := List.find?_some h
  simpa using this
def dep (ks : List Kn) (j : Nat) : Nat := match h : par ks j with
  | none => 0
  | some i => dep ks i + 1
termination_by j
decreasing_by exact par_lt h
theorem dep_none {ks : List Kn} {j : Nat} (h : par ks j = none) : dep ks j = 0 := by
  rw [dep]; split
  · rfl
  · rename_i i hi; rw [h] at hi; cases hi
theorem dep_some {ks : List Kn} {j i : Nat} (h : par ks j = some i) : dep ks j = dep ks i + 1 := by
  rw [dep]; split
  · rename_i hi; rw [h] at hi; cases hi
  · rename_i i' hi; rw [h] at hi; cases hi; rfl
theorem dep_zero (ks : List Kn) : dep ks 0 = 0 := dep_none rfl
theorem dep_le (ks : List Kn) : ∀ (m j : Nat), j < m → dep ks j ≤ j
  | 0, _, h => absurd h (Nat.not_lt_zero _)
  | m + 1, j, h => by
    cases hp : par ks j with
    | none => rw [dep_none hp]; omega
    | some i =>
      have := par_lt hp
      have := dep_le ks m i (by omega)
      rw [dep_some hp]
      omega

section
variable {ks : List Kn} (T : TreeOk ks)
include T

theorem tr_all : TrTo ks ks.length := T.2.2.1
theorem one_par {i j : Nat} {x : Int} (hi : i < ks.length) (hj : j < ks.length) (h1 : x ∈ (knAt ks i).ns) (h2 : x ∈ (knAt ks j).ns) : i = j := by
  have hx : (nx ks ks.length).count x ≤ 1 := by
    obtain ⟨t, ht, rfl⟩ := List.getElem_of_mem h1
    have := (T.2.2.1 i hi).2 t ht
    rw [List.getD, List.getElem?_eq_getElem ht, Option.getD_some] at this
    have hc := T.2.2.2 ((knAt ks i).ns[t]).toNat (by omega) (by omega)
    rw [show (((knAt ks i).ns[t]).toNat : Int) = (knAt ks i).ns[t] by omega] at hc
    omega
  rw [count_nx ks x ks.length (Nat.le_refl _)] at hx
  have c1 : 0 < (knAt ks i).ns.count x := List.count_pos_iff.2 h1
  have c2 : 0 < (knAt ks j).ns.count x := List.count_pos_iff.2 h2
  rcases Nat.lt_trichotomy i j with h | h | h
  · have := sumc_two (c := fun i => (knAt ks i).ns.count x) h hj
    omega
  · exact h
  · have := sumc_two (c := fun i => (knAt ks i).ns.count x) h hi
    omega
theorem nx_in {i : Nat} {x : Int} (hi : i < ks.length) (h : x ∈ (knAt ks i).ns) : (i : Int) < x ∧ x < (ks.length : Int) := by
  obtain ⟨t, ht, rfl⟩ := List.getElem_of_mem h
  have := (T.2.2.1 i hi).2 t ht
  rwa [List.getD, List.getElem?_eq_getElem ht, Option.getD_some] at this
theorem dep_next {i j : Nat} (hi : i < ks.length) (h : (j : Int) ∈ (knAt ks i).ns) : dep ks j = dep ks i + 1 := by
  have hb := nx_in T hi h
  cases hp : par ks j with
  | none =>
    have := List.find?_eq_none.1 hp i (by simp; omega)
    simp at this
    exact absurd h this
  | some i' =>
    have := one_par T (i := i') (j := i) (by have := par_lt hp; omega) hi (par_in hp) h
    rw [dep_some hp, this]
/-- A knot that is not the first one is reached by those ahead of it. -/
theorem nx_before {j : Nat} (hj : j < ks.length) (h1 : 1 ≤ j) : (nx ks j).count (j : Int) = 1 := by
  have hc := T.2.2.2 j hj h1
  have key : ∀ d, j + d ≤ ks.length → (nx ks (j + d)).count (j : Int) = (nx ks j).count (j : Int) := fun d => by
    induction d with
    | zero => intro _; rfl
    | succ d ih =>
      intro h
      have z : (knAt ks (j + d)).ns.count (j : Int) = 0 := List.count_eq_zero.2 fun hm => by
        have := nx_in T (i := j + d) (by omega) hm; omega
      rw [← Nat.add_assoc, nx_next (by omega), List.count_append, ih (by omega), z]
      rfl
  have := key (ks.length - j) (by omega)
  rw [show j + (ks.length - j) = ks.length by omega] at this
  omega

/-! ### Those that one comes to -/
/-- The indices to which a knot leads. -/
theorem kids_nat {i : Nat} (hi : i < ks.length) : ((knAt ks i).ns.map Int.toNat).map (fun j : Nat => (j : Int)) = (knAt ks i).ns := by
  rw [List.map_map]
  conv => rhs; rw [← List.map_id (knAt ks i).ns]
  refine List.map_congr_left fun x hx => ?_
  have := nx_in T hi hx
  simp
  omega
theorem kids_count {i : Nat} (hi : i < ks.length) (j : Nat) : ((knAt ks i).ns.map Int.toNat).count j = (knAt ks i).ns.count (j : Int) := by
  conv => rhs; rw [← kids_nat T hi]
  generalize (knAt ks i).ns.map Int.toNat = P
  induction P with
  | nil => rfl
  | cons p P ih =>
    rw [List.map_cons, List.count_cons, List.count_cons, ih]
    congr 1
    by_cases e : p = j
    · subst e; simp
    · rw [if_neg (by simpa using e), if_neg (by simp; omega)]
end

/-- The places after so many steps: first the knot 0, then those behind each one. -/
def kids (ks : List Kn) (i : Nat) : List Nat := (knAt ks i).ns.map Int.toNat
def bf (ks : List Kn) : Nat → List Nat
  | 0 => [0]
  | m + 1 => bf ks m ++ (match (bf ks m)[m]? with | some i => kids ks i | none => [])
/-- What one has come to is what those lead to from which one has gone on. -/
theorem bf_count (ks : List Kn) (j : Nat) : ∀ m, (∀ p, p < m → p < (bf ks p).length) → (bf ks m).count j = (if j = 0 then 1 else 0) + (((bf ks m).take m).map fun i => (kids ks i).count j).sum
  | 0, _ => by
    simp only [bf, List.take_zero, List.map_nil, List.sum_nil, Nat.add_zero, List.count_singleton]
    by_cases e : j = 0
    · subst e; simp
    · rw [if_neg (by simp; omega), if_neg e]
  | m + 1, h => by
    have ih := bf_count ks j m (fun p hp => h p (by omega))
    have hm := h m (Nat.lt_succ_self m)
    simp only [bf]
    rw [List.getElem?_eq_getElem hm]
    simp only
    rw [List.count_append, ih, List.take_append_of_le_length (by omega), List.take_add_one, List.getElem?_eq_getElem hm, List.map_append, List.sum_append]
    simp
    omega
theorem bf_step {ks : List Kn} {m i : Nat} (h : (bf ks m)[m]? = some i) : bf ks (m + 1) = bf ks m ++ kids ks i := by simp only [bf]; rw [h]
theorem len_count {n : Nat} {P : List Nat} (h : ∀ p ∈ P, p < n) (hc : ∀ j, P.count j ≤ 1) : P.length ≤ n := by
  have e := sum_list (fun _ => 1) n P h
  have : (P.map fun _ => 1).sum = P.length := by
    clear h hc e
    induction P with
    | nil => rfl
    | cons p P ih => rw [List.map_cons, List.sum_cons, ih, List.length_cons]; omega
  rw [← this, e]
  exact Nat.le_trans (sumc_mono (d := fun _ => 1) fun i _ => by have := hc i; omega) (by rw [sumc_ones]; exact Nat.le_refl _)

section
variable {ks : List Kn} (T : TreeOk ks)
include T

theorem kids_lt {i j : Nat} (hi : i < ks.length) (h : j ∈ kids ks i) : i < j ∧ j < ks.length := by
  obtain ⟨x, hx, rfl⟩ := List.mem_map.1 h
  have := nx_in T hi hx
  omega
theorem kids_dep {i j : Nat} (hi : i < ks.length) (h : j ∈ kids ks i) : dep ks j = dep ks i + 1 := by
  obtain ⟨x, hx, rfl⟩ := List.mem_map.1 h
  have := nx_in T hi hx
  exact dep_next T hi (by rw [show ((x.toNat : Nat) : Int) = x by omega]; exact hx)
theorem kids_sum (j : Nat) (hj : j < ks.length) : sumc (fun i => (kids ks i).count j) ks.length = if j = 0 then 0 else 1 := by
  have e : sumc (fun i => (kids ks i).count j) ks.length = (nx ks ks.length).count (j : Int) := by
    rw [count_nx ks (j : Int) ks.length (Nat.le_refl _)]
    exact sumc_eq fun i hi => kids_count T hi j
  rw [e]
  by_cases h : j = 0
  · subst h; rw [if_pos rfl]; exact count_none (tr_all T)
  · rw [if_neg h]; exact T.2.2.2 j hj (by omega)

def BfOk (ks : List Kn) (P : List Nat) : Prop := (∀ p ∈ P, p < ks.length) ∧ ∀ j, P.count j ≤ 1
theorem bf_ok : ∀ m, (∀ p, p < m → p < (bf ks p).length) → BfOk ks (bf ks m)
  | 0, _ => by
    refine ⟨fun p hp => ?_, fun j => ?_⟩
    · simp [bf] at hp; have := T.1; omega
    · simp only [bf, List.count_singleton]; split <;> omega
  | m + 1, h => by
    have ih := bf_ok m (fun p hp => h p (by omega))
    have hm := h m (Nat.lt_succ_self m)
    have hi : (bf ks m)[m] < ks.length := ih.1 _ (List.getElem_mem hm)
    have e := bf_step (List.getElem?_eq_getElem hm)
    refine ⟨fun p hp => ?_, fun j => ?_⟩
    · rw [e] at hp
      rcases List.mem_append.1 hp with hp | hp
      · exact ih.1 p hp
      · exact (kids_lt T hi hp).2
    · rw [bf_count ks j (m + 1) h]
      have e2 : (bf ks (m + 1)).take (m + 1) = (bf ks m).take (m + 1) := by rw [e, List.take_append_of_le_length (by omega)]
      rw [e2, sum_list (fun i => (kids ks i).count j) ks.length _ (fun p hp => ih.1 p (List.mem_of_mem_take hp))]
      have le : sumc (fun i => ((bf ks m).take (m + 1)).count i * (kids ks i).count j) ks.length ≤ sumc (fun i => (kids ks i).count j) ks.length := sumc_mono fun i _ => by
        have h1 : ((bf ks m).take (m + 1)).count i ≤ 1 := Nat.le_trans ((List.take_sublist _ _).count_le i) (ih.2 i)
        calc ((bf ks m).take (m + 1)).count i * (kids ks i).count j ≤ 1 * (kids ks i).count j := Nat.mul_le_mul_right _ h1
          _ = (kids ks i).count j := Nat.one_mul _
      by_cases hj : j < ks.length
      · rw [kids_sum T j hj] at le
        by_cases h0 : j = 0
        · rw [if_pos h0] at le ⊢; omega
        · rw [if_neg h0] at le ⊢; omega
      · have z : sumc (fun i => (kids ks i).count j) ks.length = sumc (fun _ => 0) ks.length := sumc_eq fun i hi => List.count_eq_zero.2 fun hm => hj (kids_lt T hi hm).2
        rw [z, sumc_zero] at le
        rw [if_neg (by have := T.1; omega)]
        omega
theorem bf_len {m : Nat} (h : ∀ p, p < m → p < (bf ks p).length) : (bf ks m).length ≤ ks.length := len_count (bf_ok T m h).1 (bf_ok T m h).2
/-- All steps are made: one has come to each knot once. -/
theorem bf_all {m : Nat} (h : ∀ p, p < m → p < (bf ks p).length) (hm : (bf ks m).length = m) : ∀ j, j < ks.length → (bf ks m).count j = 1 := by
  have key : ∀ d j, j < d → j < ks.length → (bf ks m).count j = 1 := fun d => by
    induction d with
    | zero => intro j hd; exact absurd hd (Nat.not_lt_zero _)
    | succ d ih =>
      intro j hd hj
      rw [bf_count ks j m h, List.take_of_length_le (by omega), sum_list (fun i => (kids ks i).count j) ks.length _ (bf_ok T m h).1]
      rw [sumc_eq (d := fun i => (kids ks i).count j) (fun i hi => by
        by_cases hk : (kids ks i).count j = 0
        · rw [hk]; simp
        · have := kids_lt T hi (List.count_pos_iff.1 (show 0 < (kids ks i).count j by omega))
          rw [ih i (by omega) hi, Nat.one_mul]), kids_sum T j hj]
      split <;> rfl
  exact fun j hj => key (j + 1) j (Nat.lt_succ_self j) hj
/-- .. so a sum over all that one has come to is one over all knots. -/
theorem bf_sum {m : Nat} (h : ∀ p, p < m → p < (bf ks p).length) (hm : (bf ks m).length = m) (c : Nat → Nat) : ((bf ks m).map c).sum = sumc c ks.length := by
  rw [sum_list c ks.length _ (bf_ok T m h).1]
  exact sumc_eq fun i hi => by rw [bf_all T h hm i hi, Nat.one_mul]
theorem bf_mem {m : Nat} (h : ∀ p, p < m → p < (bf ks p).length) (hm : (bf ks m).length = m) (j : Nat) : j ∈ bf ks m ↔ j < ks.length :=
  ⟨(bf_ok T m h).1 j, fun hj => List.count_pos_iff.1 (by rw [bf_all T h hm j hj]; exact Nat.one_pos)⟩
end

/-! ### The greatest of some numbers -/
def mxTo (c : Nat → Nat) : List Nat → Nat
  | [] => 0
  | p :: P => max (mxTo c P) (c p)
end Go.Proofs.Ytdbkplfkilaoeac
