/- Mathematics of the way through a tree. No program. -/
import Derived.Test.YtppjmngnjdeigaaDoorVtP
namespace Go.Proofs.YtppjmngnjdeigaaDoor
open Go.ChangeShapes Go.WideShapes Go.ChangeAt Go.RowKit

/-- The place of a number among the first n. -/
def fndN (vs : List Int) (x : Int) : Nat → Option Nat
  | 0 => none
  | n + 1 => match fndN vs x n with
    | some i => some i
    | none => if vs.getD n 0 = x then some n else none
def fnd (vs : List Int) (x : Int) : Option Nat := fndN vs x vs.length
theorem fndN_some {vs : List Int} {x : Int} : ∀ {n i : Nat}, fndN vs x n = some i → i < n ∧ vs.getD i 0 = x
  | 0, i, h => by rw [fndN] at h; cases h
  | n + 1, i, h => by
    rw [fndN] at h
    cases hn : fndN vs x n with
    | some j =>
      rw [hn] at h
      have h := Option.some.inj h
      subst h
      have := fndN_some hn
      exact ⟨by omega, this.2⟩
    | none =>
      rw [hn] at h
      simp only at h
      split at h
      · rename_i hx
        have h := Option.some.inj h
        subst h
        exact ⟨by omega, hx⟩
      · cases h
theorem fndN_none {vs : List Int} {x : Int} : ∀ {n : Nat}, fndN vs x n = none ↔ ∀ i, i < n → vs.getD i 0 ≠ x
  | 0 => ⟨fun _ i hi => absurd hi (Nat.not_lt_zero _), fun _ => rfl⟩
  | n + 1 => by
    rw [fndN]
    cases hn : fndN vs x n with
    | some j =>
      have := fndN_some hn
      exact ⟨fun h => (by cases h), fun h => absurd this.2 (h j (by omega))⟩
    | none =>
      have ih := fndN_none.1 hn
      simp only
      split
      · rename_i hx
        exact ⟨fun h => (by cases h), fun h => absurd hx (h n (by omega))⟩
      · rename_i hx
        refine ⟨fun _ i hi => ?_, fun _ => rfl⟩
        by_cases e : i = n
        · subst e; exact hx
        · exact ih i (by omega)
theorem fndN_hit {vs : List Int} {x : Int} {n m : Nat} (h0 : fndN vs x n = none) (hx : vs.getD n 0 = x) (hm : n < m) : fndN vs x m = some n := by
  induction m with
  | zero => exact absurd hm (Nat.not_lt_zero _)
  | succ m ih =>
    rw [fndN]
    by_cases e : n = m
    · subst e; rw [h0]; simp only [if_pos hx]
    · rw [ih (by omega)]
theorem fndN_next {vs : List Int} {x : Int} {n : Nat} (h0 : fndN vs x n = none) (hx : vs.getD n 0 ≠ x) : fndN vs x (n + 1) = none := by
  rw [fndN, h0]; simp only [if_neg hx]
theorem val_lt {vs : List Int} (h : ValTo vs vs.length) : ∀ {i j : Nat}, i < j → j < vs.length → vs.getD i 0 < vs.getD j 0
  | i, 0, hij, _ => absurd hij (Nat.not_lt_zero _)
  | i, j + 1, hij, hj => by
    have h1 := (h (j + 1) hj).2 (by omega)
    rw [show j + 1 - 1 = j by omega] at h1
    by_cases e : i = j
    · subst e; exact h1
    · have := val_lt h (i := i) (j := j) (by omega) (by omega)
      omega
theorem val_le {vs : List Int} (h : ValTo vs vs.length) {i j : Nat} (hij : i ≤ j) (hj : j < vs.length) : vs.getD i 0 ≤ vs.getD j 0 := by
  by_cases e : i = j
  · subst e; exact Int.le_refl _
  · have := val_lt h (i := i) (j := j) (by omega) hj
    omega
/-- Where a search by halves ends. -/
def SrTo (vs : List Int) (x : Int) (i j : Nat) : Prop := i ≤ j ∧ j ≤ vs.length ∧ (∀ t, t < i → vs.getD t 0 < x) ∧ (∀ t, j ≤ t → t < vs.length → x ≤ vs.getD t 0)
theorem sr_start (vs : List Int) (x : Int) : SrTo vs x 0 vs.length := ⟨Nat.zero_le _, Nat.le_refl _, fun t ht => absurd ht (Nat.not_lt_zero _), fun t h1 h2 => by omega⟩
theorem sr_up {vs : List Int} (hv : ValTo vs vs.length) {x : Int} {i j h : Nat} (H : SrTo vs x i j) (_h1 : i ≤ h) (h2 : h < j) (hx : vs.getD h 0 < x) : SrTo vs x (h + 1) j := by
  obtain ⟨_, b, c, d⟩ := H
  refine ⟨by omega, b, fun t ht => ?_, d⟩
  have := val_le hv (i := t) (j := h) (by omega) (by omega)
  omega
theorem sr_down {vs : List Int} (hv : ValTo vs vs.length) {x : Int} {i j h : Nat} (H : SrTo vs x i j) (h1 : i ≤ h) (h2 : h < j) (hx : ¬ vs.getD h 0 < x) : SrTo vs x i h := by
  obtain ⟨_, b, c, d⟩ := H
  refine ⟨by omega, by omega, c, fun t ht hl => ?_⟩
  have := val_le hv (i := h) (j := t) ht hl
  omega
theorem sr_in {vs : List Int} {x : Int} {i : Nat} (H : SrTo vs x i i) (hi : i < vs.length) (hx : vs.getD i 0 = x) : fnd vs x = some i := by
  refine fndN_hit (fndN_none.2 fun t ht => ?_) hx hi
  have := H.2.2.1 t ht
  omega
theorem sr_not {vs : List Int} (hv : ValTo vs vs.length) {x : Int} {i : Nat} (H : SrTo vs x i i) (hi : i < vs.length) (hx : vs.getD i 0 ≠ x) : fnd vs x = none := by
  refine fndN_none.2 fun t ht => ?_
  by_cases e : t < i
  · have := H.2.2.1 t e; omega
  · have h1 := H.2.2.2 i (Nat.le_refl _) hi
    have h2 := val_le hv (i := i) (j := t) (by omega) ht
    omega
theorem sr_out {vs : List Int} {x : Int} {i : Nat} (H : SrTo vs x i i) (hi : ¬ i < vs.length) : fnd vs x = none := by
  refine fndN_none.2 fun t ht => ?_
  have := H.2.2.1 t (by omega)
  omega

/-- How many of the first n are less. -/
def lowN (vs : List Int) (x : Int) : Nat → Nat
  | 0 => 0
  | n + 1 => lowN vs x n + if vs.getD n 0 < x then 1 else 0
theorem low_at {vs : List Int} {x : Int} {i : Nat} (H : SrTo vs x i i) : ∀ n, n ≤ vs.length → lowN vs x n = min n i
  | 0, _ => by rw [lowN]; omega
  | n + 1, hn => by
    rw [lowN, low_at H n (by omega)]
    by_cases e : n < i
    · rw [if_pos (H.2.2.1 n e)]; omega
    · rw [if_neg (by have := H.2.2.2 n (by omega) (by omega); omega)]; omega
theorem low_end {vs : List Int} {x : Int} {i : Nat} (H : SrTo vs x i i) : lowN vs x vs.length = i := by
  rw [low_at H _ (Nat.le_refl _)]
  have := H.2.1
  omega
theorem low_fnd {vs : List Int} (hv : ValTo vs vs.length) {x : Int} {i : Nat} (h : fnd vs x = some i) : lowN vs x vs.length = i := by
  obtain ⟨h1, h2⟩ := fndN_some h
  refine low_end ⟨Nat.le_refl _, by omega, fun t ht => ?_, fun t h3 h4 => ?_⟩
  · have := val_lt hv ht h1; omega
  · have := val_le hv h3 h4; omega

/-- What a knot says of some values. -/
inductive Stp where
  | leaf
  | bad (c : Int)
  | go (b : Nat)
def stp (k : Kn) (vals : List Int) : Stp := if k.f = -1 then .leaf else if vals.length ≤ k.f.toNat then .bad 2 else match fnd k.vs (vals.getD k.f.toNat 0) with
  | none => .bad 6
  | some i => .go (k.ns.getD i 0).toNat
/-- The way from a knot on: the code, the leaf and the questions. -/
def wkF (ks : List Kn) (vals : List Int) : Nat → Nat → Nat → Int × Nat × Nat
  | 0, _, _ => (0, 0, 0)
  | n + 1, a, q => match stp (knAt ks a) vals with
    | .leaf => (0, a, q)
    | .bad c => (c, 0, 0)
    | .go b => wkF ks vals n b (q + 1)
def wk (ks : List Kn) (vals : List Int) : Int × Nat × Nat := wkF ks vals 120 0 0
theorem wk_leaf {ks : List Kn} {vals : List Int} {n a q : Nat} (h : stp (knAt ks a) vals = .leaf) : wkF ks vals (n + 1) a q = (0, a, q) := by rw [wkF, h]
theorem wk_bad {ks : List Kn} {vals : List Int} {n a q : Nat} {c : Int} (h : stp (knAt ks a) vals = .bad c) : wkF ks vals (n + 1) a q = (c, 0, 0) := by rw [wkF, h]
theorem wk_go {ks : List Kn} {vals : List Int} {n a q b : Nat} (h : stp (knAt ks a) vals = .go b) : wkF ks vals (n + 1) a q = wkF ks vals n b (q + 1) := by rw [wkF, h]
/-- On the way: after q questions, at the knot a. -/
def OnWay (ks : List Kn) (vals : List Int) (a q : Nat) : Prop := a < ks.length ∧ q ≤ a ∧ q < 120 ∧ wk ks vals = wkF ks vals (120 - q) a q
theorem onWay_start {ks : List Kn} (T : TreeOk ks) (vals : List Int) : OnWay ks vals 0 0 := ⟨T.1, Nat.le_refl _, by decide, rfl⟩
theorem onWay_leaf {ks : List Kn} {vals : List Int} {a q : Nat} (H : OnWay ks vals a q) (h : stp (knAt ks a) vals = .leaf) : wk ks vals = (0, a, q) := by
  obtain ⟨_, _, h3, h4⟩ := H
  rw [h4, show 120 - q = (119 - q) + 1 by omega, wk_leaf h]
theorem onWay_bad {ks : List Kn} {vals : List Int} {a q : Nat} {c : Int} (H : OnWay ks vals a q) (h : stp (knAt ks a) vals = .bad c) : wk ks vals = (c, 0, 0) := by
  obtain ⟨_, _, h3, h4⟩ := H
  rw [h4, show 120 - q = (119 - q) + 1 by omega, wk_bad h]
theorem onWay_go {ks : List Kn} (T : TreeOk ks) {vals : List Int} {a q b : Nat} (H : OnWay ks vals a q) (h : stp (knAt ks a) vals = .go b) (hb : a < b ∧ b < ks.length) : OnWay ks vals b (q + 1) := by
  obtain ⟨h1, h2, h3, h4⟩ := H
  have hl := T.2.1
  refine ⟨hb.2, by omega, by omega, ?_⟩
  rw [h4, show 120 - q = (120 - (q + 1)) + 1 by omega, wk_go h]
/-- A question's facts. -/
theorem ask_of {ks : List Kn} (T : TreeOk ks) {a : Nat} (ha : a < ks.length) (hf : (knAt ks a).f ≠ -1) : AskOk (knAt ks a) := by
  have h := (T.2.2.1 a ha).1
  unfold LocOk at h
  rwa [if_neg hf] at h
theorem next_of {ks : List Kn} (T : TreeOk ks) {a : Nat} (ha : a < ks.length) {t : Nat} (ht : t < (knAt ks a).ns.length) : (a : Int) < (knAt ks a).ns.getD t 0 ∧ (knAt ks a).ns.getD t 0 < (ks.length : Int) := (T.2.2.1 a ha).2 t ht
theorem stp_leaf {k : Kn} (vals : List Int) (h : k.f = -1) : stp k vals = .leaf := by unfold stp; rw [if_pos h]
theorem stp_far {k : Kn} {vals : List Int} (h : k.f ≠ -1) (hl : vals.length ≤ k.f.toNat) : stp k vals = .bad 2 := by unfold stp; rw [if_neg h, if_pos hl]
theorem stp_no {k : Kn} {vals : List Int} (h : k.f ≠ -1) (hl : ¬ vals.length ≤ k.f.toNat) (hf : fnd k.vs (vals.getD k.f.toNat 0) = none) : stp k vals = .bad 6 := by unfold stp; rw [if_neg h, if_neg hl, hf]
theorem stp_go {k : Kn} {vals : List Int} {i : Nat} (h : k.f ≠ -1) (hl : ¬ vals.length ≤ k.f.toNat) (hf : fnd k.vs (vals.getD k.f.toNat 0) = some i) : stp k vals = .go (k.ns.getD i 0).toNat := by unfold stp; rw [if_neg h, if_neg hl, hf]
end Go.Proofs.YtppjmngnjdeigaaDoor
