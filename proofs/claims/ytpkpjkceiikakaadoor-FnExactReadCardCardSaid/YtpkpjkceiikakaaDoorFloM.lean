/- A region's law: quiet operations, then ones that hang on no world, a store that is waited for by none of these, moves behind it (no program). -/
import Derived.Test.YtpkpjkceiikakaaDoorFloat
namespace Go.Proofs.YtpkpjkceiikakaaDoor
open Go.ChangeShapes Go.WideShapes Go.ChangeAt Go.RowKit

/-- Operations that hang on no world, in the text's order; one whose guard says no is left out. -/
def wpPure (P : Program) (ops : Array Oper) (R : Act → Prop) : List Oper → Act → Prop
  | [], a => R a
  | o :: l, a => if Region.wanted o (yielded ops a.tmps) = true then ∃ v, PQ P o a v ∧ wpPure P ops R l (a.put o.dst v) else wpPure P ops R l (a.put o.dst undef)
theorem wpPure_skip {P : Program} {ops : Array Oper} {R : Act → Prop} {o : Oper} {l : List Oper} {a : Act} (h : Region.wanted o (yielded ops a.tmps) = false) (k : wpPure P ops R l (a.put o.dst undef)) : wpPure P ops R (o :: l) a := by
  unfold wpPure
  rw [if_neg (by rw [h]; decide)]
  exact k
theorem wpPure_do {P : Program} {ops : Array Oper} {R : Act → Prop} {o : Oper} {l : List Oper} {a : Act} (v : Value) (h : Region.wanted o (yielded ops a.tmps) = true) (hv : PQ P o a v) (k : wpPure P ops R l (a.put o.dst v)) : wpPure P ops R (o :: l) a := by
  unfold wpPure
  rw [if_pos h]
  exact ⟨v, hv, k⟩
theorem wpPure_nil {P : Program} {ops : Array Oper} {R : Act → Prop} {a : Act} (k : R a) : wpPure P ops R [] a := k
theorem lexW_pureW {P : Program} {ops : Array Oper} {W : World} {G : Type} {I : G → World → Prop} {early : G → Prop} {loud late pur : Nat → Bool} {Q : Act → G → Prop} {R : Act → Prop} {rest : List Oper} {g : G} : ∀ (l : List Oper) (k : Nat) (a : Act), (∀ j, j < l.length → l[j]? = ops[k + j]? ∧ pur (k + j) = true) →
    (∀ a, R a → lexW P ops W I early loud late pur Q rest (k + l.length) a g) → wpPure P ops R l a → lexW P ops W I early loud late pur Q (l ++ rest) k a g
  | [], k, a, _, h2, h => h2 a h
  | o :: l, k, a, hl, h2, h => by
    have h0 : ops[k]? = some o := by simpa using (hl 0 (by simp)).1.symm
    have hpk : pur k = true := by simpa using (hl 0 (by simp)).2
    have next : ∀ a', wpPure P ops R l a' → lexW P ops W I early loud late pur Q (l ++ rest) (k + 1) a' g := fun a' h' =>
      lexW_pureW l (k + 1) a' (fun j hj => by have := hl (j + 1) (by simp; omega); simpa [Nat.add_assoc, Nat.add_comm 1 j] using this) (fun a hR => by have := h2 a hR; simpa [Nat.add_assoc, Nat.add_comm 1 l.length] using this) h'
    unfold wpPure at h
    by_cases hw : Region.wanted o (yielded ops a.tmps) = true
    · rw [if_pos hw] at h
      obtain ⟨v, hv, hk⟩ := h
      refine fOp_of h0 (O := fun v' g' => v' = v ∧ g' = g) ?_ ?_
      · unfold Fam; rw [if_pos hw, if_pos hpk]; exact ⟨_, hv, rfl⟩
      · rintro v' g' ⟨rfl, rfl⟩
        exact next _ hk
    · rw [if_neg hw] at h
      refine fOp_of h0 (O := fun v' g' => v' = undef ∧ g' = g) ?_ ?_
      · unfold Fam; rw [if_neg hw]
      · rintro v' g' ⟨rfl, rfl⟩
        exact next _ h
/-- Every one ahead of number m is waited for by a later one ahead of m, or by number n. -/
def Region.sinksM (md : Region.Mode) (ops : Array Oper) (m n : Nat) : Bool :=
  (List.range m).all fun i => (List.range (n + 1)).any fun j => decide (i < j) && (decide (j < m) || j == n) && match ops[j]? with
    | some oj => oj.after.any fun e => Region.binds md e && e.on == i
    | none => false
theorem late_of_sinksM {md : Region.Mode} {ops : Array Oper} {m n : Nat} (hs : Region.sinksM md ops m n = true) (hmn : m ≤ n) (hn : n < ops.size) : Region.LateLast md ops (fun i => i == n) (fun i => decide (m ≤ i ∧ i ≠ n)) := by
  intro listed hcl
  have key : ∀ d i, n - i = d → i < m → listed.getD i true = false → n ∉ Region.ready md ops listed := by
    intro d
    induction d using Nat.strongRecOn with
    | _ d ih =>
      intro i hd hi hun hr
      have h1 := List.all_eq_true.1 hs i (List.mem_range.2 hi)
      obtain ⟨j, hj, hj2⟩ := List.any_eq_true.1 h1
      rw [Bool.and_eq_true, Bool.and_eq_true, decide_eq_true_eq, Bool.or_eq_true, decide_eq_true_eq, beq_iff_eq] at hj2
      obtain ⟨⟨hij, hjm⟩, hw⟩ := hj2
      cases hoj : ops[j]? with
      | none => rw [hoj] at hw; cases hw
      | some oj =>
        rw [hoj] at hw
        obtain ⟨e, he, hb⟩ := Array.any_eq_true'.1 hw
        simp only [Bool.and_eq_true, beq_iff_eq] at hb
        by_cases hjn : j = n
        · subst hjn
          obtain ⟨_, o2, ho2, hall⟩ := mem_ready.1 hr
          obtain rfl : oj = o2 := Option.some.inj (hoj.symm.trans ho2)
          have := hall e he hb.1
          rw [hb.2, off_off hun] at this
          cases this
        · have hjlt : j < m := by omega
          cases hl : listed.getD j false with
          | true =>
            have := hcl.2 j oj hoj hl e he hb.1
            rw [hb.2, off_off hun] at this
            cases this
          | false =>
            have hjs : j < listed.size := by rw [hcl.1]; omega
            exact ih (n - j) (by omega) j rfl hjlt (by simp [hjs] at hl ⊢; exact hl) hr
  intro i hun j hr hne
  by_cases hjn : j = n
  case neg => exact .inl (by simpa using hjn)
  subst hjn
  by_cases h : i < m
  · exact absurd hr (key _ i rfl h hun)
  · exact .inr (by simp only [decide_eq_true_eq]; exact ⟨by omega, fun e => hne e.symm⟩)

/-- **Number m + d stores; the d ones ahead of it hang on no world, and may come later than it.** -/
theorem wp_region_storeM {P : Program} {id : Nat} {Q : Exit → Act → World → Prop} {a : Act} {w : World} {l : List Oper} {oS : Oper} (m d : Nat)
    (hm : P.follows .mixedOrders = true) (hl : l.take m ++ ((l.drop m).take d ++ oS :: l.drop (m + d + 1)) = l) (hlm : (l.take m).length = m) (hld : ((l.drop m).take d).length = d) (hpu : (l.drop (m + d + 1)).all isPure = true)
    (hB : Region.lexBL .any l.toArray (fun i => i == m + d) = true) (hSk : Region.sinksM .any l.toArray m (m + d) = true) (hgS : oS.guard = none)
    (h : ∀ w1, Ab w w1 → wpQuiet P l.toArray (fun w' => ∃ p : Regrown, w' = bw w1 p) (wpPure P l.toArray (fun a1 => ∀ w3, Ab w w3 → Yld P (fun v w4 => Q .normal (pureRun (l.drop (m + d + 1)) (a1.put oS.dst v)) w4) w3 ((execOp a1.eval oS).run P w3)) ((l.drop m).take d)) (l.take m) a) :
    (Code.region id l.toArray true).wp P Q a w := by
  obtain ⟨ops, hops⟩ : ∃ ops, ops = l.toArray := ⟨_, rfl⟩
  obtain ⟨l1, hl1⟩ : ∃ l1, l1 = l.take m := ⟨_, rfl⟩
  obtain ⟨l2, hl2⟩ : ∃ l2, l2 = (l.drop m).take d := ⟨_, rfl⟩
  obtain ⟨l3, hl3⟩ : ∃ l3, l3 = l.drop (m + d + 1) := ⟨_, rfl⟩
  rw [← hops] at hB hSk h ⊢
  rw [← hl1, ← hl2, ← hl3] at hl h
  rw [← hl1] at hlm
  rw [← hl2] at hld
  rw [← hl3] at hpu
  have hget : ∀ j, l[j]? = ops[j]? := fun j => by rw [hops, List.getElem?_toArray]
  have hlen : ops.size = (l1 ++ (l2 ++ oS :: l3)).length := by rw [hops, List.size_toArray, hl]
  simp only [Region.lexBL, Bool.and_eq_true] at hB
  have wantS : ∀ a : Act, Region.wanted oS (yielded ops a.tmps) = true := fun a => by simp [Region.wanted, hgS]
  have gS : ops[m + d]? = some oS := by
    rw [← hget, ← hl, List.getElem?_append_right (by omega), List.getElem?_append_right (by omega), show m + d - l1.length - l2.length = 0 by omega]; rfl
  have g1 : ∀ j, j < l1.length → l1[j]? = ops[0 + j]? ∧ (fun i => i == m + d) (0 + j) = false ∧ (fun i => decide (m ≤ i ∧ i ≠ m + d)) (0 + j) = false := fun j hj => by
    refine ⟨by rw [← hget, Nat.zero_add, ← hl, List.getElem?_append_left hj], ?_, ?_⟩
    · simp only [beq_eq_false_iff_ne]; omega
    · simp only [decide_eq_false_iff_not]; omega
  have g2 : ∀ j, j < l2.length → l2[j]? = ops[m + j]? ∧ (fun i => decide (m ≤ i ∧ i ≠ m + d)) (m + j) = true := fun j hj => by
    refine ⟨?_, by simp only [decide_eq_true_eq]; omega⟩
    rw [← hget, ← hl, List.getElem?_append_right (by omega), show m + j - l1.length = j by omega, List.getElem?_append_left hj]
  have g3 : ∀ j, j < l3.length → l3[j]? = ops[m + d + 1 + j]? ∧ (fun i => decide (m ≤ i ∧ i ≠ m + d)) (m + d + 1 + j) = true := fun j hj => by
    refine ⟨?_, by simp only [decide_eq_true_eq]; omega⟩
    rw [← hget, ← hl, List.getElem?_append_right (by omega), List.getElem?_append_right (by omega), show m + d + 1 + j - l1.length - l2.length = j + 1 by omega, List.getElem?_cons_succ]
  have base : Ab w { w with drawn := w.drawn + 1 } := ⟨rfl, rfl, rfl, Nat.le_refl _, fun _ _ => rfl⟩
  refine wp_region_any hm (wpAny_of_float (G := Option (World → Prop)) (W := w) (I := fun g w' => match g with | none => Ab w w' | some R => R w') (early := fun g => g = none) (loud := fun i => i == m + d) (late := fun i => i == m + d) (pur := fun i => decide (m ≤ i ∧ i ≠ m + d))
    (Q := fun a' g => ∃ R, g = some R ∧ ∀ w', R w' → Q .normal a' w') ?_ ?_ ?_ _ _ _ none _ base ?_)
  · rintro g w' rfl h; exact h
  · rintro g w' w'' rfl h k; exact Ab.trans h k
  · rintro a' g w' hI ⟨R, rfl, hQ⟩; exact hQ w' hI
  · rw [hlen]
    refine wpAnyF_lex hB.1 (late_of_sinksM hSk (Nat.le_add_right _ _) (by rw [hlen]; simp; omega)) (l1 ++ (l2 ++ oS :: l3)) 0 _ _ _ (by rw [← hlen]; exact closed_start) (fun j => by rw [hl, hget, Nat.zero_add]) (by rw [← hlen]; exact hB.2) ?_
    refine lexW_quiet (loud := fun i => i == m + d) (early := fun g => g = none) (pur := fun i => decide (m ≤ i ∧ i ≠ m + d)) rfl l1 0 a g1 (fun a0 h0 => ?_) h
    rw [Nat.zero_add, hlm]
    refine lexW_pureW l2 m a0 g2 (fun a1 h1 => ?_) h0
    rw [hld]
    refine fOp_of (o := oS) (O := fun v g' => g' = some (fun w' => Q .normal (pureRun l3 (a1.put oS.dst v)) w')) gS ?_ ?_
    · unfold Fam
      rw [if_pos (wantS _), if_neg (by simp), if_pos (by simp)]
      refine ⟨rfl, ⟨⟨undef, _, rfl⟩, fun w' hw' => ?_⟩, fun hlate => absurd hlate (by simp)⟩
      exact Yld.mono (fun v w4 hQ => ⟨_, rfl, hQ⟩) (h1 w' hw')
    · rintro v g' rfl
      exact lexW_pure l3 (m + d + 1) _ g3 hpu ⟨_, rfl, fun w' h' => h'⟩
end Go.Proofs.YtpkpjkceiikakaaDoor
