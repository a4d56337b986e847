/- Regions that draw their order, in which one call makes something of its own and one call takes it; all else hangs on nothing of these, or comes of its answer: walked once, in the order of the text. -/
import Derived.Test.YtpgonfeobfefaaaDoorMakeX
namespace Go.Proofs.YtpgonfeobfefaaaDoor
open Go.ChangeShapes Go.WideShapes Go.ChangeAt Go.RowKit

/-! ### One maker -/
structure G1Y (XX Y : Type) where
  c : Option XX
  u : Option Y
def G1YI {XX Y : Type} (W : World) (JC : XX → World → Prop) (JU : Y → World → Prop) (g : G1Y XX Y) (w : World) : Prop :=
  Ab W w ∧ (∀ x, g.c = some x → JC x w) ∧ (∀ y, g.u = some y → JU y w)
def g1YUpd {XX Y : Type} (iC : Nat) (i : Nat) (g : G1Y XX Y) (x : XX) : G1Y XX Y :=
  if i = iC then (match g.c with | none => { g with c := some x } | _ => g) else g
def g1YKind (iC iU : Nat) (i : Nat) : Kd := if i = iC then .free else if i = iU then .loud else if iU < i then .pure else .basic
theorem g1Y_ok {XX Y : Type} {W : World} {JC : XX → World → Prop} {JU : Y → World → Prop} {iC iU : Nat} : GhostOk (G1YI W JC JU) (fun _ => True) (g1YKind iC iU) (g1YUpd iC) where
  early := fun _ _ _ _ _ => trivial
  more := fun i g x w hk h => by
    obtain ⟨h1, h2, h4⟩ := h
    refine ⟨h1, fun y hy => h2 y ?_, fun y hy => h4 y ?_⟩
    · unfold g1YUpd; split
      · rw [hy]; exact hy
      · exact hy
    · unfold g1YUpd; split
      · split <;> exact hy
      · exact hy
  comm := fun i j g x y hi hj hij => by
    have free : ∀ i, g1YKind iC iU i = .free → i = iC := fun i h => by
      unfold g1YKind at h
      split at h
      · assumption
      · split at h
        · cases h
        · split at h <;> cases h
    exact absurd ((free i hi).trans (free j hj).symm) hij
theorem g1YI_on {XX Y : Type} {W : World} {JC : XX → World → Prop} {JU : Y → World → Prop} (hC : ∀ x w w', JC x w → Ab w w' → JC x w') (hU : ∀ y w w', JU y w → Ab w w' → JU y w') {g : G1Y XX Y} {w w' : World} (h : G1YI W JC JU g w) (k : Ab w w') : G1YI W JC JU g w' :=
  ⟨h.1.trans k, fun x hx => hC x w w' (h.2.1 x hx) k, fun y hy => hU y w w' (h.2.2 y hy) k⟩

theorem wp_region_make1Y {P : Program} {id : Nat} {Q : Exit → Act → World → Prop} {a : Act} {W : World} {XX Y : Type} {l l1 l2 l4 : List Oper} {oC oU : Oper} (nC nU : Nat) (JC : XX → World → Prop) (JU : Y → World → Prop)
    (hJC : ∀ x w w', JC x w → Ab w w' → JC x w') (hJU : ∀ y w w', JU y w → Ab w w' → JU y w') (vC : XX → Value) (vU : Y → Value)
    (hm : P.follows .mixedOrders = true) (hl : l1 ++ oC :: (l2 ++ oU :: l4) = l) (hn1 : l1.length = nC) (hn3 : l2.length + nC + 1 = nU)
    (hB : Region.lexBD .any l.toArray (g1YKind nC nU) = true) (hgC : oC.guard = none) (hgU : oU.guard = none) (x0 : XX) (y0 : Y)
    (h : ∀ w1, Ab W w1 → wpQuiet P l.toArray (fun w' => ∃ p : Regrown, w' = bw w1 p) (fun a1 =>
      (∀ w, Ab W w → Yld P (fun v w' => ∃ x, v = vC x ∧ Ab w w' ∧ JC x w') w ((execOp a1.eval oC).run P w)) ∧
      ∀ x, ∀ w2, Ab W w2 → wpQuiet P l.toArray (fun w' => ∃ p : Regrown, w' = bw w2 p) (fun a3 =>
          (∀ w, Ab W w → JC x w → Yld P (fun v w' => ∃ z, v = vU z ∧ Ab w w' ∧ JU z w') w ((execOp a3.eval oU).run P w)) ∧
          ∀ z, pqsX P (fun a4 => ∀ w5, Ab W w5 → JC x w5 → JU z w5 → Q .normal a4 w5) l4 (a3.put oU.dst (vU z))) l2 (a1.put oC.dst (vC x))) l1 a) :
    (Code.region id l.toArray true).wp P Q a W := by
  obtain ⟨ops, hops⟩ : ∃ ops, ops = l.toArray := ⟨_, rfl⟩
  rw [← hops] at hB h ⊢
  have hget : ∀ j, l[j]? = ops[j]? := fun j => by rw [hops, List.getElem?_toArray]
  have hlen : ops.size = (l1 ++ oC :: (l2 ++ oU :: l4)).length := by rw [hops, List.size_toArray, hl]
  simp only [Region.lexBD, Bool.and_eq_true] at hB
  have want : ∀ (o : Oper), o.guard = none → ∀ a : Act, Region.wanted o (yielded ops a.tmps) = true := fun o ho a => by simp [Region.wanted, ho]
  have at1 : ∀ j, j < l1.length → l1[j]? = ops[0 + j]? := fun j hj => by rw [← hget, Nat.zero_add, ← hl, List.getElem?_append_left hj]
  have at2 : ∀ j, (oC :: (l2 ++ oU :: l4))[j]? = ops[nC + j]? := fun j => by
    rw [← hget, ← hl, List.getElem?_append_right (by omega), hn1, Nat.add_sub_cancel_left]
  have gC : ops[nC]? = some oC := by have := at2 0; simpa using this.symm
  have at3 : ∀ j, (l2 ++ oU :: l4)[j]? = ops[nC + 1 + j]? := fun j => by
    have := at2 (j + 1); simpa [Nat.add_assoc, Nat.add_comm 1 j] using this
  have at6 : ∀ j, (oU :: l4)[j]? = ops[nU + j]? := fun j => by
    have := at3 (l2.length + j)
    rw [List.getElem?_append_right (by omega), Nat.add_sub_cancel_left, show nC + 1 + (l2.length + j) = nU + j from by omega] at this
    exact this
  have gU : ops[nU]? = some oU := by have := at6 0; simpa using this.symm
  have k1 : ∀ j, j < l1.length → l1[j]? = ops[0 + j]? ∧ g1YKind nC nU (0 + j) = .basic := fun j hj => by
    refine ⟨at1 j hj, ?_⟩
    unfold g1YKind
    rw [if_neg (by omega), if_neg (by omega), if_neg (by omega)]
  have k2 : ∀ j, j < l2.length → l2[j]? = ops[nC + 1 + j]? ∧ g1YKind nC nU (nC + 1 + j) = .basic := fun j hj => by
    refine ⟨?_, ?_⟩
    · have := at3 j; rw [List.getElem?_append_left hj] at this; exact this
    · unfold g1YKind
      rw [if_neg (by omega), if_neg (by omega), if_neg (by omega)]
  have k4 : ∀ j, j < l4.length → l4[j]? = ops[nU + 1 + j]? ∧ g1YKind nC nU (nU + 1 + j) = .pure := fun j hj => by
    refine ⟨?_, ?_⟩
    · have := at6 (j + 1); simpa [Nat.add_assoc, Nat.add_comm 1 j] using this
    · unfold g1YKind
      rw [if_neg (by omega), if_neg (by omega), if_pos (by omega)]
  have base : Ab W { W with drawn := W.drawn + 1 } := ⟨rfl, rfl, rfl, Nat.le_refl _, fun _ _ => rfl⟩
  have hG := g1Y_ok (Y := Y) (W := W) (JC := JC) (JU := JU) (iC := nC) (iU := nU)
  refine wp_region_any hm (wpAny_of_drift (W := W) (I := G1YI W JC JU) (early := fun _ => True) (kind := g1YKind nC nU) (late := fun _ => false) (Ok := fun _ _ => True) (val := fun _ => vC) (upd := g1YUpd nC)
    (Q := fun a' g => ∃ x z, g = ⟨some x, some z⟩ ∧ ∀ w5, Ab W w5 → JC x w5 → JU z w5 → Q .normal a' w5) (fun g w _ h => h.1) (fun g w w' _ h k => g1YI_on hJC hJU h k) ?_ _ _ _ ⟨none, none⟩ _ ⟨base, fun x hx => (by cases hx), fun x hx => (by cases hx)⟩ ?_)
  · rintro a' g w' hI ⟨x, z, rfl, hQ⟩
    exact hQ w' hI.1 (hI.2.1 x rfl) (hI.2.2 z rfl)
  · rw [hlen]
    refine wpAnyD_lex hG hB.1 (fun _ _ _ _ _ _ _ => .inl rfl) _ 0 _ _ _ (by rw [← hlen]; exact closed_start) (fun j => by rw [hl, hget, Nat.zero_add]) (by rw [← hlen]; exact hB.2) ?_
    refine lexD_quiet (kind := g1YKind nC nU) trivial .basic (.inl ⟨rfl, Ab W, fun _ => Iff.rfl⟩) (Ab W) (.inl ⟨rfl, fun _ h => h⟩) (fun w w' h k => Ab.trans h k) W (Ab.refl W) (fun _ h => h) l1 0 a k1 (fun a1 h1 => ?_) h
    rw [Nat.zero_add, hn1]
    refine dOp_of gC (O := FO (fun _ _ => True) (fun _ => vC) (g1YUpd nC) nC ⟨none, none⟩) ?_ ?_
    · unfold Fam2; rw [if_pos (want oC hgC _)]
      refine .inr (.inr (.inr (.inr ⟨by unfold g1YKind; rw [if_pos rfl], trivial, fun g' _ => ⟨⟨_, _, x0, trivial, rfl, rfl⟩, fun w hw => ?_⟩, rfl⟩)))
      refine Yld.mono ?_ (h1.1 w hw.1)
      rintro v w' ⟨x, rfl, hab, hj⟩
      refine ⟨_, ⟨x, trivial, rfl, rfl⟩, ?_⟩
      have hw' := g1YI_on hJC hJU hw hab
      rcases g' with ⟨_ | c, u⟩
      · have eu : g1YUpd nC nC ⟨none, u⟩ x = ⟨some x, u⟩ := by unfold g1YUpd; rw [if_pos rfl]
        rw [eu]
        exact ⟨hw'.1, fun q hq => (by cases hq; exact hj), hw'.2.2⟩
      · have e : g1YUpd nC nC ⟨some c, u⟩ x = ⟨some c, u⟩ := by unfold g1YUpd; rw [if_pos rfl]
        rw [e]; exact hw'
    · rintro v g' ⟨x, _, rfl, rfl⟩
      have eg : g1YUpd nC nC (⟨none, none⟩ : G1Y XX Y) x = ⟨some x, none⟩ := by unfold g1YUpd; rw [if_pos rfl]
      rw [eg]
      refine lexD_quiet (kind := g1YKind nC nU) trivial .basic (.inl ⟨rfl, Ab W, fun _ => Iff.rfl⟩) (Ab W) (.inl ⟨rfl, fun _ h => h⟩) (fun w w' h k => Ab.trans h k) W (Ab.refl W) (fun _ h => h) l2 (nC + 1) _ k2 (fun a3 h3 => ?_) (h1.2 x)
      rw [show nC + 1 + l2.length = nU from by omega]
      refine dOp_of gU (O := fun v g' => ∃ z, v = vU z ∧ g' = ⟨some x, some z⟩) ?_ ?_
      · unfold Fam2; rw [if_pos (want oU hgU _)]
        refine .inr (.inr (.inr (.inl ⟨by unfold g1YKind; rw [if_neg (by omega), if_pos rfl], trivial, ⟨⟨_, _, y0, rfl, rfl⟩, fun w hw => ?_⟩, fun _ _ _ _ => trivial⟩)))
        refine Yld.mono ?_ (h3.1 w hw.1 (hw.2.1 x rfl))
        rintro v w' ⟨z, rfl, hab, hj⟩
        have hw' := g1YI_on hJC hJU hw hab
        exact ⟨_, ⟨z, rfl, rfl⟩, hw'.1, hw'.2.1, fun q hq => by cases hq; exact hj⟩
      · rintro v g' ⟨z, rfl, rfl⟩
        refine lexD_pqsX l4 (nU + 1) _ k4 ?_
        exact pqs_monoX (fun a' hq => ⟨x, z, rfl, hq⟩) l4 _ (h3.2 z)

/-- The same, the region written out. -/
theorem wp_region_make1Y_at {P : Program} {id : Nat} {Q : Exit → Act → World → Prop} {a : Act} {W : World} {XX Y : Type} {l : List Oper} {oC oU : Oper} (nC m : Nat) (JC : XX → World → Prop) (JU : Y → World → Prop)
    (hJC : ∀ x w w', JC x w → Ab w w' → JC x w') (hJU : ∀ y w w', JU y w → Ab w w' → JU y w') (vC : XX → Value) (vU : Y → Value)
    (hm : P.follows .mixedOrders = true) (hl : l.take nC ++ oC :: ((l.drop (nC + 1)).take m ++ oU :: l.drop (nC + 1 + m + 1)) = l) (hn1 : (l.take nC).length = nC) (hn3 : ((l.drop (nC + 1)).take m).length = m)
    (hB : Region.lexBD .any l.toArray (g1YKind nC (nC + 1 + m)) = true) (hgC : oC.guard = none) (hgU : oU.guard = none) (x0 : XX) (y0 : Y)
    (h : ∀ w1, Ab W w1 → wpQuiet P l.toArray (fun w' => ∃ p : Regrown, w' = bw w1 p) (fun a1 =>
      (∀ w, Ab W w → Yld P (fun v w' => ∃ x, v = vC x ∧ Ab w w' ∧ JC x w') w ((execOp a1.eval oC).run P w)) ∧
      ∀ x, ∀ w2, Ab W w2 → wpQuiet P l.toArray (fun w' => ∃ p : Regrown, w' = bw w2 p) (fun a3 =>
          (∀ w, Ab W w → JC x w → Yld P (fun v w' => ∃ z, v = vU z ∧ Ab w w' ∧ JU z w') w ((execOp a3.eval oU).run P w)) ∧
          ∀ z, pqsX P (fun a4 => ∀ w5, Ab W w5 → JC x w5 → JU z w5 → Q .normal a4 w5) (l.drop (nC + 1 + m + 1)) (a3.put oU.dst (vU z))) ((l.drop (nC + 1)).take m) (a1.put oC.dst (vC x))) (l.take nC) a) :
    (Code.region id l.toArray true).wp P Q a W :=
  wp_region_make1Y nC (nC + 1 + m) JC JU hJC hJU vC vU hm hl hn1 (by rw [hn3]; omega) hB hgC hgU x0 y0 h

end Go.Proofs.YtpgonfeobfefaaaDoor
