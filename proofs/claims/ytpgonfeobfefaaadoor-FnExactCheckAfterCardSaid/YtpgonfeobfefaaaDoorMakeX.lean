/- Regions that draw their order, in which calls make things of their own and one call takes them; all else hangs on nothing of these, or comes of its answer: walked once, in the order of the text. -/
import Derived.Test.YtpgonfeobfefaaaDoorDrift
namespace Go.Proofs.YtpgonfeobfefaaaDoor
open Go.ChangeShapes Go.WideShapes Go.ChangeAt Go.RowKit

/-- Operations each of which has a value that hangs on no world. -/
def pqsX (P : Program) (K : Act → Prop) : List Oper → Act → Prop
  | [], a => K a
  | o :: l, a => o.guard = none ∧ ∃ v, PQ P o a v ∧ pqsX P K l (a.put o.dst v)
theorem pqs_monoX {P : Program} {K K' : Act → Prop} (hK : ∀ a, K a → K' a) : ∀ (l : List Oper) (a : Act), pqsX P K l a → pqsX P K' l a
  | [], a, h => hK a h
  | _ :: l, _, ⟨hg, v, hv, h⟩ => ⟨hg, v, hv, pqs_monoX hK l _ h⟩
theorem lexD_pqsX {P : Program} {ops : Array Oper} {W : World} {G X : Type} {I : G → World → Prop} {early : G → Prop} {kind : Nat → Kd} {late : Nat → Bool} {Ok : Nat → X → Prop} {val : Nat → X → Value} {upd : Nat → G → X → G} {Q : Act → G → Prop} {g : G} : ∀ (l : List Oper) (k : Nat) (a : Act), (∀ j, j < l.length → l[j]? = ops[k + j]? ∧ kind (k + j) = .pure) →
    pqsX P (fun a => Q a g) l a → lexD P ops W I early kind late Ok val upd Q l k a g
  | [], _, _, _, h => h
  | o :: l, k, a, hl, h => by
    have h0 : ops[k]? = some o := by simpa using (hl 0 (by simp)).1.symm
    have hpk : kind k = .pure := by simpa using (hl 0 (by simp)).2
    obtain ⟨hg, v, hv, hr⟩ := h
    refine dOp_of h0 (O := One v g) ?_ ?_
    · unfold Fam2; rw [if_pos (by simp [Region.wanted, hg])]; exact .inl ⟨hpk, v, hv, rfl⟩
    · rintro v' g' ⟨rfl, rfl⟩
      exact lexD_pqsX l (k + 1) _ (fun j hj => by have := hl (j + 1) (by simp; omega); simpa [Nat.add_assoc, Nat.add_comm 1 j] using this) hr

/-- What two makers have made, and what came of the call that takes it. -/
structure GmX (XX Y : Type) where
  c : Option XX
  d : Option XX
  u : Option Y
def GmXI {XX Y : Type} (W : World) (JC JD : XX → World → Prop) (JU : Y → World → Prop) (g : GmX XX Y) (w : World) : Prop :=
  Ab W w ∧ (∀ x, g.c = some x → JC x w) ∧ (∀ x, g.d = some x → JD x w) ∧ (∀ y, g.u = some y → JU y w)
def gmXUpd {XX Y : Type} (iC iD : Nat) (i : Nat) (g : GmX XX Y) (x : XX) : GmX XX Y :=
  if i = iC then (match g.c with | none => { g with c := some x } | _ => g)
  else if i = iD then (match g.d with | none => { g with d := some x } | _ => g)
  else g
def gmXVal {XX : Type} (iC : Nat) (vC vD : XX → Value) (i : Nat) (x : XX) : Value := if i = iC then vC x else vD x
def gmXKind (iC iD iU : Nat) (i : Nat) : Kd := if i = iC then .free else if i = iD then .free else if i = iU then .loud else if iU < i then .pure else .basic

theorem gmX_ok {XX Y : Type} {W : World} {JC JD : XX → World → Prop} {JU : Y → World → Prop} {iC iD iU : Nat} (hlt : iC < iD) : GhostOk (GmXI W JC JD JU) (fun _ => True) (gmXKind iC iD iU) (gmXUpd iC iD) where
  early := fun _ _ _ _ _ => trivial
  more := fun i g x w hk h => by
    obtain ⟨h1, h2, h3, h4⟩ := h
    refine ⟨h1, fun y hy => h2 y ?_, fun y hy => h3 y ?_, fun y hy => h4 y ?_⟩
    · unfold gmXUpd; split
      · rw [hy]; exact hy
      · split
        · split <;> exact hy
        · exact hy
    · unfold gmXUpd; split
      · split <;> exact hy
      · split
        · rw [hy]; exact hy
        · exact hy
    · unfold gmXUpd; split
      · split <;> exact hy
      · split
        · split <;> exact hy
        · exact hy
  comm := fun i j g x y hi hj hij => by
    have free : ∀ i, gmXKind iC iD iU i = .free → i = iC ∨ i = iD := fun i h => by
      unfold gmXKind at h
      split at h
      · exact .inl ‹_›
      · split at h
        · exact .inr ‹_›
        · split at h
          · cases h
          · split at h <;> cases h
    have hne : iD ≠ iC := by omega
    rcases free i hi with rfl | rfl <;> rcases free j hj with rfl | rfl
    · exact absurd rfl hij
    · unfold gmXUpd; rcases g with ⟨_ | _, _ | _, _⟩ <;> simp [hne]
    · unfold gmXUpd; rcases g with ⟨_ | _, _ | _, _⟩ <;> simp [hne]
    · exact absurd rfl hij
theorem gmXI_on {XX Y : Type} {W : World} {JC JD : XX → World → Prop} {JU : Y → World → Prop} (hC : ∀ x w w', JC x w → Ab w w' → JC x w') (hD : ∀ x w w', JD x w → Ab w w' → JD x w') (hU : ∀ y w w', JU y w → Ab w w' → JU y w') {g : GmX XX Y} {w w' : World} (h : GmXI W JC JD JU g w) (k : Ab w w') : GmXI W JC JD JU g w' :=
  ⟨h.1.trans k, fun x hx => hC x w w' (h.2.1 x hx) k, fun x hx => hD x w w' (h.2.2.1 x hx) k, fun y hy => hU y w w' (h.2.2.2 y hy) k⟩

/-- **Two makers.** -/
theorem wp_region_makeX {P : Program} {id : Nat} {Q : Exit → Act → World → Prop} {a : Act} {W : World} {XX Y : Type} {l l1 l2 l3 l4 : List Oper} {oC oD oU : Oper} (nC nD nU : Nat) (JC JD : XX → World → Prop) (JU : Y → World → Prop)
    (hJC : ∀ x w w', JC x w → Ab w w' → JC x w') (hJD : ∀ x w w', JD x w → Ab w w' → JD x w') (hJU : ∀ y w w', JU y w → Ab w w' → JU y w') (vC vD : XX → Value) (vU : Y → Value)
    (hm : P.follows .mixedOrders = true) (hl : l1 ++ oC :: (l2 ++ oD :: (l3 ++ oU :: l4)) = l) (hn1 : l1.length = nC) (hn2 : l2.length + nC + 1 = nD) (hn3 : l3.length + nD + 1 = nU)
    (hB : Region.lexBD .any l.toArray (gmXKind nC nD nU) = true) (hgC : oC.guard = none) (hgD : oD.guard = none) (hgU : oU.guard = none) (x0 : XX) (y0 : Y)
    (h : ∀ w1, Ab W w1 → wpQuiet P l.toArray (fun w' => ∃ p : Regrown, w' = bw w1 p) (fun a1 =>
      (∀ w, Ab W w → Yld P (fun v w' => ∃ x, v = vC x ∧ Ab w w' ∧ JC x w') w ((execOp a1.eval oC).run P w)) ∧
      ∀ x, ∀ w2, Ab W w2 → wpQuiet P l.toArray (fun w' => ∃ p : Regrown, w' = bw w2 p) (fun a2 =>
        (∀ w, Ab W w → Yld P (fun v w' => ∃ x, v = vD x ∧ Ab w w' ∧ JD x w') w ((execOp a2.eval oD).run P w)) ∧
        ∀ y, ∀ w3, Ab W w3 → wpQuiet P l.toArray (fun w' => ∃ p : Regrown, w' = bw w3 p) (fun a3 =>
          (∀ w, Ab W w → JC x w → JD y w → Yld P (fun v w' => ∃ z, v = vU z ∧ Ab w w' ∧ JU z w') w ((execOp a3.eval oU).run P w)) ∧
          ∀ z, pqsX P (fun a4 => ∀ w5, Ab W w5 → JC x w5 → JD y w5 → JU z w5 → Q .normal a4 w5) l4 (a3.put oU.dst (vU z))) l3 (a2.put oD.dst (vD y))) l2 (a1.put oC.dst (vC x))) l1 a) :
    (Code.region id l.toArray true).wp P Q a W := by
  obtain ⟨ops, hops⟩ : ∃ ops, ops = l.toArray := ⟨_, rfl⟩
  rw [← hops] at hB h ⊢
  have hget : ∀ j, l[j]? = ops[j]? := fun j => by rw [hops, List.getElem?_toArray]
  have hlen : ops.size = (l1 ++ oC :: (l2 ++ oD :: (l3 ++ oU :: l4))).length := by rw [hops, List.size_toArray, hl]
  simp only [Region.lexBD, Bool.and_eq_true] at hB
  have want : ∀ (o : Oper), o.guard = none → ∀ a : Act, Region.wanted o (yielded ops a.tmps) = true := fun o ho a => by simp [Region.wanted, ho]
  have at1 : ∀ j, j < l1.length → l1[j]? = ops[0 + j]? := fun j hj => by rw [← hget, Nat.zero_add, ← hl, List.getElem?_append_left hj]
  have at2 : ∀ j, (oC :: (l2 ++ oD :: (l3 ++ oU :: l4)))[j]? = ops[nC + j]? := fun j => by
    rw [← hget, ← hl, List.getElem?_append_right (by omega), hn1, Nat.add_sub_cancel_left]
  have gC : ops[nC]? = some oC := by have := at2 0; simpa using this.symm
  have at3 : ∀ j, (l2 ++ oD :: (l3 ++ oU :: l4))[j]? = ops[nC + 1 + j]? := fun j => by
    have := at2 (j + 1); simpa [Nat.add_assoc, Nat.add_comm 1 j] using this
  have at4 : ∀ j, (oD :: (l3 ++ oU :: l4))[j]? = ops[nD + j]? := fun j => by
    have := at3 (l2.length + j)
    rw [List.getElem?_append_right (by omega), Nat.add_sub_cancel_left, show nC + 1 + (l2.length + j) = nD + j from by omega] at this
    exact this
  have gD : ops[nD]? = some oD := by have := at4 0; simpa using this.symm
  have at5 : ∀ j, (l3 ++ oU :: l4)[j]? = ops[nD + 1 + j]? := fun j => by
    have := at4 (j + 1); simpa [Nat.add_assoc, Nat.add_comm 1 j] using this
  have at6 : ∀ j, (oU :: l4)[j]? = ops[nU + j]? := fun j => by
    have := at5 (l3.length + j)
    rw [List.getElem?_append_right (by omega), Nat.add_sub_cancel_left, show nD + 1 + (l3.length + j) = nU + j from by omega] at this
    exact this
  have gU : ops[nU]? = some oU := by have := at6 0; simpa using this.symm
  have k1 : ∀ j, j < l1.length → l1[j]? = ops[0 + j]? ∧ gmXKind nC nD nU (0 + j) = .basic := fun j hj => by
    refine ⟨at1 j hj, ?_⟩
    unfold gmXKind
    rw [if_neg (by omega), if_neg (by omega), if_neg (by omega), if_neg (by omega)]
  have k2 : ∀ j, j < l2.length → l2[j]? = ops[nC + 1 + j]? ∧ gmXKind nC nD nU (nC + 1 + j) = .basic := fun j hj => by
    refine ⟨?_, ?_⟩
    · have := at3 j; rw [List.getElem?_append_left hj] at this; exact this
    · unfold gmXKind
      rw [if_neg (by omega), if_neg (by omega), if_neg (by omega), if_neg (by omega)]
  have k3 : ∀ j, j < l3.length → l3[j]? = ops[nD + 1 + j]? ∧ gmXKind nC nD nU (nD + 1 + j) = .basic := fun j hj => by
    refine ⟨?_, ?_⟩
    · have := at5 j; rw [List.getElem?_append_left hj] at this; exact this
    · unfold gmXKind
      rw [if_neg (by omega), if_neg (by omega), if_neg (by omega), if_neg (by omega)]
  have k4 : ∀ j, j < l4.length → l4[j]? = ops[nU + 1 + j]? ∧ gmXKind nC nD nU (nU + 1 + j) = .pure := fun j hj => by
    refine ⟨?_, ?_⟩
    · have := at6 (j + 1); simpa [Nat.add_assoc, Nat.add_comm 1 j] using this
    · unfold gmXKind
      rw [if_neg (by omega), if_neg (by omega), if_neg (by omega), if_pos (by omega)]
  have base : Ab W { W with drawn := W.drawn + 1 } := ⟨rfl, rfl, rfl, Nat.le_refl _, fun _ _ => rfl⟩
  have hG := gmX_ok (Y := Y) (W := W) (JC := JC) (JD := JD) (JU := JU) (iU := nU) (show nC < nD by omega)
  refine wp_region_any hm (wpAny_of_drift (W := W) (I := GmXI W JC JD JU) (early := fun _ => True) (kind := gmXKind nC nD nU) (late := fun _ => false) (Ok := fun _ _ => True) (val := gmXVal nC vC vD) (upd := gmXUpd nC nD)
    (Q := fun a' g => ∃ x y z, g = ⟨some x, some y, some z⟩ ∧ ∀ w5, Ab W w5 → JC x w5 → JD y w5 → JU z w5 → Q .normal a' w5) (fun g w _ h => h.1) (fun g w w' _ h k => gmXI_on hJC hJD hJU h k) ?_ _ _ _ ⟨none, none, none⟩ _ ⟨base, fun x hx => (by cases hx), fun x hx => (by cases hx), fun x hx => (by cases hx)⟩ ?_)
  · rintro a' g w' hI ⟨x, y, z, rfl, hQ⟩
    exact hQ w' hI.1 (hI.2.1 x rfl) (hI.2.2.1 y rfl) (hI.2.2.2 z rfl)
  · rw [hlen]
    refine wpAnyD_lex hG hB.1 (fun _ _ _ _ _ _ _ => .inl rfl) _ 0 _ _ _ (by rw [← hlen]; exact closed_start) (fun j => by rw [hl, hget, Nat.zero_add]) (by rw [← hlen]; exact hB.2) ?_
    refine lexD_quiet (kind := gmXKind nC nD nU) trivial .basic (.inl ⟨rfl, Ab W, fun _ => Iff.rfl⟩) (Ab W) (.inl ⟨rfl, fun _ h => h⟩) (fun w w' h k => Ab.trans h k) W (Ab.refl W) (fun _ h => h) l1 0 a k1 (fun a1 h1 => ?_) h
    rw [Nat.zero_add, hn1]
    refine dOp_of gC (O := FO (fun _ _ => True) (gmXVal nC vC vD) (gmXUpd nC nD) nC ⟨none, none, none⟩) ?_ ?_
    · unfold Fam2; rw [if_pos (want oC hgC _)]
      refine .inr (.inr (.inr (.inr ⟨by unfold gmXKind; rw [if_pos rfl], trivial, fun g' _ => ⟨⟨_, _, x0, trivial, rfl, rfl⟩, fun w hw => ?_⟩, rfl⟩)))
      refine Yld.mono ?_ (h1.1 w hw.1)
      rintro v w' ⟨x, rfl, hab, hj⟩
      refine ⟨_, ⟨x, trivial, by unfold gmXVal; rw [if_pos rfl], rfl⟩, ?_⟩
      have hw' := gmXI_on hJC hJD hJU hw hab
      rcases g' with ⟨_ | c, d, u⟩
      · have eu : gmXUpd nC nD nC ⟨none, d, u⟩ x = ⟨some x, d, u⟩ := by unfold gmXUpd; rw [if_pos rfl]
        rw [eu]
        exact ⟨hw'.1, fun q hq => (by cases hq; exact hj), hw'.2.2.1, hw'.2.2.2⟩
      · have e : gmXUpd nC nD nC ⟨some c, d, u⟩ x = ⟨some c, d, u⟩ := by unfold gmXUpd; rw [if_pos rfl]
        rw [e]; exact hw'
    · rintro v g' ⟨x, _, rfl, rfl⟩
      have eg : gmXUpd nC nD nC (⟨none, none, none⟩ : GmX XX Y) x = ⟨some x, none, none⟩ := by unfold gmXUpd; rw [if_pos rfl]
      have ev : gmXVal nC vC vD nC x = vC x := by unfold gmXVal; rw [if_pos rfl]
      rw [eg, ev]
      refine lexD_quiet (kind := gmXKind nC nD nU) trivial .basic (.inl ⟨rfl, Ab W, fun _ => Iff.rfl⟩) (Ab W) (.inl ⟨rfl, fun _ h => h⟩) (fun w w' h k => Ab.trans h k) W (Ab.refl W) (fun _ h => h) l2 (nC + 1) _ k2 (fun a2 h2 => ?_) (h1.2 x)
      rw [show nC + 1 + l2.length = nD from by omega]
      refine dOp_of gD (O := FO (fun _ _ => True) (gmXVal nC vC vD) (gmXUpd nC nD) nD ⟨some x, none, none⟩) ?_ ?_
      · unfold Fam2; rw [if_pos (want oD hgD _)]
        refine .inr (.inr (.inr (.inr ⟨by unfold gmXKind; rw [if_neg (by omega), if_pos rfl], trivial, fun g' _ => ⟨⟨_, _, x0, trivial, rfl, rfl⟩, fun w hw => ?_⟩, rfl⟩)))
        refine Yld.mono ?_ (h2.1 w hw.1)
        rintro v w' ⟨y, rfl, hab, hj⟩
        refine ⟨_, ⟨y, trivial, by unfold gmXVal; rw [if_neg (by omega)], rfl⟩, ?_⟩
        have hw' := gmXI_on hJC hJD hJU hw hab
        rcases g' with ⟨c, _ | d, u⟩
        · have eu : gmXUpd nC nD nD ⟨c, none, u⟩ y = ⟨c, some y, u⟩ := by unfold gmXUpd; rw [if_neg (by omega), if_pos rfl]
          rw [eu]
          exact ⟨hw'.1, hw'.2.1, fun q hq => (by cases hq; exact hj), hw'.2.2.2⟩
        · have e : gmXUpd nC nD nD ⟨c, some d, u⟩ y = ⟨c, some d, u⟩ := by unfold gmXUpd; rw [if_neg (by omega), if_pos rfl]
          rw [e]; exact hw'
      · rintro v g' ⟨y, _, rfl, rfl⟩
        have eg : gmXUpd nC nD nD (⟨some x, none, none⟩ : GmX XX Y) y = ⟨some x, some y, none⟩ := by unfold gmXUpd; rw [if_neg (by omega), if_pos rfl]
        have ev : gmXVal nC vC vD nD y = vD y := by unfold gmXVal; rw [if_neg (by omega)]
        rw [eg, ev]
        refine lexD_quiet (kind := gmXKind nC nD nU) trivial .basic (.inl ⟨rfl, Ab W, fun _ => Iff.rfl⟩) (Ab W) (.inl ⟨rfl, fun _ h => h⟩) (fun w w' h k => Ab.trans h k) W (Ab.refl W) (fun _ h => h) l3 (nD + 1) _ k3 (fun a3 h3 => ?_) (h2.2 y)
        rw [show nD + 1 + l3.length = nU from by omega]
        refine dOp_of gU (O := fun v g' => ∃ z, v = vU z ∧ g' = ⟨some x, some y, some z⟩) ?_ ?_
        · unfold Fam2; rw [if_pos (want oU hgU _)]
          refine .inr (.inr (.inr (.inl ⟨by unfold gmXKind; rw [if_neg (by omega), if_neg (by omega), if_pos rfl], trivial, ⟨⟨_, _, y0, rfl, rfl⟩, fun w hw => ?_⟩, fun _ _ _ _ => trivial⟩)))
          refine Yld.mono ?_ (h3.1 w hw.1 (hw.2.1 x rfl) (hw.2.2.1 y rfl))
          rintro v w' ⟨z, rfl, hab, hj⟩
          have hw' := gmXI_on hJC hJD hJU hw hab
          exact ⟨_, ⟨z, rfl, rfl⟩, hw'.1, hw'.2.1, hw'.2.2.1, fun q hq => by cases hq; exact hj⟩
        · rintro v g' ⟨z, rfl, rfl⟩
          refine lexD_pqsX l4 (nU + 1) _ k4 ?_
          exact pqs_monoX (fun a' hq => ⟨x, y, z, rfl, hq⟩) l4 _ (h3.2 z)
theorem wp_region_makeX_at {P : Program} {id : Nat} {Q : Exit → Act → World → Prop} {a : Act} {W : World} {XX Y : Type} {l : List Oper} {oC oD oU : Oper} (nC m1 m2 : Nat) (JC JD : XX → World → Prop) (JU : Y → World → Prop)
    (hJC : ∀ x w w', JC x w → Ab w w' → JC x w') (hJD : ∀ x w w', JD x w → Ab w w' → JD x w') (hJU : ∀ y w w', JU y w → Ab w w' → JU y w') (vC vD : XX → Value) (vU : Y → Value)
    (hm : P.follows .mixedOrders = true) (hl : l.take nC ++ oC :: ((l.drop (nC + 1)).take m1 ++ oD :: ((l.drop (nC + 1 + m1 + 1)).take m2 ++ oU :: l.drop (nC + 1 + m1 + 1 + m2 + 1))) = l) (hn1 : (l.take nC).length = nC) (hn2 : ((l.drop (nC + 1)).take m1).length = m1) (hn3 : ((l.drop (nC + 1 + m1 + 1)).take m2).length = m2)
    (hB : Region.lexBD .any l.toArray (gmXKind nC (nC + 1 + m1) (nC + 1 + m1 + 1 + m2)) = true) (hgC : oC.guard = none) (hgD : oD.guard = none) (hgU : oU.guard = none) (x0 : XX) (y0 : Y)
    (h : ∀ w1, Ab W w1 → wpQuiet P l.toArray (fun w' => ∃ p : Regrown, w' = bw w1 p) (fun a1 =>
      (∀ w, Ab W w → Yld P (fun v w' => ∃ x, v = vC x ∧ Ab w w' ∧ JC x w') w ((execOp a1.eval oC).run P w)) ∧
      ∀ x, ∀ w2, Ab W w2 → wpQuiet P l.toArray (fun w' => ∃ p : Regrown, w' = bw w2 p) (fun a2 =>
        (∀ w, Ab W w → Yld P (fun v w' => ∃ x, v = vD x ∧ Ab w w' ∧ JD x w') w ((execOp a2.eval oD).run P w)) ∧
        ∀ y, ∀ w3, Ab W w3 → wpQuiet P l.toArray (fun w' => ∃ p : Regrown, w' = bw w3 p) (fun a3 =>
          (∀ w, Ab W w → JC x w → JD y w → Yld P (fun v w' => ∃ z, v = vU z ∧ Ab w w' ∧ JU z w') w ((execOp a3.eval oU).run P w)) ∧
          ∀ z, pqsX P (fun a4 => ∀ w5, Ab W w5 → JC x w5 → JD y w5 → JU z w5 → Q .normal a4 w5) (l.drop (nC + 1 + m1 + 1 + m2 + 1)) (a3.put oU.dst (vU z))) ((l.drop (nC + 1 + m1 + 1)).take m2) (a2.put oD.dst (vD y))) ((l.drop (nC + 1)).take m1) (a1.put oC.dst (vC x))) (l.take nC) a) :
    (Code.region id l.toArray true).wp P Q a W :=
  wp_region_makeX nC (nC + 1 + m1) (nC + 1 + m1 + 1 + m2) JC JD JU hJC hJD hJU vC vD vU hm hl hn1 (by rw [hn2]; omega) (by rw [hn3]; omega) hB hgC hgD hgU x0 y0 h
end Go.Proofs.YtpgonfeobfefaaaDoor
