/- What the law of MergeDecks wants besides: drawn regions with two makers, fields, the measure of a deck, a block that may be written. -/
import Derived.Test.YtdbkplfkilaoeaaDrift
import Derived.Test.YtdbkplfkilaoeaaInts
import Derived.Deep.Slices
import Derived.OpenShut
import Derived.Test.YtdbkplfkilaoeaaQuiet
import Derived.Test.YtdbkplfkilaoeaaBoxes
import Derived.Test.YtdbkplfkilaoeaaDeck
import Derived.Test.YtdbkplfkilaoeaaOth
import Derived.Deep.DeepCutAuto
namespace Go.Proofs.Ytdbkplfkilaoeaa
open Go.ChangeShapes Go.WideShapes Go.ChangeAt Go.RowKit

/-- Operations each of which has a value that hangs on no world. -/
def pqsTwo (P : Program) (K : Act → Prop) : List Oper → Act → Prop
  | [], a => K a
  | o :: l, a => o.guard = none ∧ ∃ v, PQ P o a v ∧ pqsTwo P K l (a.put o.dst v)
theorem pqs_monoTwo {P : Program} {K K' : Act → Prop} (hK : ∀ a, K a → K' a) : ∀ (l : List Oper) (a : Act), pqsTwo P K l a → pqsTwo P K' l a
  | [], a, h => hK a h
  | _ :: l, _, ⟨hg, v, hv, h⟩ => ⟨hg, v, hv, pqs_monoTwo hK l _ h⟩
theorem lexD_pqsTwo {P : Program} {ops : Array Oper} {W : World} {G X : Type} {I : G → World → Prop} {early : G → Prop} {kind : Nat → Kd} {late : Nat → Bool} {Ok : Nat → X → Prop} {val : Nat → X → Value} {upd : Nat → G → X → G} {Q : Act → G → Prop} {g : G} : ∀ (l : List Oper) (k : Nat) (a : Act), (∀ j, j < l.length → l[j]? = ops[k + j]? ∧ kind (k + j) = .pure) →
    pqsTwo P (fun a => Q a g) l a → lexD P ops W I early kind late Ok val upd Q l k a g
  | [], _, _, _, h => h
  | o :: l, k, a, hl, h => by
    have h0 : ops[k]? = some o := by simpa using (hl 0 (by simp)).1.symm
    have hpk : kind k = .pure := by simpa using (hl 0 (by simp)).2
    obtain ⟨hg, v, hv, hr⟩ := h
    refine dOp_of h0 (O := One v g) ?_ ?_
    · unfold Fam2; rw [if_pos (by simp [Region.wanted, hg])]; exact .inl ⟨hpk, v, hv, rfl⟩
    · rintro v' g' ⟨rfl, rfl⟩
      exact lexD_pqsTwo l (k + 1) _ (fun j hj => by have := hl (j + 1) (by simp; omega); simpa [Nat.add_assoc, Nat.add_comm 1 j] using this) hr

/-- What two makers have made, and what came of the call that takes it. -/
structure Gm (Y : Type) where
  c : Option (Option Addr)
  d : Option (Option Addr)
  u : Option Y
def GmI {Y : Type} (W : World) (JC JD : Option Addr → World → Prop) (JU : Y → World → Prop) (g : Gm Y) (w : World) : Prop :=
  Ab W w ∧ (∀ x, g.c = some x → JC x w) ∧ (∀ x, g.d = some x → JD x w) ∧ (∀ y, g.u = some y → JU y w)
def gmUpd {Y : Type} (iC iD : Nat) (i : Nat) (g : Gm Y) (x : Option Addr) : Gm Y :=
  if i = iC then (match g.c with | none => { g with c := some x } | _ => g)
  else if i = iD then (match g.d with | none => { g with d := some x } | _ => g)
  else g
def gmVal (iC : Nat) (vC vD : Option Addr → Value) (i : Nat) (x : Option Addr) : Value := if i = iC then vC x else vD x
def gmKind (iC iD iU : Nat) (i : Nat) : Kd := if i = iC then .free else if i = iD then .free else if i = iU then .loud else if iU < i then .pure else .basic

theorem gm_ok {Y : Type} {W : World} {JC JD : Option Addr → World → Prop} {JU : Y → World → Prop} {iC iD iU : Nat} (hlt : iC < iD) : GhostOk (GmI W JC JD JU) (fun _ => True) (gmKind iC iD iU) (gmUpd iC iD) where
  early := fun _ _ _ _ _ => trivial
  more := fun i g x w hk h => by
    obtain ⟨h1, h2, h3, h4⟩ := h
    refine ⟨h1, fun y hy => h2 y ?_, fun y hy => h3 y ?_, fun y hy => h4 y ?_⟩
    · unfold gmUpd; split
      · rw [hy]; exact hy
      · split
        · split <;> exact hy
        · exact hy
    · unfold gmUpd; split
      · split <;> exact hy
      · split
        · rw [hy]; exact hy
        · exact hy
    · unfold gmUpd; split
      · split <;> exact hy
      · split
        · split <;> exact hy
        · exact hy
  comm := fun i j g x y hi hj hij => by
    have free : ∀ i, gmKind iC iD iU i = .free → i = iC ∨ i = iD := fun i h => by
      unfold gmKind at h
      split at h
      · exact .inl ‹_›
      · split at h
        · exact .inr ‹_›
        · split at h
          · cases h
          · split at h <;> cases h
    have hne : iD ≠ iC := by omega
    rcases free i hi with rfl | rfl <;> rcases free j hj with rfl | rfl
    · exact absurd rfl hij
    · unfold gmUpd; rcases g with ⟨_ | _, _ | _, _⟩ <;> simp [hne]
    · unfold gmUpd; rcases g with ⟨_ | _, _ | _, _⟩ <;> simp [hne]
    · exact absurd rfl hij
theorem gmI_on {Y : Type} {W : World} {JC JD : Option Addr → World → Prop} {JU : Y → World → Prop} (hC : ∀ x w w', JC x w → Ab w w' → JC x w') (hD : ∀ x w w', JD x w → Ab w w' → JD x w') (hU : ∀ y w w', JU y w → Ab w w' → JU y w') {g : Gm Y} {w w' : World} (h : GmI W JC JD JU g w) (k : Ab w w') : GmI W JC JD JU g w' :=
  ⟨h.1.trans k, fun x hx => hC x w w' (h.2.1 x hx) k, fun x hx => hD x w w' (h.2.2.1 x hx) k, fun y hy => hU y w w' (h.2.2.2 y hy) k⟩

/-- **Two makers.** -/
theorem wp_region_make2 {P : Program} {id : Nat} {Q : Exit → Act → World → Prop} {a : Act} {W : World} {Y : Type} {l l1 l2 l3 l4 : List Oper} {oC oD oU : Oper} (nC nD nU : Nat) (JC JD : Option Addr → World → Prop) (JU : Y → World → Prop)
    (hJC : ∀ x w w', JC x w → Ab w w' → JC x w') (hJD : ∀ x w w', JD x w → Ab w w' → JD x w') (hJU : ∀ y w w', JU y w → Ab w w' → JU y w') (vC vD : Option Addr → Value) (vU : Y → Value)
    (hm : P.follows .mixedOrders = true) (hl : l1 ++ oC :: (l2 ++ oD :: (l3 ++ oU :: l4)) = l) (hn1 : l1.length = nC) (hn2 : l2.length + nC + 1 = nD) (hn3 : l3.length + nD + 1 = nU)
    (hB : Region.lexBD .any l.toArray (gmKind nC nD nU) = true) (hgC : oC.guard = none) (hgD : oD.guard = none) (hgU : oU.guard = none) (y0 : Y)
    (h : ∀ w1, Ab W w1 → wpQuiet P l.toArray (fun w' => ∃ p : Regrown, w' = bw w1 p) (fun a1 =>
      (∀ w, Ab W w → Yld P (fun v w' => ∃ x, v = vC x ∧ Ab w w' ∧ JC x w') w ((execOp a1.eval oC).run P w)) ∧
      ∀ x, ∀ w2, Ab W w2 → wpQuiet P l.toArray (fun w' => ∃ p : Regrown, w' = bw w2 p) (fun a2 =>
        (∀ w, Ab W w → Yld P (fun v w' => ∃ x, v = vD x ∧ Ab w w' ∧ JD x w') w ((execOp a2.eval oD).run P w)) ∧
        ∀ y, ∀ w3, Ab W w3 → wpQuiet P l.toArray (fun w' => ∃ p : Regrown, w' = bw w3 p) (fun a3 =>
          (∀ w, Ab W w → JC x w → JD y w → Yld P (fun v w' => ∃ z, v = vU z ∧ Ab w w' ∧ JU z w') w ((execOp a3.eval oU).run P w)) ∧
          ∀ z, pqsTwo P (fun a4 => ∀ w5, Ab W w5 → JC x w5 → JD y w5 → JU z w5 → Q .normal a4 w5) l4 (a3.put oU.dst (vU z))) l3 (a2.put oD.dst (vD y))) l2 (a1.put oC.dst (vC x))) l1 a) :
    (Code.region id l.toArray true).wp P Q a W := by
  obtain ⟨ops, hops⟩ : ∃ ops, ops = l.toArray := ⟨_, rfl⟩
  rw [← hops] at hB h ⊢
  have hget : ∀ j, l[j]? = ops[j]? := fun j => by rw [hops, List.getElem?_toArray]
  have hlen : ops.size = (l1 ++ oC :: (l2 ++ oD :: (l3 ++ oU :: l4))).length := by rw [hops, List.size_toArray, hl]
  simp only [Region.lexBD, Bool.and_eq_true] at hB
  have want : ∀ (o : Oper), o.guard = none → ∀ a : Act, Region.wanted o (yielded ops a.tmps) = true := fun o ho a => by simp [Region.wanted, ho]
  have at1 : ∀ j, j < l1.length → l1[j]? = ops[0 + j]? := fun j hj => by rw [← hget, Nat.zero_add, ← hl, List.getElem?_append_left hj]
  have at2 : ∀ j, (oC :: (l2 ++ oD :: (l3 ++ oU :: l4)))[j]? = ops[nC + j]? := fun j => by
    rw [← hget, ← hl, List.getElem?_append_right (by omega), hn1, Nat.add_sub_cancel_left]
  have gC : ops[nC]? = some oC := by have := at2 0; simpa using this.symm
  have at3 : ∀ j, (l2 ++ oD :: (l3 ++ oU :: l4))[j]? = ops[nC + 1 + j]? := fun j => by
    have := at2 (j + 1); simpa [Nat.add_assoc, Nat.add_comm 1 j] using this
  have at4 : ∀ j, (oD :: (l3 ++ oU :: l4))[j]? = ops[nD + j]? := fun j => by
    have := at3 (l2.length + j)
    rw [List.getElem?_append_right (by omega), Nat.add_sub_cancel_left, show nC + 1 + (l2.length + j) = nD + j from by omega] at this
    exact this
  have gD : ops[nD]? = some oD := by have := at4 0; simpa using this.symm
  have at5 : ∀ j, (l3 ++ oU :: l4)[j]? = ops[nD + 1 + j]? := fun j => by
    have := at4 (j + 1); simpa [Nat.add_assoc, Nat.add_comm 1 j] using this
  have at6 : ∀ j, (oU :: l4)[j]? = ops[nU + j]? := fun j => by
    have := at5 (l3.length + j)
    rw [List.getElem?_append_right (by omega), Nat.add_sub_cancel_left, show nD + 1 + (l3.length + j) = nU + j from by omega] at this
    exact this
  have gU : ops[nU]? = some oU := by have := at6 0; simpa using this.symm
  have k1 : ∀ j, j < l1.length → l1[j]? = ops[0 + j]? ∧ gmKind nC nD nU (0 + j) = .basic := fun j hj => by
    refine ⟨at1 j hj, ?_⟩
    unfold gmKind
    rw [if_neg (by omega), if_neg (by omega), if_neg (by omega), if_neg (by omega)]
  have k2 : ∀ j, j < l2.length → l2[j]? = ops[nC + 1 + j]? ∧ gmKind nC nD nU (nC + 1 + j) = .basic := fun j hj => by
    refine ⟨?_, ?_⟩
    · have := at3 j; rw [List.getElem?_append_left hj] at this; exact this
    · unfold gmKind
      rw [if_neg (by omega), if_neg (by omega), if_neg (by omega), if_neg (by omega)]
  have k3 : ∀ j, j < l3.length → l3[j]? = ops[nD + 1 + j]? ∧ gmKind nC nD nU (nD + 1 + j) = .basic := fun j hj => by
    refine ⟨?_, ?_⟩
    · have := at5 j; rw [List.getElem?_append_left hj] at this; exact this
    · unfold gmKind
      rw [if_neg (by omega), if_neg (by omega), if_neg (by omega), if_neg (by omega)]
  have k4 : ∀ j, j < l4.length → l4[j]? = ops[nU + 1 + j]? ∧ gmKind nC nD nU (nU + 1 + j) = .pure := fun j hj => by
    refine ⟨?_, ?_⟩
    · have := at6 (j + 1); simpa [Nat.add_assoc, Nat.add_comm 1 j] using this
    · unfold gmKind
      rw [if_neg (by omega), if_neg (by omega), if_neg (by omega), if_pos (by omega)]
  have base : Ab W { W with drawn := W.drawn + 1 } := ⟨rfl, rfl, rfl, Nat.le_refl _, fun _ _ => rfl⟩
  have hG := gm_ok (Y := Y) (W := W) (JC := JC) (JD := JD) (JU := JU) (iU := nU) (show nC < nD by omega)
  refine wp_region_any hm (wpAny_of_drift (W := W) (I := GmI W JC JD JU) (early := fun _ => True) (kind := gmKind nC nD nU) (late := fun _ => false) (Ok := fun _ _ => True) (val := gmVal nC vC vD) (upd := gmUpd nC nD)
    (Q := fun a' g => ∃ x y z, g = ⟨some x, some y, some z⟩ ∧ ∀ w5, Ab W w5 → JC x w5 → JD y w5 → JU z w5 → Q .normal a' w5) (fun g w _ h => h.1) (fun g w w' _ h k => gmI_on hJC hJD hJU h k) ?_ _ _ _ ⟨none, none, none⟩ _ ⟨base, fun x hx => (by cases hx), fun x hx => (by cases hx), fun x hx => (by cases hx)⟩ ?_)
  · rintro a' g w' hI ⟨x, y, z, rfl, hQ⟩
    exact hQ w' hI.1 (hI.2.1 x rfl) (hI.2.2.1 y rfl) (hI.2.2.2 z rfl)
  · rw [hlen]
    refine wpAnyD_lex hG hB.1 (fun _ _ _ _ _ _ _ => .inl rfl) _ 0 _ _ _ (by rw [← hlen]; exact closed_start) (fun j => by rw [hl, hget, Nat.zero_add]) (by rw [← hlen]; exact hB.2) ?_
    refine lexD_quiet (kind := gmKind nC nD nU) trivial .basic (.inl ⟨rfl, Ab W, fun _ => Iff.rfl⟩) (Ab W) (.inl ⟨rfl, fun _ h => h⟩) (fun w w' h k => Ab.trans h k) W (Ab.refl W) (fun _ h => h) l1 0 a k1 (fun a1 h1 => ?_) h
    rw [Nat.zero_add, hn1]
    refine dOp_of gC (O := FO (fun _ _ => True) (gmVal nC vC vD) (gmUpd nC nD) nC ⟨none, none, none⟩) ?_ ?_
    · unfold Fam2; rw [if_pos (want oC hgC _)]
      refine .inr (.inr (.inr (.inr ⟨by unfold gmKind; rw [if_pos rfl], trivial, fun g' _ => ⟨⟨_, _, none, trivial, rfl, rfl⟩, fun w hw => ?_⟩, rfl⟩)))
      refine Yld.mono ?_ (h1.1 w hw.1)
      rintro v w' ⟨x, rfl, hab, hj⟩
      refine ⟨_, ⟨x, trivial, by unfold gmVal; rw [if_pos rfl], rfl⟩, ?_⟩
      have hw' := gmI_on hJC hJD hJU hw hab
      rcases g' with ⟨_ | c, d, u⟩
      · have eu : gmUpd nC nD nC ⟨none, d, u⟩ x = ⟨some x, d, u⟩ := by unfold gmUpd; rw [if_pos rfl]
        rw [eu]
        exact ⟨hw'.1, fun q hq => (by cases hq; exact hj), hw'.2.2.1, hw'.2.2.2⟩
      · have e : gmUpd nC nD nC ⟨some c, d, u⟩ x = ⟨some c, d, u⟩ := by unfold gmUpd; rw [if_pos rfl]
        rw [e]; exact hw'
    · rintro v g' ⟨x, _, rfl, rfl⟩
      have eg : gmUpd nC nD nC (⟨none, none, none⟩ : Gm Y) x = ⟨some x, none, none⟩ := by unfold gmUpd; rw [if_pos rfl]
      have ev : gmVal nC vC vD nC x = vC x := by unfold gmVal; rw [if_pos rfl]
      rw [eg, ev]
      refine lexD_quiet (kind := gmKind nC nD nU) trivial .basic (.inl ⟨rfl, Ab W, fun _ => Iff.rfl⟩) (Ab W) (.inl ⟨rfl, fun _ h => h⟩) (fun w w' h k => Ab.trans h k) W (Ab.refl W) (fun _ h => h) l2 (nC + 1) _ k2 (fun a2 h2 => ?_) (h1.2 x)
      rw [show nC + 1 + l2.length = nD from by omega]
      refine dOp_of gD (O := FO (fun _ _ => True) (gmVal nC vC vD) (gmUpd nC nD) nD ⟨some x, none, none⟩) ?_ ?_
      · unfold Fam2; rw [if_pos (want oD hgD _)]
        refine .inr (.inr (.inr (.inr ⟨by unfold gmKind; rw [if_neg (by omega), if_pos rfl], trivial, fun g' _ => ⟨⟨_, _, none, trivial, rfl, rfl⟩, fun w hw => ?_⟩, rfl⟩)))
        refine Yld.mono ?_ (h2.1 w hw.1)
        rintro v w' ⟨y, rfl, hab, hj⟩
        refine ⟨_, ⟨y, trivial, by unfold gmVal; rw [if_neg (by omega)], rfl⟩, ?_⟩
        have hw' := gmI_on hJC hJD hJU hw hab
        rcases g' with ⟨c, _ | d, u⟩
        · have eu : gmUpd nC nD nD ⟨c, none, u⟩ y = ⟨c, some y, u⟩ := by unfold gmUpd; rw [if_neg (by omega), if_pos rfl]
          rw [eu]
          exact ⟨hw'.1, hw'.2.1, fun q hq => (by cases hq; exact hj), hw'.2.2.2⟩
        · have e : gmUpd nC nD nD ⟨c, some d, u⟩ y = ⟨c, some d, u⟩ := by unfold gmUpd; rw [if_neg (by omega), if_pos rfl]
          rw [e]; exact hw'
      · rintro v g' ⟨y, _, rfl, rfl⟩
        have eg : gmUpd nC nD nD (⟨some x, none, none⟩ : Gm Y) y = ⟨some x, some y, none⟩ := by unfold gmUpd; rw [if_neg (by omega), if_pos rfl]
        have ev : gmVal nC vC vD nD y = vD y := by unfold gmVal; rw [if_neg (by omega)]
        rw [eg, ev]
        refine lexD_quiet (kind := gmKind nC nD nU) trivial .basic (.inl ⟨rfl, Ab W, fun _ => Iff.rfl⟩) (Ab W) (.inl ⟨rfl, fun _ h => h⟩) (fun w w' h k => Ab.trans h k) W (Ab.refl W) (fun _ h => h) l3 (nD + 1) _ k3 (fun a3 h3 => ?_) (h2.2 y)
        rw [show nD + 1 + l3.length = nU from by omega]
        refine dOp_of gU (O := fun v g' => ∃ z, v = vU z ∧ g' = ⟨some x, some y, some z⟩) ?_ ?_
        · unfold Fam2; rw [if_pos (want oU hgU _)]
          refine .inr (.inr (.inr (.inl ⟨by unfold gmKind; rw [if_neg (by omega), if_neg (by omega), if_pos rfl], trivial, ⟨⟨_, _, y0, rfl, rfl⟩, fun w hw => ?_⟩, fun _ _ _ _ => trivial⟩)))
          refine Yld.mono ?_ (h3.1 w hw.1 (hw.2.1 x rfl) (hw.2.2.1 y rfl))
          rintro v w' ⟨z, rfl, hab, hj⟩
          have hw' := gmI_on hJC hJD hJU hw hab
          exact ⟨_, ⟨z, rfl, rfl⟩, hw'.1, hw'.2.1, hw'.2.2.1, fun q hq => by cases hq; exact hj⟩
        · rintro v g' ⟨z, rfl, rfl⟩
          refine lexD_pqsTwo l4 (nU + 1) _ k4 ?_
          exact pqs_monoTwo (fun a' hq => ⟨x, y, z, rfl, hq⟩) l4 _ (h3.2 z)

/-- A field as it lies in memory: four cells. -/
structure Fd where
  s : ByteArray
  k : Int
  t : Int
  z : Int
instance : Inhabited Fd := ⟨⟨ByteArray.empty, 0, 0, 0⟩⟩
def Fd.fits (f : Fd) : Prop := f.s.size ≤ maxLen ∧ I8 f.k ∧ I16 f.t ∧ I16 f.z
def fdAt (fs : List Fd) (i : Nat) : Fd := fs.getD i default
theorem fdAt_map (f : Nat → Fd) (n i : Nat) (h : i < n) : fdAt ((List.range n).map f) i = f i := by
  unfold fdAt; simp [List.getD, h]

/-- The cells of the field with index i lie behind an address. -/
def FdCell (w : World) (a : Option Addr) (i : Nat) (f : Fd) : Prop := f.fits ∧ ∃ b off, a = some ⟨b, off, none⟩ ∧ b < w.heap.size ∧
  w.cell? ⟨b, off + i * 4, none⟩ = some (.string f.s) ∧ w.cell? ⟨b, off + i * 4 + 1, none⟩ = some (.int .i8 f.k) ∧ w.cell? ⟨b, off + i * 4 + 2, none⟩ = some (.int .i16 f.t) ∧ w.cell? ⟨b, off + i * 4 + 3, none⟩ = some (.int .i16 f.z)
/-- The fields of a slice lie in memory. -/
def FieldsIn (w : World) (a : Option Addr) (fs : List Fd) : Prop := ∀ i, i < fs.length → FdCell w a i (fdAt fs i)
theorem fdCell_below {w w' : World} {a : Option Addr} {i : Nat} {f : Fd} (h : FdCell w a i f) (hb : Below w.heap.size w w') : FdCell w' a i f := by
  obtain ⟨hf, b, off, ha, hlt, h0, h1, h2, h3⟩ := h
  exact ⟨hf, b, off, ha, Nat.lt_of_lt_of_le hlt hb.size, (hb.cell hlt).trans h0, (hb.cell hlt).trans h1, (hb.cell hlt).trans h2, (hb.cell hlt).trans h3⟩
theorem fieldsIn_below {w w' : World} {a : Option Addr} {fs : List Fd} (h : FieldsIn w a fs) (hb : Below w.heap.size w w') : FieldsIn w' a fs := fun i hi => fdCell_below (h i hi) hb

/-- A new slice with just these fields, in a block from B on. -/
def NewFields (B : Nat) (fs : List Fd) (v : Value) (w : World) : Prop := ∃ g, v = .slice (some ⟨g, 0, none⟩) fs.length fs.length ∧ B ≤ g ∧ g < w.heap.size ∧ FieldsIn w (some ⟨g, 0, none⟩) fs ∧ ∀ j, w.frozen? ⟨g, j, none⟩ = false

theorem open_fields {H : Type} {enc : TypeId × Value → H} {P : Program} {W : World} {t e : TypeId} {f0 f1 f2 f3 : Field} {v : Value} {d : DataW H} {p : List MemPlace} {r : Reach} {b : Nat} (ht : P.underlying t = some (.slice e)) (he : P.underlying e = some (.struct #[f0, f1, f2, f3])) (hs : P.underlying f0.type = some .string) (h8 : P.underlying f1.type = some (.int .i8)) (h16 : P.underlying f2.type = some (.int .i16)) (h17 : P.underlying f3.type = some (.int .i16))
    (ce : P.cellsOf e = 4) (c0 : P.cellsOf f0.type = 1) (c1 : P.cellsOf f1.type = 1) (c2 : P.cellsOf f2.type = 1) (c3 : P.cellsOf f3.type = 1) (o0 : f0.offset = 0) (o1 : f1.offset = 1) (o2 : f2.offset = 2) (o3 : f3.offset = 3)
    (hv : Value.okWide P W r b t v) (h : DataW.Trod enc P W 0 (fun _ => true) true t v d p) : ∃ a fs cap, v = .slice a fs.length cap ∧ FieldsIn W a fs ∧ fs.length ≤ maxLen := by
  obtain ⟨a0, len, cap, rfl⟩ := okWide_slice ht hv
  obtain ⟨fuel, hf⟩ := h
  rcases Go.Deep.open_slice ht hf with ⟨hcs, _⟩ | ⟨a, len', cap', m, n, D, Pl, hcs, _, hl, hcm, hm, _, hi⟩
  · simp [Value.cells] at hcs
    obtain ⟨rfl, rfl, rfl⟩ := hcs
    exact ⟨none, [], 0, rfl, fun i hi => by simp at hi, by simp⟩
  · simp [Value.cells] at hcs
    obtain ⟨rfl, rfl, rfl⟩ := hcs
    simp at hm
    subst hm
    have key : ∀ i, i < len → ∃ c : Fd, c.fits ∧ W.cell? (a.add (i * 4)) = some (.string c.s) ∧ W.cell? (a.add (i * 4 + 1)) = some (.int .i8 c.k) ∧ W.cell? (a.add (i * 4 + 2)) = some (.int .i16 c.t) ∧ W.cell? (a.add (i * 4 + 3)) = some (.int .i16 c.z) := by
      intro i hi'
      obtain ⟨cs', hc, hd⟩ := hi i (by omega)
      rw [ce] at hc
      obtain ⟨_, hlen, hat⟩ := World.cells?_some hc
      obtain ⟨xs, n1, _, _, _, hxl, hfs⟩ := DataW.trod_struct he hd
      match cs', hlen with
      | [x0, x1, x2, x3], _ =>
        have g0 := hfs 0 f0 rfl
        have g1 := hfs 1 f1 rfl
        have g2 := hfs 2 f2 rfl
        have g3 := hfs 3 f3 rfl
        rw [o0, c0] at g0
        rw [o1, c1] at g1
        rw [o2, c2] at g2
        rw [o3, c3] at g3
        match xs, hxl with
        | [y0, y1, y2, y3], _ =>
          simp at g0 g1 g2 g3
          obtain ⟨s, hs0, _, hs1⟩ := DataW.trod_string hs g0
          obtain ⟨n1, e1, _, w1⟩ := DataW.trod_int h8 g1
          obtain ⟨n2, e2, _, w2⟩ := DataW.trod_int h16 g2
          obtain ⟨n3, e3, _, w3⟩ := DataW.trod_int h17 g3
          simp at hs0 e1 e2 e3
          subst hs0 e1 e2 e3
          simp [Lit.wf, IntKind.min, IntKind.max, IntKind.signed, IntKind.bits] at w1 w2 w3
          have u1 : I8 n1 := ⟨by omega, by omega⟩
          have u2 : I16 n2 := ⟨by omega, by omega⟩
          have u3 : I16 n3 := ⟨by omega, by omega⟩
          have a0 := hat 0 (by omega)
          have a1 := hat 1 (by omega)
          have a2 := hat 2 (by omega)
          have a3 := hat 3 (by omega)
          rw [Go.Deep.add_add] at a0 a1 a2 a3
          exact ⟨⟨s, n1, n2, n3⟩, ⟨hs1, u1, u2, u3⟩, a0, a1, a2, a3⟩
    obtain ⟨f, hf2⟩ := Go.Deep.choose_lt key
    refine ⟨some a, (List.range len).map f, m, by simp, fun i hi' => ?_, by simp; omega⟩
    simp at hi'
    rw [fdAt_map f len i hi']
    obtain ⟨hfit, q0, q1, q2, q3⟩ := hf2 i hi'
    obtain ⟨b, off, spot⟩ := a
    have hspot : spot = none := by simpa [Addr.add] using World.cell?_spot (hf2 0 (by omega)).2.1
    subst hspot
    exact ⟨hfit, b, off, rfl, by have h := World.block_lt_of_cell? _ _ q0; rw [Go.WideShapes.add_plain] at h; exact h, by rw [← Go.WideShapes.add_plain]; exact q0, by rw [Nat.add_assoc, ← Go.WideShapes.add_plain]; exact q1, by rw [Nat.add_assoc, ← Go.WideShapes.add_plain]; exact q2, by rw [Nat.add_assoc, ← Go.WideShapes.add_plain]; exact q3⟩

def szf (l : Int) (n : Nat) : Int := if l - (n : Int) < 0 then -1 else l - (n : Int)
theorem szf_no {l : Int} {n : Nat} (h : l - (n : Int) < 0) : szf l n = -1 := by unfold szf; rw [if_pos h]
theorem szf_yes {l : Int} {n : Nat} (h : ¬ l - (n : Int) < 0) : szf l n = l - (n : Int) := by unfold szf; rw [if_neg h]

set_option maxHeartbeats 800000 in
theorem szField_any (s : ByteArray) (k t z l : Int) (hs : s.size ≤ maxLen) (l0 : 0 ≤ l) (l1 : l ≤ 1048576) (w : World) :
    Calls Try.prog 14 #[.agg #[.string s, .int .i8 k, .int .i16 t, .int .i16 z], .int .i64 l] w fun e w' => e = .returned (.int .i64 (szf l s.size)) ∧ Below w.heap.size w w' := by
  unfold maxLen at hs
  have d1 : IntKind.i64.wrap (l - (s.size : Int)) = l - (s.size : Int) := IntWalk.i64_in _ (by omega)
  by_cases h : l - (s.size : Int) < 0
  · have d2 : decide (l - (s.size : Int) < 0) = true := by simp; omega
    rw [szf_no h]
    go_enter Try.func14, Try.ntmps14
    go_wp2
    go_returns
    exact ⟨rfl, (by repeat' (first | (with_reducible exact Below.refl _ _) | (with_reducible assumption) | (with_reducible refine below_drewN ?_ _) | (with_reducible refine Below.drew ?_) | (with_reducible refine below_new ?_ _) | (with_reducible refine below_next ?_ (by with_reducible assumption)) | (with_reducible refine Below.setCell ?_ ?_ _) | go_size))⟩
  · have d2 : decide (l - (s.size : Int) < 0) = false := by simp; omega
    rw [szf_yes h]
    go_enter Try.func14, Try.ntmps14
    go_wp2
    go_returns
    exact ⟨rfl, (by repeat' (first | (with_reducible exact Below.refl _ _) | (with_reducible assumption) | (with_reducible refine below_drewN ?_ _) | (with_reducible refine Below.drew ?_) | (with_reducible refine below_new ?_ _) | (with_reducible refine below_next ?_ (by with_reducible assumption)) | (with_reducible refine Below.setCell ?_ ?_ _) | go_size))⟩

/-- What a measuring leaves: no more than there was, and no more fields than it. -/
def SzF (n : Nat) (w : World) (e : Ending) (w' : World) : Prop := ∃ z : Int, e = .returned (.int .i64 z) ∧ -1 ≤ z ∧ z ≤ 1048576 ∧ (0 ≤ z → n ≤ 1048576) ∧ Below w.heap.size w w'


set_option maxHeartbeats 800000 in
theorem toField_b (s : ByteArray) (k t z : Int) (w : World) :
    Calls Try.prog 16 #[.agg #[.string s, .int .i8 k, .int .i16 t, .int .i16 z]] w fun e w' => e = .returned (.agg #[.string s, .int .i8 k, .int .i16 t, .int .i16 z]) ∧ Below w.heap.size w w' := by
  go_enter Try.func16, Try.ntmps16
  go_wp2
  go_returns
  exact ⟨rfl, (by repeat' (first | (with_reducible exact Below.refl _ _) | (with_reducible assumption) | (with_reducible refine below_drewN ?_ _) | (with_reducible refine Below.drew ?_) | (with_reducible refine below_new ?_ _) | (with_reducible refine below_next ?_ (by with_reducible assumption)) | (with_reducible refine Below.setCell ?_ ?_ _) | go_size))⟩



def cell4 (c : Fd) (r : Nat) : Value := if r = 0 then .string c.s else if r = 1 then .int .i8 c.k else if r = 2 then .int .i16 c.t else .int .i16 c.z
/-- k fields carried over, empty ones behind. -/
def rowF (cs : List Fd) (k : Nat) : List Value := (List.range (cs.length * 4)).map fun i => cell4 (if i / 4 < k then fdAt cs (i / 4) else default) (i % 4)
theorem rowF_len (cs : List Fd) (k : Nat) : (rowF cs k).length = cs.length * 4 := by unfold rowF; simp
theorem rowF_get (cs : List Fd) (k i : Nat) (h : i < cs.length * 4) : (rowF cs k)[i]? = some (cell4 (if i / 4 < k then fdAt cs (i / 4) else default) (i % 4)) := by
  unfold rowF; rw [List.getElem?_map, List.getElem?_range h]; rfl
theorem rowF_next (cs : List Fd) (k : Nat) (h : k < cs.length) :
    ((((rowF cs k).set (k * 4) (.string (fdAt cs k).s)).set (k * 4 + 1) (.int .i8 (fdAt cs k).k)).set (k * 4 + 2) (.int .i16 (fdAt cs k).t)).set (k * 4 + 3) (.int .i16 (fdAt cs k).z) = rowF cs (k + 1) := by
  apply List.ext_getElem?
  intro i
  rw [List.getElem?_set, List.getElem?_set, List.getElem?_set, List.getElem?_set]
  simp only [List.length_set, rowF_len]
  by_cases hi : i < cs.length * 4
  · rw [rowF_get cs (k + 1) i hi]
    by_cases e3 : k * 4 + 3 = i
    · subst e3
      rw [if_pos rfl, if_pos hi, show (k * 4 + 3) / 4 = k by omega, show (k * 4 + 3) % 4 = 3 by omega, if_pos (Nat.lt_succ_self k)]; rfl
    · rw [if_neg e3]
      by_cases e2 : k * 4 + 2 = i
      · subst e2
        rw [if_pos rfl, if_pos hi, show (k * 4 + 2) / 4 = k by omega, show (k * 4 + 2) % 4 = 2 by omega, if_pos (Nat.lt_succ_self k)]; rfl
      · rw [if_neg e2]
        by_cases e1 : k * 4 + 1 = i
        · subst e1
          rw [if_pos rfl, if_pos hi, show (k * 4 + 1) / 4 = k by omega, show (k * 4 + 1) % 4 = 1 by omega, if_pos (Nat.lt_succ_self k)]; rfl
        · rw [if_neg e1]
          by_cases e0 : k * 4 = i
          · subst e0
            rw [if_pos rfl, if_pos hi, show k * 4 / 4 = k by omega, show k * 4 % 4 = 0 by omega, if_pos (Nat.lt_succ_self k)]; rfl
          · rw [if_neg e0, rowF_get cs k i hi]
            by_cases c : i / 4 < k
            · rw [if_pos c, if_pos (by omega)]
            · rw [if_neg c, if_neg (by omega)]
  · rw [List.getElem?_eq_none (by rw [rowF_len]; omega), List.getElem?_eq_none (by rw [rowF_len]; omega)]
    repeat (split; · first | omega | rfl)
    first | rfl | (split <;> first | omega | rfl)

theorem rowF_zero (cs : List Fd) : (madeCells #[.string ByteArray.empty, .int .i8 0, .int .i16 0, .int .i16 0] (cs.length * 4)).toList = rowF cs 0 := by
  apply List.ext_getElem?
  intro i
  by_cases hi : i < cs.length * 4
  · rw [rowF_get cs 0 i hi, if_neg (Nat.not_lt_zero _)]
    have h3 : i % 4 = 0 ∨ i % 4 = 1 ∨ i % 4 = 2 ∨ i % 4 = 3 := by omega
    rcases h3 with h | h | h | h <;> simp [madeCells, hi, h, cell4] <;> rfl
  · rw [List.getElem?_eq_none (by simp [madeCells]; omega), List.getElem?_eq_none (by rw [rowF_len]; omega)]

theorem info_field : (Try.prog.info? 38).map (fun i => (i.zero, i.size, i.bytes)) = some (some (.agg #[.string ByteArray.empty, .int .i8 0, .int .i16 0, .int .i16 0]), 4, 24) := by kernel_rfl

theorem ownsRowF_below {w w' : World} {B e size n : Nat} {v : Value} {xs : List Value} (h : w.ownsRow B e size v n xs) (hb : Below w.heap.size w w') : w'.ownsRow B e size v n xs := by
  obtain ⟨h1, h2⟩ := h
  refine ⟨h1, ?_⟩
  rcases h2 with hn | ⟨g, cap, cur, rfl, hB, hg, rest⟩
  · exact .inl hn
  · exact .inr ⟨g, cap, cur, rfl, hB, (hb.block g (Array.getElem?_eq_some_iff.1 hg).1).trans hg, rest⟩

def NewF (cs : List Fd) (w : World) (e : Ending) (w' : World) : Prop := ∃ v, e = .returned v ∧ NewFields w.heap.size cs v w' ∧ Below w.heap.size w w'


set_option maxHeartbeats 1600000 in
theorem szCardS2_any (ad : Option Addr) (cs : List Cd) (c : Nat) (l : Int) (w : World) (hc : CardsIn w ad cs) (l0 : 0 ≤ l) (l1 : l ≤ 1048576) (hn : cs.length ≤ 9223372036854775807) :
    Calls Try.prog 7 #[.slice ad cs.length c, .int .i64 l] w (fun e w' => ∃ z : Int, e = .returned (.int .i64 z) ∧ -1 ≤ z ∧ z ≤ 1048576 ∧ (0 ≤ z → cs.length ≤ 1048576 ∧ z + (cs.length : Int) ≤ l) ∧ Below w.heap.size w w') := by
  have C := Lib.hid hc
  clear hc
  have d1 : IntKind.i64.wrap (l - (cs.length : Int)) = l - (cs.length : Int) := IntWalk.i64_in _ (by omega)
  have HN := Lib.hid hn
  clear hn
  by_cases h : l - (cs.length : Int) < 0
  · have d2 : decide (l - (cs.length : Int) < 0) = true := by simp; omega
    go_enter Try.func7, Try.ntmps7
    go_wp2
    go_ret
    exact ⟨-1, rfl, by omega, by omega, by omega, (by repeat' (first | (with_reducible exact Below.refl _ _) | (with_reducible assumption) | (with_reducible refine below_drewN ?_ _) | (with_reducible refine Below.drew ?_) | (with_reducible refine below_new ?_ _) | (with_reducible refine below_next ?_ (by with_reducible assumption)) | (with_reducible refine Below.setCell ?_ ?_ _) | go_size))⟩
  · have d2 : decide (l - (cs.length : Int) < 0) = false := by simp; omega
    have hk : cs.length ≤ 1048576 := by omega
    go_enter Try.func7, Try.ntmps7
    go_wp2
    go_loopw [1, 5] (fun q i wr => ∃ (j : Nat) (m : Int), j ≤ cs.length ∧ i = .int .i64 j ∧ q = .int .i64 m ∧ 0 ≤ m ∧ m ≤ l - (cs.length : Int) ∧ Below w.heap.size w wr) (fun _ i _ => cs.length - (intOf i).toNat)
    case atStart => exact ⟨0, _, Nat.zero_le _, rfl, rfl, by omega, by omega, Below.refl _ _⟩
    case round =>
      obtain ⟨j, m, hj, rfl, rfl, m0, m1, hB⟩ := hrel
      have BB := Lib.hid hB
      clear d1 d2
      by_cases hjl : j < cs.length
      · have hd : decide ((j : Int) < (cs.length : Int)) = true := by simpa using hjl
        obtain ⟨⟨f0, _, _⟩, b1, o1, rfl, hb1, q0, q1, q2⟩ := C.out j hjl
        have e0 := (hB.cell (p := ⟨b1, o1 + j * 3, none⟩) hb1).trans q0
        have e1 := (hB.cell (p := ⟨b1, o1 + j * 3 + 1, none⟩) hb1).trans q1
        have e2 := (hB.cell (p := ⟨b1, o1 + j * 3 + 2, none⟩) hb1).trans q2
        have i1 : (0 : Int) ≤ (j : Int) := by omega
        have i2 : (j : Int) < (cs.length : Int) := by omega
        generalize cdAt cs j = x at *
        obtain ⟨s, a, b⟩ := x
        simp only at f0 e0 e1 e2
        have K := Lib.hid fun W => szCard_any s a b m f0 m0 (by omega) W
        clear hB q0 q1 q2
        by_cases hz : m - (s.size : Int) < 0
        · rw [szc_no hz] at K
          clear hz
          go_wp2_with (go_at_call 18; refine (K.out _).mono ?_; rintro e w2 ⟨rfl, hB2⟩; have B2 := Lib.hid hB2; clear hB2)
          go_ret
          exact ⟨-1, rfl, by omega, by omega, by omega, below_next BB.out B2.out⟩
        · rw [szc_yes hz] at K
          have y0 : 0 ≤ m - (s.size : Int) := by omega
          have y1 : m - (s.size : Int) ≤ l - (cs.length : Int) := by omega
          have y2 : decide (m - (s.size : Int) < 0) = false := by simp; omega
          clear hz
          generalize m - (s.size : Int) = m2 at *
          go_wp2_with (go_at_call 18; refine (K.out _).mono ?_; rintro e w2 ⟨rfl, hB2⟩; have B2 := Lib.hid hB2; clear hB2)
          exact ⟨⟨j + 1, m2, hjl, by rw [Int.natCast_succ], rfl, y0, y1, below_next BB.out B2.out⟩, by (simp [intOf]) <;> omega⟩
      · have e : j = cs.length := by omega
        subst e
        have hd : decide ((cs.length : Int) < (cs.length : Int)) = false := by simp
        clear hB
        go_wp2
        go_ret
        exact ⟨m, rfl, by omega, by omega, fun _ => ⟨hk, by omega⟩, BB.out⟩

theorem wp_region_make2_at {P : Program} {id : Nat} {Q : Exit → Act → World → Prop} {a : Act} {W : World} {Y : Type} {l : List Oper} {oC oD oU : Oper} (nC m1 m2 : Nat) (JC JD : Option Addr → World → Prop) (JU : Y → World → Prop)
    (hJC : ∀ x w w', JC x w → Ab w w' → JC x w') (hJD : ∀ x w w', JD x w → Ab w w' → JD x w') (hJU : ∀ y w w', JU y w → Ab w w' → JU y w') (vC vD : Option Addr → Value) (vU : Y → Value)
    (hm : P.follows .mixedOrders = true) (hl : l.take nC ++ oC :: ((l.drop (nC + 1)).take m1 ++ oD :: ((l.drop (nC + 1 + m1 + 1)).take m2 ++ oU :: l.drop (nC + 1 + m1 + 1 + m2 + 1))) = l) (hn1 : (l.take nC).length = nC) (hn2 : ((l.drop (nC + 1)).take m1).length = m1) (hn3 : ((l.drop (nC + 1 + m1 + 1)).take m2).length = m2)
    (hB : Region.lexBD .any l.toArray (gmKind nC (nC + 1 + m1) (nC + 1 + m1 + 1 + m2)) = true) (hgC : oC.guard = none) (hgD : oD.guard = none) (hgU : oU.guard = none) (y0 : Y)
    (h : ∀ w1, Ab W w1 → wpQuiet P l.toArray (fun w' => ∃ p : Regrown, w' = bw w1 p) (fun a1 =>
      (∀ w, Ab W w → Yld P (fun v w' => ∃ x, v = vC x ∧ Ab w w' ∧ JC x w') w ((execOp a1.eval oC).run P w)) ∧
      ∀ x, ∀ w2, Ab W w2 → wpQuiet P l.toArray (fun w' => ∃ p : Regrown, w' = bw w2 p) (fun a2 =>
        (∀ w, Ab W w → Yld P (fun v w' => ∃ x, v = vD x ∧ Ab w w' ∧ JD x w') w ((execOp a2.eval oD).run P w)) ∧
        ∀ y, ∀ w3, Ab W w3 → wpQuiet P l.toArray (fun w' => ∃ p : Regrown, w' = bw w3 p) (fun a3 =>
          (∀ w, Ab W w → JC x w → JD y w → Yld P (fun v w' => ∃ z, v = vU z ∧ Ab w w' ∧ JU z w') w ((execOp a3.eval oU).run P w)) ∧
          ∀ z, pqsTwo P (fun a4 => ∀ w5, Ab W w5 → JC x w5 → JD y w5 → JU z w5 → Q .normal a4 w5) (l.drop (nC + 1 + m1 + 1 + m2 + 1)) (a3.put oU.dst (vU z))) ((l.drop (nC + 1 + m1 + 1)).take m2) (a2.put oD.dst (vD y))) ((l.drop (nC + 1)).take m1) (a1.put oC.dst (vC x))) (l.take nC) a) :
    (Code.region id l.toArray true).wp P Q a W :=
  wp_region_make2 nC (nC + 1 + m1) (nC + 1 + m1 + 1 + m2) JC JD JU hJC hJD hJU vC vD vU hm hl hn1 (by rw [hn2]; omega) (by rw [hn3]; omega) hB hgC hgD hgU y0 h
theorem wb_oth {w w' : World} {g q m : Nat} (h : Wb w g m) (ho : Oth q w w') (hne : g ≠ q) (hl : g < w.heap.size) : Wb w' g m := by
  have e := ho.block g hne hl
  exact ⟨fun j hj => (h.1 j hj).imp fun v hv => (by simpa [World.cell?, e] using hv), fun j hj => by simpa [World.frozen?, e] using h.2 j hj⟩
end Go.Proofs.Ytdbkplfkilaoeaa
