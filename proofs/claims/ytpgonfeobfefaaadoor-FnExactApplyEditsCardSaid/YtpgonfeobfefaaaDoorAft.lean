/- The region 'a, code := F(toS(x), q)': one call makes memory, a later one takes it and makes memory too, a variable is made at whatever time, and the first result is stored into it. -/
import Derived.Test.YtpgonfeobfefaaaDoorDrift2
namespace Go.Proofs.YtpgonfeobfefaaaDoor
open Go.ChangeShapes Go.WideShapes Go.ChangeAt Go.RowKit
namespace D2

/-- Operations each of which has a value that hangs on no world. -/
def pqsA (P : Program) (K : Act → Prop) : List Oper → Act → Prop
  | [], a => K a
  | o :: l, a => o.guard = none ∧ ∃ v, PQ P o a v ∧ pqsA P K l (a.put o.dst v)
theorem pqs_monoA {P : Program} {K K' : Act → Prop} (hK : ∀ a, K a → K' a) : ∀ (l : List Oper) (a : Act), pqsA P K l a → pqsA P K' l a
  | [], a, h => hK a h
  | _ :: l, _, ⟨hg, v, hv, h⟩ => ⟨hg, v, hv, pqs_monoA hK l _ h⟩
theorem lexD_pqsA {P : Program} {ops : Array Oper} {W : World} {G X : Type} {I : G → World → Prop} {early : G → Prop} {kind : Nat → Kd} {late : Nat → Bool} {Ok : Nat → X → Prop} {val : Nat → X → Value} {upd : Nat → G → X → G} {le : G → G → Prop} {Q : Act → G → Prop} {g : G} {rest : List Oper} : ∀ (l : List Oper) (k : Nat) (a : Act), (∀ j, j < l.length → l[j]? = ops[k + j]? ∧ kind (k + j) = .pure) →
    pqsA P (fun a => lexD P ops W I early kind late Ok val upd le Q rest (k + l.length) a g) l a → lexD P ops W I early kind late Ok val upd le Q (l ++ rest) k a g
  | [], k, _, _, h => h
  | o :: l, k, a, hl, h => by
    have h0 : ops[k]? = some o := by simpa using (hl 0 (by simp)).1.symm
    have hpk : kind k = .pure := by simpa using (hl 0 (by simp)).2
    obtain ⟨hg, v, hv, hr⟩ := h
    show dOp P ops W I early kind late Ok val upd le k (lexD P ops W I early kind late Ok val upd le Q (l ++ rest) (k + 1)) a g
    refine dOp_of h0 (O := One v g) ?_ ?_
    · unfold Fam2; rw [if_pos (by simp [Region.wanted, hg])]; exact .inl ⟨hpk, v, hv, rfl⟩
    · rintro v' g' ⟨rfl, rfl⟩
      refine lexD_pqsA l (k + 1) _ (fun j hj => by have := hl (j + 1) (by simp; omega); simpa [Nat.add_assoc, Nat.add_comm 1 j] using this) ?_
      exact pqs_monoA (fun a h => by simpa [Nat.add_assoc, Nat.add_comm 1] using h) l _ hr

structure Ga (X Y : Type) where
  c : Option X
  u : Option Y
  al : Option Nat
  full : Option Y
def GaI {X Y : Type} (W : World) (JC : X → World → Prop) (JU : Y → World → Prop) (Z : Obj) (Z' : Y → Obj) (g : Ga X Y) (w : World) : Prop :=
  Ab W w ∧ (∀ x, g.c = some x → JC x w) ∧ (∀ y, g.u = some y → JU y w) ∧ (∀ b, g.al = some b → W.heap.size ≤ b ∧ w.heap[b]? = some (match g.full with | none => Z | some y => Z' y))
def gaUpd {X Y : Type} (iC iU iA : Nat) (i : Nat) (g : Ga X Y) (x : X ⊕ Y ⊕ Nat) : Ga X Y :=
  if i = iC then (match x, g.c with | .inl a, none => { g with c := some a } | _, _ => g)
  else if i = iU then (match x, g.u with | .inr (.inl y), none => { g with u := some y } | _, _ => g)
  else if i = iA then (match x, g.al, g.full with | .inr (.inr b), none, none => { g with al := some b } | _, _, _ => g)
  else g
def gaOk {X Y : Type} (W : World) (iC iU iA : Nat) (i : Nat) (x : X ⊕ Y ⊕ Nat) : Prop := (i = iC → ∃ a, x = .inl a) ∧ (i = iU → ∃ y, x = .inr (.inl y)) ∧ (i = iA → ∃ b, x = .inr (.inr b) ∧ W.heap.size ≤ b)
def gaVal {X Y : Type} (vC : X → Value) (vU : Y → Value) (_ : Nat) : X ⊕ Y ⊕ Nat → Value
  | .inl a => vC a
  | .inr (.inl y) => vU y
  | .inr (.inr b) => .pointer (some ⟨b, 0, none⟩)
def gaKind (iC iU iA : Nat) (i : Nat) : Kd := if i = iC then .free else if i = iU then .aft else if i = iA then .free else if i = iA + 1 then .loud else if iU < i then .pure else .basic
def gaLe {X Y : Type} (g g' : Ga X Y) : Prop := ∀ x, g.c = some x → g'.c = some x

theorem gaUpd_C {X Y : Type} {iC iU iA : Nat} (_h1 : iC < iU) (_h2 : iU < iA) (g : Ga X Y) (x : X ⊕ Y ⊕ Nat) : gaUpd iC iU iA iC g x = (match x, g.c with | .inl a, none => { g with c := some a } | _, _ => g) := by unfold gaUpd; rw [if_pos rfl]
theorem gaUpd_U {X Y : Type} {iC iU iA : Nat} (h1 : iC < iU) (_h2 : iU < iA) (g : Ga X Y) (x : X ⊕ Y ⊕ Nat) : gaUpd iC iU iA iU g x = (match x, g.u with | .inr (.inl y), none => { g with u := some y } | _, _ => g) := by unfold gaUpd; rw [if_neg (by omega), if_pos rfl]
theorem gaUpd_A {X Y : Type} {iC iU iA : Nat} (h1 : iC < iU) (h2 : iU < iA) (g : Ga X Y) (x : X ⊕ Y ⊕ Nat) : gaUpd iC iU iA iA g x = (match x, g.al, g.full with | .inr (.inr b), none, none => { g with al := some b } | _, _, _ => g) := by unfold gaUpd; rw [if_neg (by omega), if_neg (by omega), if_pos rfl]
theorem gaKind_free {iC iU iA i : Nat} (h : gaKind iC iU iA i = .free) : i = iC ∨ i = iA := by
  unfold gaKind at h
  repeat (split at h; · first | exact .inl ‹_› | exact .inr ‹_› | cases h)
  cases h
theorem gaKind_aft {iC iU iA i : Nat} (h : gaKind iC iU iA i = .aft) : i = iU := by
  unfold gaKind at h
  repeat (split at h; · first | assumption | cases h)
  cases h

theorem ga_ok {X Y : Type} {W : World} {JC : X → World → Prop} {JU : Y → World → Prop} {Z : Obj} {Z' : Y → Obj} {iC iU iA : Nat} (h1 : iC < iU) (h2 : iU < iA) : GhostOk (GaI W JC JU Z Z') (fun _ => True) (gaKind iC iU iA) (gaUpd iC iU iA) gaLe where
  refl := fun _ _ h => h
  trans := fun _ _ _ h k x hx => k x (h x hx)
  up := fun i g x hk y hy => by
    rcases gaKind_free hk with rfl | rfl
    · rw [gaUpd_C h1 h2]; rcases g with ⟨_ | _, _, _, _⟩ <;> rcases x with a | a | a <;> simp_all
    · rw [gaUpd_A h1 h2]; rcases g with ⟨_, _, _ | _, _ | _⟩ <;> rcases x with a | a | a <;> simp_all
  early := fun _ _ _ _ _ => trivial
  more := fun i g x w hk h => by
    obtain ⟨k1, k2, k3, k4⟩ := h
    rcases gaKind_free hk with rfl | rfl
    · rw [gaUpd_C h1 h2] at k2 k3 k4
      rcases g with ⟨_ | _, _, _, _⟩ <;> rcases x with a | a | a <;> exact ⟨k1, fun y hy => (by first | exact k2 y hy | cases hy), k3, k4⟩
    · rw [gaUpd_A h1 h2] at k2 k3 k4
      rcases g with ⟨_, _, _ | _, _ | _⟩ <;> rcases x with a | a | a <;> exact ⟨k1, k2, k3, fun b hb => (by first | exact k4 b hb | cases hb)⟩
  comm := fun i j g x y hi hj hij => by
    rcases gaKind_free hj with rfl | rfl
    · rcases hi with hi | hi
      · rcases gaKind_free hi with rfl | rfl
        · exact absurd rfl hij
        · rw [gaUpd_A h1 h2, gaUpd_C h1 h2, gaUpd_A h1 h2, gaUpd_C h1 h2]
          rcases g with ⟨_ | _, _, _ | _, _ | _⟩ <;> rcases x with a | a | a <;> rcases y with b | b | b <;> rfl
      · have := gaKind_aft hi; subst this
        rw [gaUpd_U h1 h2, gaUpd_C h1 h2, gaUpd_U h1 h2, gaUpd_C h1 h2]
        rcases g with ⟨_ | _, _ | _, _, _⟩ <;> rcases x with a | a | a <;> rcases y with b | b | b <;> rfl
    · rcases hi with hi | hi
      · rcases gaKind_free hi with rfl | rfl
        · rw [gaUpd_A h1 h2, gaUpd_C h1 h2, gaUpd_A h1 h2, gaUpd_C h1 h2]
          rcases g with ⟨_ | _, _, _ | _, _ | _⟩ <;> rcases x with a | a | a <;> rcases y with b | b | b <;> rfl
        · exact absurd rfl hij
      · have := gaKind_aft hi; subst this
        rw [gaUpd_U h1 h2, gaUpd_A h1 h2, gaUpd_U h1 h2, gaUpd_A h1 h2]
        rcases g with ⟨_, _ | _, _ | _, _ | _⟩ <;> rcases x with a | a | a <;> rcases y with b | b | b <;> rfl

theorem gaI_on {X Y : Type} {W : World} {JC : X → World → Prop} {JU : Y → World → Prop} (hC : ∀ x w w', JC x w → Ab w w' → JC x w') (hU : ∀ y w w', JU y w → Ab w w' → JU y w') {Z : Obj} {Z' : Y → Obj} {g : Ga X Y} {w w' : World} (h : GaI W JC JU Z Z' g w) (k : Ab w w') : GaI W JC JU Z Z' g w' :=
  ⟨h.1.trans k, fun x hx => hC x w w' (h.2.1 x hx) k, fun y hy => hU y w w' (h.2.2.1 y hy) k, fun b hb => ⟨(h.2.2.2 b hb).1, by rw [k.block (h.2.2.2 b hb).2]⟩⟩

theorem wp_region_aft {P : Program} {id : Nat} {Q : Exit → Act → World → Prop} {a : Act} {W : World} {X Y : Type} {l l1 l2 l3 l4 : List Oper} {oC oU oA oS : Oper} (nC nU nA : Nat) (JC : X → World → Prop) (JU : Y → World → Prop)
    (hJC : ∀ x w w', JC x w → Ab w w' → JC x w') (hJU : ∀ y w w', JU y w → Ab w w' → JU y w') (vC : X → Value) (vU : Y → Value) (Z : Obj) (Z' : Y → Obj)
    (hm : P.follows .mixedOrders = true) (hl : l1 ++ oC :: (l2 ++ oU :: (l3 ++ oA :: oS :: l4)) = l) (hn1 : l1.length = nC) (hn2 : l2.length + nC + 1 = nU) (hn3 : l3.length + nU + 1 = nA)
    (hB : Region.lexBD .any l.toArray (gaKind nC nU nA) = true) (hgC : oC.guard = none) (hgU : oU.guard = none) (hgA : oA.guard = none) (hgS : oS.guard = none)
    (hA : ∀ (a : Act) (w' : World), (execOp a.eval oA).run P w' = .ok (.value (.pointer (some ⟨w'.heap.size, 0, none⟩))) (w'.alloc Z)) (x0 : X) (y0 : Y)
    (h : ∀ w1, Ab W w1 → wpQuiet P l.toArray (fun w' => ∃ p : Regrown, w' = bw w1 p) (fun a1 =>
      (∀ w, Ab W w → Yld P (fun v w' => ∃ x, v = vC x ∧ Ab w w' ∧ JC x w') w ((execOp a1.eval oC).run P w)) ∧
      ∀ x, ∀ w2, Ab W w2 → wpQuiet P l.toArray (fun w' => ∃ p : Regrown, w' = bw w2 p) (fun a2 =>
        (∀ w, Ab W w → JC x w → Yld P (fun v w' => ∃ y, v = vU y ∧ Ab w w' ∧ JU y w') w ((execOp a2.eval oU).run P w)) ∧
        ∀ y, pqsA P (fun a3 => ∀ b, W.heap.size ≤ b →
          (∀ w3, Ab W w3 → JU y w3 → w3.heap[b]? = some Z → ∃ w4, (execOp (a3.put oA.dst (.pointer (some ⟨b, 0, none⟩))).eval oS).run P w3 = .ok .skip w4 ∧ Ab W w4 ∧ JU y w4 ∧ w4.heap[b]? = some (Z' y)) ∧
          pqsA P (fun a4 => ∀ w6, Ab W w6 → JU y w6 → w6.heap[b]? = some (Z' y) → Q .normal a4 w6) l4 ((a3.put oA.dst (.pointer (some ⟨b, 0, none⟩))).put oS.dst undef)) l3 (a2.put oU.dst (vU y))) l2 (a1.put oC.dst (vC x))) l1 a) :
    (Code.region id l.toArray true).wp P Q a W := by
  obtain ⟨ops, hops⟩ : ∃ ops, ops = l.toArray := ⟨_, rfl⟩
  rw [← hops] at hB h ⊢
  have hget : ∀ j, l[j]? = ops[j]? := fun j => by rw [hops, List.getElem?_toArray]
  have hlen : ops.size = (l1 ++ oC :: (l2 ++ oU :: (l3 ++ oA :: oS :: l4))).length := by rw [hops, List.size_toArray, hl]
  simp only [Region.lexBD, Bool.and_eq_true] at hB
  have want : ∀ (o : Oper), o.guard = none → ∀ a : Act, Region.wanted o (yielded ops a.tmps) = true := fun o ho a => by simp [Region.wanted, ho]
  have at1 : ∀ j, j < l1.length → l1[j]? = ops[0 + j]? := fun j hj => by rw [← hget, Nat.zero_add, ← hl, List.getElem?_append_left hj]
  have at2 : ∀ j, (oC :: (l2 ++ oU :: (l3 ++ oA :: oS :: l4)))[j]? = ops[nC + j]? := fun j => by
    rw [← hget, ← hl, List.getElem?_append_right (by omega), hn1, Nat.add_sub_cancel_left]
  have gC : ops[nC]? = some oC := by have := at2 0; simpa using this.symm
  have at3 : ∀ j, (l2 ++ oU :: (l3 ++ oA :: oS :: l4))[j]? = ops[nC + 1 + j]? := fun j => by
    have := at2 (j + 1); simpa [Nat.add_assoc, Nat.add_comm 1 j] using this
  have at4 : ∀ j, (oU :: (l3 ++ oA :: oS :: l4))[j]? = ops[nU + j]? := fun j => by
    have := at3 (l2.length + j)
    rw [List.getElem?_append_right (by omega), Nat.add_sub_cancel_left, show nC + 1 + (l2.length + j) = nU + j from by omega] at this
    exact this
  have gU : ops[nU]? = some oU := by have := at4 0; simpa using this.symm
  have at5 : ∀ j, (l3 ++ oA :: oS :: l4)[j]? = ops[nU + 1 + j]? := fun j => by
    have := at4 (j + 1); simpa [Nat.add_assoc, Nat.add_comm 1 j] using this
  have at6 : ∀ j, (oA :: oS :: l4)[j]? = ops[nA + j]? := fun j => by
    have := at5 (l3.length + j)
    rw [List.getElem?_append_right (by omega), Nat.add_sub_cancel_left, show nU + 1 + (l3.length + j) = nA + j from by omega] at this
    exact this
  have gA : ops[nA]? = some oA := by have := at6 0; simpa using this.symm
  have gS : ops[nA + 1]? = some oS := by have := at6 1; simpa using this.symm
  have k1 : ∀ j, j < l1.length → l1[j]? = ops[0 + j]? ∧ gaKind nC nU nA (0 + j) = .basic := fun j hj => by
    refine ⟨at1 j hj, ?_⟩
    unfold gaKind
    rw [if_neg (by omega), if_neg (by omega), if_neg (by omega), if_neg (by omega), if_neg (by omega)]
  have k2 : ∀ j, j < l2.length → l2[j]? = ops[nC + 1 + j]? ∧ gaKind nC nU nA (nC + 1 + j) = .basic := fun j hj => by
    refine ⟨?_, ?_⟩
    · have := at3 j; rw [List.getElem?_append_left hj] at this; exact this
    · unfold gaKind
      rw [if_neg (by omega), if_neg (by omega), if_neg (by omega), if_neg (by omega), if_neg (by omega)]
  have k3 : ∀ j, j < l3.length → l3[j]? = ops[nU + 1 + j]? ∧ gaKind nC nU nA (nU + 1 + j) = .pure := fun j hj => by
    refine ⟨?_, ?_⟩
    · have := at5 j; rw [List.getElem?_append_left hj] at this; exact this
    · unfold gaKind
      rw [if_neg (by omega), if_neg (by omega), if_neg (by omega), if_neg (by omega), if_pos (by omega)]
  have k4 : ∀ j, j < l4.length → l4[j]? = ops[nA + 1 + 1 + j]? ∧ gaKind nC nU nA (nA + 1 + 1 + j) = .pure := fun j hj => by
    refine ⟨?_, ?_⟩
    · have := at6 (j + 2); simpa [Nat.add_assoc, Nat.add_comm 2 j] using this
    · unfold gaKind
      rw [if_neg (by omega), if_neg (by omega), if_neg (by omega), if_neg (by omega), if_pos (by omega)]
  have base : Ab W { W with drawn := W.drawn + 1 } := ⟨rfl, rfl, rfl, Nat.le_refl _, fun _ _ => rfl⟩
  have hlt1 : nC < nU := by omega
  have hlt2 : nU < nA := by omega
  have hG := ga_ok (W := W) (JC := JC) (JU := JU) (Z := Z) (Z' := Z') hlt1 hlt2
  refine wp_region_any hm (wpAny_of_drift hG.refl (W := W) (I := GaI W JC JU Z Z') (early := fun _ => True) (kind := gaKind nC nU nA) (late := fun _ => false) (Ok := gaOk W nC nU nA) (val := gaVal vC vU) (upd := gaUpd nC nU nA)
    (Q := fun a' g => ∃ b y, g.al = some b ∧ g.u = some y ∧ g.full = some y ∧ ∀ w6, Ab W w6 → JU y w6 → w6.heap[b]? = some (Z' y) → Q .normal a' w6) (fun g w _ h => h.1) (fun g w w' _ h k => gaI_on hJC hJU h k) ?_ _ _ _ ⟨none, none, none, none⟩ _ ⟨base, fun x hx => (by cases hx), fun x hx => (by cases hx), fun b hb => (by cases hb)⟩ ?_)
  · rintro a' g w' hI ⟨b, y, hb, hu, hf, hQ⟩
    have := (hI.2.2.2 b hb).2
    rw [hf] at this
    exact hQ w' hI.1 (hI.2.2.1 y hu) this
  · rw [hlen]
    refine wpAnyD_lex hG hB.1 (fun _ _ _ _ _ _ _ => .inl rfl) _ 0 _ _ _ (by rw [← hlen]; exact closed_start) (fun j => by rw [hl, hget, Nat.zero_add]) (by rw [← hlen]; exact hB.2) ?_
    refine lexD_quiet (kind := gaKind nC nU nA) trivial .basic (.inl ⟨rfl, Ab W, fun _ => Iff.rfl⟩) (Ab W) (.inl ⟨rfl, fun _ h => h⟩) (fun w w' h k => Ab.trans h k) W (Ab.refl W) (fun _ h => h) l1 0 a k1 (fun a1 h1 => ?_) h
    rw [Nat.zero_add, hn1]
    -- the call that makes memory
    refine dOp_of gC (O := FO (gaOk W nC nU nA) (gaVal vC vU) (gaUpd nC nU nA) nC ⟨none, none, none, none⟩) ?_ ?_
    · unfold Fam2; rw [if_pos (want oC hgC _)]
      refine .inr (.inr (.inr (.inr (.inl ⟨by unfold gaKind; rw [if_pos rfl], trivial, fun g' _ => ⟨⟨_, _, .inl x0, ⟨fun _ => ⟨_, rfl⟩, fun e => absurd e (by omega), fun e => absurd e (by omega)⟩, rfl, rfl⟩, fun w hw => ?_⟩, rfl⟩))))
      refine Yld.mono ?_ (h1.1 w hw.1)
      rintro v w' ⟨x, rfl, hab, hj⟩
      refine ⟨_, ⟨.inl x, ⟨fun _ => ⟨_, rfl⟩, fun e => absurd e (by omega), fun e => absurd e (by omega)⟩, rfl, rfl⟩, ?_⟩
      have hw' := gaI_on hJC hJU hw hab
      rw [gaUpd_C hlt1 hlt2]
      rcases g' with ⟨_ | c, u, al, f⟩
      · exact ⟨hw'.1, fun q hq => (by cases hq; exact hj), hw'.2.2.1, hw'.2.2.2⟩
      · exact hw'
    · rintro v g' ⟨xx, hok, rfl, rfl⟩
      obtain ⟨x, rfl⟩ := hok.1 rfl
      rw [gaUpd_C hlt1 hlt2]
      refine lexD_quiet (kind := gaKind nC nU nA) trivial .basic (.inl ⟨rfl, Ab W, fun _ => Iff.rfl⟩) (Ab W) (.inl ⟨rfl, fun _ h => h⟩) (fun w w' h k => Ab.trans h k) W (Ab.refl W) (fun _ h => h) l2 (nC + 1) _ k2 (fun a2 h2 => ?_) (h1.2 x)
      rw [show nC + 1 + l2.length = nU from by omega]
      -- the call that takes it
      refine dOp_of gU (O := FO (gaOk W nC nU nA) (gaVal vC vU) (gaUpd nC nU nA) nU ⟨some x, none, none, none⟩) ?_ ?_
      · unfold Fam2; rw [if_pos (want oU hgU _)]
        refine .inr (.inr (.inr (.inr (.inr ⟨by unfold gaKind; rw [if_neg (by omega), if_pos rfl], trivial, fun g' hle _ => ⟨⟨_, _, .inr (.inl y0), ⟨fun e => absurd e (by omega), fun _ => ⟨_, rfl⟩, fun e => absurd e (by omega)⟩, rfl, rfl⟩, fun w hw => ?_⟩, rfl⟩))))
        refine Yld.mono ?_ (h2.1 w hw.1 (hw.2.1 x (hle x rfl)))
        rintro v w' ⟨y, rfl, hab, hj⟩
        refine ⟨_, ⟨.inr (.inl y), ⟨fun e => absurd e (by omega), fun _ => ⟨_, rfl⟩, fun e => absurd e (by omega)⟩, rfl, rfl⟩, ?_⟩
        have hw' := gaI_on hJC hJU hw hab
        rw [gaUpd_U hlt1 hlt2]
        rcases g' with ⟨c, _ | u, al, f⟩
        · exact ⟨hw'.1, hw'.2.1, fun q hq => (by cases hq; exact hj), hw'.2.2.2⟩
        · exact hw'
      · rintro v g' ⟨xx, hok, rfl, rfl⟩
        obtain ⟨y, rfl⟩ := hok.2.1 rfl
        rw [gaUpd_U hlt1 hlt2]
        refine lexD_pqsA l3 (nU + 1) _ k3 ?_
        refine pqs_monoA (fun a3 h3 => ?_) l3 _ (h2.2 y)
        rw [show nU + 1 + l3.length = nA from by omega]
        -- the variable
        refine dOp_of gA (O := FO (gaOk W nC nU nA) (gaVal vC vU) (gaUpd nC nU nA) nA ⟨some x, some y, none, none⟩) ?_ ?_
        · unfold Fam2; rw [if_pos (want oA hgA _)]
          refine .inr (.inr (.inr (.inr (.inl ⟨by unfold gaKind; rw [if_neg (by omega), if_neg (by omega), if_pos rfl], trivial, fun g' _ => ⟨⟨_, _, .inr (.inr W.heap.size), ⟨fun e => absurd e (by omega), fun e => absurd e (by omega), fun _ => ⟨_, rfl, Nat.le_refl _⟩⟩, rfl, rfl⟩, fun w hw => ?_⟩, rfl⟩))))
          rw [hA a3 w]
          refine ⟨_, ⟨.inr (.inr w.heap.size), ⟨fun e => absurd e (by omega), fun e => absurd e (by omega), fun _ => ⟨_, rfl, Below.size hw.1⟩⟩, rfl, rfl⟩, ?_⟩
          have hab : Ab w (w.alloc Z) := ⟨rfl, rfl, rfl, by show w.heap.size ≤ (w.heap.push Z).size; simp, fun k hk => Below.heap_alloc _ _ _ hk⟩
          have hw' := gaI_on hJC hJU hw hab
          rw [gaUpd_A hlt1 hlt2]
          rcases g' with ⟨c, u, _ | q, _ | f⟩
          · exact ⟨hw'.1, hw'.2.1, hw'.2.2.1, fun b hb => (by cases hb; exact ⟨Below.size hw.1, block_alloc w Z⟩)⟩
          · exact hw'
          · exact hw'
          · exact hw'
        · rintro v g' ⟨xx, hok, rfl, rfl⟩
          obtain ⟨b, rfl, hb⟩ := hok.2.2 rfl
          rw [gaUpd_A hlt1 hlt2]
          obtain ⟨hS, hQ⟩ := h3 b hb
          refine dOp_of gS (O := fun v g' => v = undef ∧ g' = ⟨none, some y, some b, some y⟩) ?_ ?_
          · unfold Fam2; rw [if_pos (want oS hgS _)]
            refine .inr (.inr (.inr (.inl ⟨by unfold gaKind; rw [if_neg (by omega), if_neg (by omega), if_neg (by omega), if_pos rfl], trivial, ⟨⟨_, _, rfl, rfl⟩, fun w hw => ?_⟩, fun _ _ _ _ => trivial⟩)))
            obtain ⟨w4, hr, h4, h5, h6⟩ := hS w hw.1 (hw.2.2.1 y rfl) (hw.2.2.2 b rfl).2
            have hr2 : (execOp (a3.put oA.dst (gaVal vC vU nA (.inr (.inr b)))).eval oS).run P w = .ok .skip w4 := hr
            rw [hr2]
            exact ⟨_, ⟨rfl, rfl⟩, h4, fun y hy => (by cases hy), fun y' hy' => (by cases hy'; exact h5), fun b' hb' => (by cases hb'; exact ⟨hb, h6⟩)⟩
          · rintro v g' ⟨rfl, rfl⟩
            have := lexD_pqsA (P := P) (ops := ops) (W := W) (I := GaI W JC JU Z Z') (early := fun _ => True) (kind := gaKind nC nU nA) (late := fun _ => false) (Ok := gaOk W nC nU nA) (val := gaVal vC vU) (upd := gaUpd nC nU nA) (le := gaLe) (Q := fun a' g => ∃ b y, g.al = some b ∧ g.u = some y ∧ g.full = some y ∧ ∀ w6, Ab W w6 → JU y w6 → w6.heap[b]? = some (Z' y) → Q .normal a' w6) (g := ⟨none, some y, some b, some y⟩) (rest := []) l4 (nA + 1 + 1) _ k4 (pqs_monoA (fun a' hq => ⟨b, y, rfl, rfl, rfl, hq⟩) l4 _ hQ)
            rw [List.append_nil] at this
            exact this

/-- The same, the region written out, its operations told by their numbers. -/
theorem wp_region_aft_at {P : Program} {id : Nat} {Q : Exit → Act → World → Prop} {a : Act} {W : World} {X Y : Type} {l : List Oper} {oC oU oA oS : Oper} (nC m1 m2 : Nat) (JC : X → World → Prop) (JU : Y → World → Prop)
    (hJC : ∀ x w w', JC x w → Ab w w' → JC x w') (hJU : ∀ y w w', JU y w → Ab w w' → JU y w') (vC : X → Value) (vU : Y → Value) (Z : Obj) (Z' : Y → Obj)
    (hm : P.follows .mixedOrders = true) (hl : l.take nC ++ oC :: ((l.drop (nC + 1)).take m1 ++ oU :: ((l.drop (nC + 1 + m1 + 1)).take m2 ++ oA :: oS :: l.drop (nC + 1 + m1 + 1 + m2 + 2))) = l) (hn1 : (l.take nC).length = nC) (hn2 : ((l.drop (nC + 1)).take m1).length = m1) (hn3 : ((l.drop (nC + 1 + m1 + 1)).take m2).length = m2)
    (hB : Region.lexBD .any l.toArray (gaKind nC (nC + 1 + m1) (nC + 1 + m1 + 1 + m2)) = true) (hgC : oC.guard = none) (hgU : oU.guard = none) (hgA : oA.guard = none) (hgS : oS.guard = none)
    (hA : ∀ (a : Act) (w' : World), (execOp a.eval oA).run P w' = .ok (.value (.pointer (some ⟨w'.heap.size, 0, none⟩))) (w'.alloc Z)) (x0 : X) (y0 : Y)
    (h : ∀ w1, Ab W w1 → wpQuiet P l.toArray (fun w' => ∃ p : Regrown, w' = bw w1 p) (fun a1 =>
      (∀ w, Ab W w → Yld P (fun v w' => ∃ x, v = vC x ∧ Ab w w' ∧ JC x w') w ((execOp a1.eval oC).run P w)) ∧
      ∀ x, ∀ w2, Ab W w2 → wpQuiet P l.toArray (fun w' => ∃ p : Regrown, w' = bw w2 p) (fun a2 =>
        (∀ w, Ab W w → JC x w → Yld P (fun v w' => ∃ y, v = vU y ∧ Ab w w' ∧ JU y w') w ((execOp a2.eval oU).run P w)) ∧
        ∀ y, pqsA P (fun a3 => ∀ b, W.heap.size ≤ b →
          (∀ w3, Ab W w3 → JU y w3 → w3.heap[b]? = some Z → ∃ w4, (execOp (a3.put oA.dst (.pointer (some ⟨b, 0, none⟩))).eval oS).run P w3 = .ok .skip w4 ∧ Ab W w4 ∧ JU y w4 ∧ w4.heap[b]? = some (Z' y)) ∧
          pqsA P (fun a4 => ∀ w6, Ab W w6 → JU y w6 → w6.heap[b]? = some (Z' y) → Q .normal a4 w6) (l.drop (nC + 1 + m1 + 1 + m2 + 2)) ((a3.put oA.dst (.pointer (some ⟨b, 0, none⟩))).put oS.dst undef)) ((l.drop (nC + 1 + m1 + 1)).take m2) (a2.put oU.dst (vU y))) ((l.drop (nC + 1)).take m1) (a1.put oC.dst (vC x))) (l.take nC) a) :
    (Code.region id l.toArray true).wp P Q a W :=
  wp_region_aft nC (nC + 1 + m1) (nC + 1 + m1 + 1 + m2) JC JU hJC hJU vC vU Z Z' hm hl hn1 (by rw [hn2]; omega) (by rw [hn3]; omega) hB hgC hgU hgA hgS hA x0 y0 h
end D2
end Go.Proofs.YtpgonfeobfefaaaDoor
