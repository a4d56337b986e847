/- The region 'w0, w1 := F(a.., toS(s))': one call makes a slice, the next one takes it, a variable is made at whatever time, and the first result is stored into it. -/
import Derived.Test.YtaiedpblfnaooabDrift
namespace Go.Proofs.Ytaiedpblfnaooab
open Go.ChangeShapes Go.WideShapes Go.ChangeAt Go.RowKit

structure Gh where
  c : Option (Option Addr)
  al : Option Nat
  full : Bool
def GhI (W : World) (JC : Option Addr → World → Prop) (Z Z' : Obj) (g : Gh) (w : World) : Prop :=
  Ab W w ∧ (∀ x, g.c = some x → JC x w) ∧ (∀ b, g.al = some b → W.heap.size ≤ b ∧ w.heap[b]? = some (if g.full then Z' else Z))
def ghUpd (iC iA : Nat) (i : Nat) (g : Gh) (x : Option Addr ⊕ Nat) : Gh :=
  if i = iC then (match x, g.c with | .inl a, none => { g with c := some a } | _, _ => g)
  else if i = iA then (match x, g.al, g.full with | .inr b, none, false => { g with al := some b } | _, _, _ => g)
  else g
def ghOk (W : World) (iC iA : Nat) (i : Nat) (x : Option Addr ⊕ Nat) : Prop := (i = iC → ∃ a, x = .inl a) ∧ (i = iA → ∃ b, x = .inr b ∧ W.heap.size ≤ b)
def ghVal (vC : Option Addr → Value) (_ : Nat) : Option Addr ⊕ Nat → Value
  | .inl a => vC a
  | .inr b => .pointer (some ⟨b, 0, none⟩)
def ghKind (iC iA : Nat) (n : Nat) (i : Nat) : Kd := if i = iC then .free else if i = iC + 1 then .info else if i = iA then .free else if i = iA + 1 then .loud else if n ≤ i then .pure else .basic

theorem gh_ok {W : World} {JC : Option Addr → World → Prop} {Z Z' : Obj} {iC iA n : Nat} (hlt : iC < iA) : GhostOk (GhI W JC Z Z') (fun _ => True) (ghKind iC iA n) (ghUpd iC iA) where
  early := fun _ _ _ _ _ => trivial
  more := fun i g x w hk h => by
    obtain ⟨h1, h2, h3⟩ := h
    refine ⟨h1, fun y hy => ?_, fun b hb => ?_⟩
    · refine h2 y ?_
      unfold ghUpd
      split
      · split
        · rename_i e; rw [e] at hy; cases hy
        · exact hy
      · split
        · split <;> exact hy
        · exact hy
    · have e : (ghUpd iC iA i g x).full = g.full ∧ (ghUpd iC iA i g x).al = some b := by
        unfold ghUpd
        split
        · split <;> exact ⟨rfl, hb⟩
        · split
          · split
            · simp_all
            · exact ⟨rfl, hb⟩
          · exact ⟨rfl, hb⟩
      have := h3 b e.2
      rwa [e.1] at this
  comm := fun i j g x y hi hj hij => by
    have free : ∀ i, ghKind iC iA n i = .free → i = iC ∨ i = iA := fun i h => by
      unfold ghKind at h
      split at h
      · exact .inl ‹_›
      · split at h
        · cases h
        · split at h
          · exact .inr ‹_›
          · split at h
            · cases h
            · split at h <;> cases h
    have hne : iA ≠ iC := by omega
    rcases free i hi with rfl | rfl <;> rcases free j hj with rfl | rfl
    · exact absurd rfl hij
    · unfold ghUpd
      rcases x with a | b <;> rcases y with a' | b' <;> rcases g with ⟨_ | _, _ | _, _ | _⟩ <;> simp [hne]
    · unfold ghUpd
      rcases x with a | b <;> rcases y with a' | b' <;> rcases g with ⟨_ | _, _ | _, _ | _⟩ <;> simp [hne]
    · exact absurd rfl hij

theorem ghI_on {W : World} {JC : Option Addr → World → Prop} (hJ : ∀ x w w', JC x w → Ab w w' → JC x w') {Z Z' : Obj} {g : Gh} {w w' : World} (h : GhI W JC Z Z' g w) (k : Ab w w') : GhI W JC Z Z' g w' :=
  ⟨h.1.trans k, fun x hx => hJ x w w' (h.2.1 x hx) k, fun b hb => ⟨(h.2.2 b hb).1, by rw [k.block (h.2.2 b hb).2]⟩⟩

theorem lexD_pure {P : Program} {ops : Array Oper} {W : World} {G X : Type} {I : G → World → Prop} {early : G → Prop} {kind : Nat → Kd} {late : Nat → Bool} {Ok : Nat → X → Prop} {val : Nat → X → Value} {upd : Nat → G → X → G} {Q : Act → G → Prop} {g : G} : ∀ (l : List Oper) (k : Nat) (a : Act), (∀ j, j < l.length → l[j]? = ops[k + j]? ∧ kind (k + j) = .pure) → l.all isPure = true →
    Q (pureRun l a) g → lexD P ops W I early kind late Ok val upd Q l k a g
  | [], _, _, _, _, h => h
  | o :: l, k, a, hl, hp, h => by
    have h0 : ops[k]? = some o := by simpa using (hl 0 (by simp)).1.symm
    have hpk : kind k = .pure := by simpa using (hl 0 (by simp)).2
    rw [List.all_cons, Bool.and_eq_true] at hp
    refine dOp_of h0 (O := One (pureVal o a) g) ?_ ?_
    · unfold Fam2; rw [if_pos (want_of_pure hp.1)]; exact .inl ⟨hpk, _, pq_of_pure hp.1, rfl⟩
    · rintro v' g' ⟨rfl, rfl⟩
      exact lexD_pure l (k + 1) _ (fun j hj => by have := hl (j + 1) (by simp; omega); simpa [Nat.add_assoc, Nat.add_comm 1 j] using this) hp.2 h

theorem wp_region_drift {P : Program} {id : Nat} {Q : Exit → Act → World → Prop} {a : Act} {W : World} {l l1 l2 l3 : List Oper} {oC oU oA oS : Oper} (nC nA : Nat) (JC : Option Addr → World → Prop) (hJ : ∀ x w w', JC x w → Ab w w' → JC x w') (vC : Option Addr → Value) (Z Z' : Obj)
    (hm : P.follows .mixedOrders = true) (hl : l1 ++ oC :: oU :: (l2 ++ oA :: oS :: l3) = l) (hn1 : l1.length = nC) (hn2 : l2.length + nC + 2 = nA)
    (hB : Region.lexBD .any l.toArray (ghKind nC nA (nA + 2)) = true)
    (hgC : oC.guard = none) (hgU : oU.guard = none) (hgA : oA.guard = none) (hgS : oS.guard = none) (hpu : l3.all isPure = true)
    (hA : ∀ (a : Act) (w' : World), (execOp a.eval oA).run P w' = .ok (.value (.pointer (some ⟨w'.heap.size, 0, none⟩))) (w'.alloc Z))
    (h : ∀ w1, Ab W w1 → wpQuiet P l.toArray (fun w' => ∃ p : Regrown, w' = bw w1 p) (fun a1 =>
      (∀ w, Ab W w → Yld P (fun v w' => ∃ x, v = vC x ∧ Ab w w' ∧ JC x w') w ((execOp a1.eval oC).run P w)) ∧
      ∀ x, ∃ vU, (∀ w, Ab W w → JC x w → Oper.quietUpon P (Ab w) w vU ((execOp (a1.put oC.dst (vC x)).eval oU).run P w)) ∧
        ∀ w2, Ab W w2 → wpQuiet P l.toArray (fun w' => ∃ p : Regrown, w' = bw w2 p) (fun a2 => ∀ b, W.heap.size ≤ b →
          (∀ w3, Ab W w3 → w3.heap[b]? = some Z → ∃ w4, (execOp (a2.put oA.dst (.pointer (some ⟨b, 0, none⟩))).eval oS).run P w3 = .ok .skip w4 ∧ Ab W w4 ∧ w4.heap[b]? = some Z') ∧
          (∀ w6, Ab W w6 → w6.heap[b]? = some Z' → Q .normal (pureRun l3 ((a2.put oA.dst (.pointer (some ⟨b, 0, none⟩))).put oS.dst undef)) w6)) l2 ((a1.put oC.dst (vC x)).put oU.dst vU)) l1 a) :
    (Code.region id l.toArray true).wp P Q a W := by
  obtain ⟨ops, hops⟩ : ∃ ops, ops = l.toArray := ⟨_, rfl⟩
  rw [← hops] at hB h ⊢
  have hget : ∀ j, l[j]? = ops[j]? := fun j => by rw [hops, List.getElem?_toArray]
  have hlen : ops.size = (l1 ++ oC :: oU :: (l2 ++ oA :: oS :: l3)).length := by rw [hops, List.size_toArray, hl]
  simp only [Region.lexBD, Bool.and_eq_true] at hB
  have want : ∀ (o : Oper), o.guard = none → ∀ a : Act, Region.wanted o (yielded ops a.tmps) = true := fun o ho a => by simp [Region.wanted, ho]
  have at1 : ∀ j, j < l1.length → l1[j]? = ops[0 + j]? := fun j hj => by rw [← hget, Nat.zero_add, ← hl, List.getElem?_append_left hj]
  have at2 : ∀ j, (oC :: oU :: (l2 ++ oA :: oS :: l3))[j]? = ops[nC + j]? := fun j => by
    rw [← hget, ← hl, List.getElem?_append_right (by omega), hn1, Nat.add_sub_cancel_left]
  have gC : ops[nC]? = some oC := by have := at2 0; simpa using this.symm
  have gU : ops[nC + 1]? = some oU := by have := at2 1; simpa using this.symm
  have at3 : ∀ j, (l2 ++ oA :: oS :: l3)[j]? = ops[nC + 2 + j]? := fun j => by
    have := at2 (j + 2); simpa [Nat.add_assoc, Nat.add_comm 2 j] using this
  have gA : ops[nA]? = some oA := by
    have := at3 l2.length
    rw [List.getElem?_append_right (Nat.le_refl _), Nat.sub_self, show nC + 2 + l2.length = nA from by omega] at this
    simpa using this.symm
  have gS : ops[nA + 1]? = some oS := by
    have := at3 (l2.length + 1)
    rw [List.getElem?_append_right (by omega), show l2.length + 1 - l2.length = 1 from by omega, show nC + 2 + (l2.length + 1) = nA + 1 from by omega] at this
    simpa using this.symm
  have at5 : ∀ j, j < l3.length → l3[j]? = ops[nA + 2 + j]? ∧ ghKind nC nA (nA + 2) (nA + 2 + j) = .pure := fun j _ => by
    refine ⟨?_, ?_⟩
    · have := at3 (l2.length + (j + 2))
      rw [List.getElem?_append_right (by omega), show l2.length + (j + 2) - l2.length = j + 2 from by omega, show nC + 2 + (l2.length + (j + 2)) = nA + 2 + j from by omega] at this
      simpa using this
    · unfold ghKind
      rw [if_neg (by omega), if_neg (by omega), if_neg (by omega), if_neg (by omega), if_pos (by omega)]
  have k1 : ∀ j, j < l1.length → l1[j]? = ops[0 + j]? ∧ ghKind nC nA (nA + 2) (0 + j) = .basic := fun j hj => by
    refine ⟨at1 j hj, ?_⟩
    unfold ghKind
    rw [if_neg (by omega), if_neg (by omega), if_neg (by omega), if_neg (by omega), if_neg (by omega)]
  have k2 : ∀ j, j < l2.length → l2[j]? = ops[nC + 1 + 1 + j]? ∧ ghKind nC nA (nA + 2) (nC + 1 + 1 + j) = .basic := fun j hj => by
    refine ⟨?_, ?_⟩
    · have := at3 j; rw [List.getElem?_append_left hj] at this; exact this
    · unfold ghKind
      rw [if_neg (by omega), if_neg (by omega), if_neg (by omega), if_neg (by omega), if_neg (by omega)]
  have base : Ab W { W with drawn := W.drawn + 1 } := ⟨rfl, rfl, rfl, Nat.le_refl _, fun _ _ => rfl⟩
  have hG := gh_ok (W := W) (JC := JC) (Z := Z) (Z' := Z') (n := nA + 2) (show nC < nA by omega)
  refine wp_region_any hm (wpAny_of_drift (W := W) (I := GhI W JC Z Z') (early := fun _ => True) (kind := ghKind nC nA (nA + 2)) (late := fun _ => false) (Ok := ghOk W nC nA) (val := ghVal vC) (upd := ghUpd nC nA)
    (Q := fun a' g => g.full = true ∧ ∃ b, g.al = some b ∧ ∀ w6, Ab W w6 → w6.heap[b]? = some Z' → Q .normal a' w6) (fun g w _ h => h.1) (fun g w w' _ h k => ghI_on hJ h k) ?_ _ _ _ ⟨none, none, false⟩ _ ⟨base, fun x hx => (by cases hx), fun b hb => (by cases hb)⟩ ?_)
  · rintro a' g w' hI ⟨hf, b, hb, hQ⟩
    have := (hI.2.2 b hb).2
    rw [hf, if_pos rfl] at this
    exact hQ w' hI.1 this
  · rw [hlen]
    refine wpAnyD_lex hG hB.1 (fun _ _ _ _ _ _ _ => .inl rfl) _ 0 _ _ _ (by rw [← hlen]; exact closed_start) (fun j => by rw [hl, hget, Nat.zero_add]) (by rw [← hlen]; exact hB.2) ?_
    refine lexD_quiet (kind := ghKind nC nA (nA + 2)) trivial .basic (.inl ⟨rfl, Ab W, fun _ => Iff.rfl⟩) (Ab W) (.inl ⟨rfl, fun _ h => h⟩) (fun w w' h k => Ab.trans h k) W (Ab.refl W) (fun _ h => h) l1 0 a k1 (fun a1 h1 => ?_) h
    rw [Nat.zero_add, hn1]
    -- the call that makes the slice
    refine dOp_of gC (O := FO (ghOk W nC nA) (ghVal vC) (ghUpd nC nA) nC ⟨none, none, false⟩) ?_ ?_
    · unfold Fam2; rw [if_pos (want oC hgC _)]
      refine .inr (.inr (.inr (.inr ⟨by unfold ghKind; rw [if_pos rfl], trivial, fun g' _ => ⟨⟨_, _, .inl none, ⟨fun _ => ⟨_, rfl⟩, fun e => absurd e (by omega)⟩, rfl, rfl⟩, fun w hw => ?_⟩, rfl⟩)))
      refine Yld.mono ?_ (h1.1 w hw.1)
      rintro v w' ⟨x, rfl, hab, hj⟩
      refine ⟨_, ⟨.inl x, ⟨fun _ => ⟨_, rfl⟩, fun e => absurd e (by omega)⟩, rfl, rfl⟩, ?_⟩
      have hw' := ghI_on hJ hw hab
      refine ⟨hw'.1, fun y hy => ?_, fun b hb => ?_⟩
      · unfold ghUpd at hy
        rw [if_pos rfl] at hy
        split at hy
        · rename_i a' e1 e2
          cases e1
          cases hy
          exact hj
        · exact hw'.2.1 y hy
      · have e : (ghUpd nC nA nC g' (.inl x)).al = g'.al ∧ (ghUpd nC nA nC g' (.inl x)).full = g'.full := by
          unfold ghUpd; rw [if_pos rfl]; split <;> exact ⟨rfl, rfl⟩
        rw [e.2]
        exact hw'.2.2 b (by rw [← e.1]; exact hb)
    · rintro v g' ⟨xx, hok, rfl, rfl⟩
      obtain ⟨x, rfl⟩ := hok.1 rfl
      have eg : ghUpd nC nA nC ⟨none, none, false⟩ (.inl x) = ⟨some x, none, false⟩ := by unfold ghUpd; rw [if_pos rfl]
      rw [eg]
      obtain ⟨vU, hU, h2⟩ := h1.2 x
      -- the call that takes it
      refine dOp_of gU (O := One vU ⟨some x, none, false⟩) ?_ ?_
      · unfold Fam2; rw [if_pos (want oU hgU _)]
        exact .inr (.inr (.inl ⟨by unfold ghKind; rw [if_neg (by omega), if_pos rfl], trivial, vU, fun w hw => hU w hw.1 (hw.2.1 x rfl), rfl⟩))
      · rintro v' g' ⟨rfl, rfl⟩
        refine lexD_quiet (kind := ghKind nC nA (nA + 2)) trivial .basic (.inl ⟨rfl, Ab W, fun _ => Iff.rfl⟩) (Ab W) (.inl ⟨rfl, fun _ h => h⟩) (fun w w' h k => Ab.trans h k) W (Ab.refl W) (fun _ h => h) l2 (nC + 1 + 1) _ k2 (fun a2 h3 => ?_) h2
        rw [show nC + 1 + 1 + l2.length = nA from by omega]
        -- the variable
        refine dOp_of gA (O := FO (ghOk W nC nA) (ghVal vC) (ghUpd nC nA) nA ⟨some x, none, false⟩) ?_ ?_
        · unfold Fam2; rw [if_pos (want oA hgA _)]
          refine .inr (.inr (.inr (.inr ⟨by unfold ghKind; rw [if_neg (by omega), if_neg (by omega), if_pos rfl], trivial, fun g' _ => ⟨⟨_, _, .inr W.heap.size, ⟨fun e => absurd e (by omega), fun _ => ⟨_, rfl, Nat.le_refl _⟩⟩, rfl, rfl⟩, fun w hw => ?_⟩, rfl⟩)))
          rw [hA a2 w]
          refine ⟨_, ⟨.inr w.heap.size, ⟨fun e => absurd e (by omega), fun _ => ⟨_, rfl, Below.size hw.1⟩⟩, rfl, rfl⟩, ?_⟩
          have hab : Ab w (w.alloc Z) := ⟨rfl, rfl, rfl, by show w.heap.size ≤ (w.heap.push Z).size; simp, fun k hk => Below.heap_alloc _ _ _ hk⟩
          have hw' := ghI_on hJ hw hab
          refine ⟨hw'.1, fun y hy => ?_, fun b hb => ?_⟩
          · have e : (ghUpd nC nA nA g' (.inr w.heap.size)).c = g'.c := by
              unfold ghUpd; rw [if_neg (by omega), if_pos rfl]; split <;> rfl
            rw [e] at hy
            exact hw'.2.1 y hy
          · rcases g' with ⟨c', _ | q, _ | _⟩
            · have e : ghUpd nC nA nA ⟨c', none, false⟩ (.inr w.heap.size) = ⟨c', some w.heap.size, false⟩ := by unfold ghUpd; rw [if_neg (by omega), if_pos rfl]
              rw [e] at hb ⊢
              cases hb
              exact ⟨Below.size hw.1, block_alloc w Z⟩
            · have e : ghUpd nC nA nA ⟨c', none, true⟩ (.inr w.heap.size) = ⟨c', none, true⟩ := by unfold ghUpd; rw [if_neg (by omega), if_pos rfl]
              rw [e] at hb ⊢
              exact hw'.2.2 b hb
            · have e : ghUpd nC nA nA ⟨c', some q, false⟩ (.inr w.heap.size) = ⟨c', some q, false⟩ := by unfold ghUpd; rw [if_neg (by omega), if_pos rfl]
              rw [e] at hb ⊢
              exact hw'.2.2 b hb
            · have e : ghUpd nC nA nA ⟨c', some q, true⟩ (.inr w.heap.size) = ⟨c', some q, true⟩ := by unfold ghUpd; rw [if_neg (by omega), if_pos rfl]
              rw [e] at hb ⊢
              exact hw'.2.2 b hb
        · rintro v g' ⟨xx, hok, rfl, rfl⟩
          obtain ⟨b, rfl, hb⟩ := hok.2 rfl
          have eg : ghUpd nC nA nA ⟨some x, none, false⟩ (.inr b) = ⟨some x, some b, false⟩ := by unfold ghUpd; rw [if_neg (by omega), if_pos rfl]
          rw [eg]
          obtain ⟨hS, hQ⟩ := h3 b hb
          refine dOp_of gS (O := fun v g' => v = undef ∧ g' = ⟨none, some b, true⟩) ?_ ?_
          · unfold Fam2; rw [if_pos (want oS hgS _)]
            refine .inr (.inr (.inr (.inl ⟨by unfold ghKind; rw [if_neg (by omega), if_neg (by omega), if_neg (by omega), if_pos rfl], trivial, ⟨⟨_, _, rfl, rfl⟩, fun w hw => ?_⟩, fun _ _ _ _ => trivial⟩)))
            obtain ⟨w4, hr, h4, h5⟩ := hS w hw.1 (hw.2.2 b rfl).2
            have hr2 : (execOp (a2.put oA.dst (ghVal vC nA (.inr b))).eval oS).run P w = .ok .skip w4 := hr
            rw [hr2]
            exact ⟨_, ⟨rfl, rfl⟩, h4, fun y hy => (by cases hy), fun b' hb' => (by cases hb'; exact ⟨hb, h5⟩)⟩
          · rintro v g' ⟨rfl, rfl⟩
            exact lexD_pure l3 (nA + 2) _ at5 hpu ⟨rfl, b, rfl, hQ⟩

/-- The same, the region written out, its operations told by their numbers: the call nC, and m quiet ones behind the next one. -/
theorem wp_region_drift_at {P : Program} {id : Nat} {Q : Exit → Act → World → Prop} {a : Act} {W : World} {l : List Oper} {oC oU oA oS : Oper} (nC m : Nat) (JC : Option Addr → World → Prop) (hJ : ∀ x w w', JC x w → Ab w w' → JC x w') (vC : Option Addr → Value) (Z Z' : Obj)
    (hm : P.follows .mixedOrders = true) (hl : l.take nC ++ oC :: oU :: ((l.drop (nC + 2)).take m ++ oA :: oS :: l.drop (nC + 2 + m + 2)) = l) (hn1 : (l.take nC).length = nC) (hn2 : ((l.drop (nC + 2)).take m).length = m)
    (hB : Region.lexBD .any l.toArray (ghKind nC (nC + 2 + m) (nC + 2 + m + 2)) = true)
    (hgC : oC.guard = none) (hgU : oU.guard = none) (hgA : oA.guard = none) (hgS : oS.guard = none) (hpu : (l.drop (nC + 2 + m + 2)).all isPure = true)
    (hA : ∀ (a : Act) (w' : World), (execOp a.eval oA).run P w' = .ok (.value (.pointer (some ⟨w'.heap.size, 0, none⟩))) (w'.alloc Z))
    (h : ∀ w1, Ab W w1 → wpQuiet P l.toArray (fun w' => ∃ p : Regrown, w' = bw w1 p) (fun a1 =>
      (∀ w, Ab W w → Yld P (fun v w' => ∃ x, v = vC x ∧ Ab w w' ∧ JC x w') w ((execOp a1.eval oC).run P w)) ∧
      ∀ x, ∃ vU, (∀ w, Ab W w → JC x w → Oper.quietUpon P (Ab w) w vU ((execOp (a1.put oC.dst (vC x)).eval oU).run P w)) ∧
        ∀ w2, Ab W w2 → wpQuiet P l.toArray (fun w' => ∃ p : Regrown, w' = bw w2 p) (fun a2 => ∀ b, W.heap.size ≤ b →
          (∀ w3, Ab W w3 → w3.heap[b]? = some Z → ∃ w4, (execOp (a2.put oA.dst (.pointer (some ⟨b, 0, none⟩))).eval oS).run P w3 = .ok .skip w4 ∧ Ab W w4 ∧ w4.heap[b]? = some Z') ∧
          (∀ w6, Ab W w6 → w6.heap[b]? = some Z' → Q .normal (pureRun (l.drop (nC + 2 + m + 2)) ((a2.put oA.dst (.pointer (some ⟨b, 0, none⟩))).put oS.dst undef)) w6)) ((l.drop (nC + 2)).take m) ((a1.put oC.dst (vC x)).put oU.dst vU)) (l.take nC) a) :
    (Code.region id l.toArray true).wp P Q a W :=
  wp_region_drift nC (nC + 2 + m) JC hJ vC Z Z' hm hl hn1 (by rw [hn2]; omega) hB hgC hgU hgA hgS hpu hA h
end Go.Proofs.Ytaiedpblfnaooab
