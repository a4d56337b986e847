/- Drift with one kind more: a call that makes memory of its own and takes what an earlier one has made ('aft'), while a new variable may be made at whatever time. -/
import Derived.Test.YtbmjghkdhhcffaaDoorFloat
namespace Go.Proofs.YtbmjghkdhhcffaaDoor
open Go.ChangeShapes Go.WideShapes Go.ChangeAt Go.RowKit
namespace D2

/-- What an operation is: its value hangs on nothing; is one in every world above the start; is one in every world in which what has been found out so far holds; it does something of its own; it does something that waits for nothing. -/
inductive Kd where | pure | basic | info | loud | free | aft
  deriving DecidableEq
def Kd.goes : Kd → Kd → Bool
  | _, .pure => true
  | _, .basic => true
  | i, .info => i != .loud && i != .free && i != .aft
  | i, .loud => i == .pure || i == .basic
  | i, .free => i != .loud
  | i, .aft => i == .pure || i == .basic

section
variable (P : Program) (ops : Array Oper) (md : Region.Mode) (W : World) {G X : Type} (I : G → World → Prop) (early : G → Prop) (kind : Nat → Kd) (late : Nat → Bool) (Ok : Nat → X → Prop) (val : Nat → X → Value) (upd : Nat → G → X → G) (le : G → G → Prop)

def One (v : Value) (g : G) : Value → G → Prop := fun v' g' => v' = v ∧ g' = g
def FO (i : Nat) (g : G) : Value → G → Prop := fun v g' => ∃ x, Ok i x ∧ v = val i x ∧ g' = upd i g x
def IQ (o : Oper) (a : Act) (g : G) (v : Value) : Prop := ∀ w, I g w → Oper.quietUpon P (Ab w) w v ((execOp a.eval o).run P w)

def Fam2 (i : Nat) (o : Oper) (a : Act) (g : G) (O : Value → G → Prop) : Prop :=
  if Region.wanted o (yielded ops a.tmps) then
    (kind i = .pure ∧ ∃ v, PQ P o a v ∧ O = One v g) ∨
    (kind i = .basic ∧ early g ∧ ∃ v, SQ P W o a v ∧ O = One v g) ∨
    (kind i = .info ∧ early g ∧ ∃ v, IQ P I o a g v ∧ O = One v g) ∨
    (kind i = .loud ∧ early g ∧ Loud P I o a g O ∧ (late i = false → ∀ v g', O v g' → early g')) ∨
    (kind i = .free ∧ early g ∧ (∀ g', early g' → Loud P I o a g' (FO Ok val upd i g')) ∧ O = FO Ok val upd i g) ∨
    (kind i = .aft ∧ early g ∧ (∀ g', le g g' → early g' → Loud P I o a g' (FO Ok val upd i g')) ∧ O = FO Ok val upd i g)
  else O = One undef g

def dOp (i : Nat) (K : Act → G → Prop) (a : Act) (g : G) : Prop :=
  match ops[i]? with
  | none => K a g
  | some o => ∃ O, Fam2 P ops W I early kind late Ok val upd le i o a g O ∧ ∀ v g', O v g' → K (a.put o.dst v) g'

def wpAnyD (Q : Act → G → Prop) : Nat → Array Bool → Act → G → Prop
  | 0, listed, a, g => Region.ready md ops listed = [] ∧ Q a g
  | fuel + 1, listed, a, g =>
    (Region.ready md ops listed = [] → Q a g) ∧
    ∀ i ∈ Region.ready md ops listed, dOp P ops W I early kind late Ok val upd le i (wpAnyD Q fuel (listed.setIfInBounds i true)) a g

def lexD (Q : Act → G → Prop) : List Oper → Nat → Act → G → Prop
  | [], _, a, g => Q a g
  | _ :: l, k, a, g => dOp P ops W I early kind late Ok val upd le k (lexD Q l (k + 1)) a g
end

section
variable {P : Program} {ops : Array Oper} {md : Region.Mode} {W : World} {G X : Type} {I : G → World → Prop} {early : G → Prop} {kind : Nat → Kd} {late : Nat → Bool} {Ok : Nat → X → Prop} {val : Nat → X → Value} {upd : Nat → G → X → G} {le : G → G → Prop}

theorem dOp_mono {i : Nat} {a : Act} {g : G} {K K' : Act → G → Prop} (h : ∀ a g, K a g → K' a g) (hh : dOp P ops W I early kind late Ok val upd le i K a g) : dOp P ops W I early kind late Ok val upd le i K' a g := by
  unfold dOp at *
  split
  · rename_i ho; simp only [ho] at hh; exact h _ _ hh
  · rename_i o ho
    simp only [ho] at hh
    obtain ⟨O, h1, h2⟩ := hh
    exact ⟨O, h1, fun v g' hv => h _ _ (h2 v g' hv)⟩
theorem IQ.of_same {o : Oper} {a a' : Act} {g : G} {v : Value} (h : IQ P I o a g v) (he : execOp a'.eval o = execOp a.eval o) : IQ P I o a' g v := by unfold IQ at *; rw [he]; exact h
theorem IQ.less {o : Oper} {a : Act} {g g' : G} {v : Value} (h : IQ P I o a g v) (hI : ∀ w, I g' w → I g w) : IQ P I o a g' v := fun w hw => h w (hI w hw)

theorem Fam2.some (hR : ∀ g, le g g) {i : Nat} {o : Oper} {a : Act} {g : G} {O : Value → G → Prop} (h : Fam2 P ops W I early kind late Ok val upd le i o a g O) : ∃ v g', O v g' := by
  unfold Fam2 at h
  split at h
  · rcases h with ⟨_, v, _, rfl⟩ | ⟨_, _, v, _, rfl⟩ | ⟨_, _, v, _, rfl⟩ | ⟨_, _, h, _⟩ | ⟨_, he, h, rfl⟩ | ⟨_, he, h, rfl⟩
    · exact ⟨v, g, rfl, rfl⟩
    · exact ⟨v, g, rfl, rfl⟩
    · exact ⟨v, g, rfl, rfl⟩
    · exact h.some
    · exact (h g he).some
    · exact (h g (hR g) he).some
  · subst h; exact ⟨_, g, rfl, rfl⟩
theorem Fam2.of_same {i : Nat} {o : Oper} {a a' : Act} {g : G} {O : Value → G → Prop} (h : Fam2 P ops W I early kind late Ok val upd le i o a g O) (he : execOp a'.eval o = execOp a.eval o)
    (hw : Region.wanted o (yielded ops a'.tmps) = Region.wanted o (yielded ops a.tmps)) : Fam2 P ops W I early kind late Ok val upd le i o a' g O := by
  unfold Fam2 at *
  rw [hw]
  split
  · rename_i hh
    rw [if_pos hh] at h
    rcases h with ⟨k, v, q, rfl⟩ | ⟨k, e, v, q, rfl⟩ | ⟨k, e, v, q, rfl⟩ | ⟨k, e, q, r⟩ | ⟨k, e, q, rfl⟩ | ⟨k, e, q, rfl⟩
    · exact .inl ⟨k, v, q.of_same he, rfl⟩
    · exact .inr (.inl ⟨k, e, v, q.of_same he, rfl⟩)
    · exact .inr (.inr (.inl ⟨k, e, v, q.of_same he, rfl⟩))
    · exact .inr (.inr (.inr (.inl ⟨k, e, q.of_same he, r⟩)))
    · exact .inr (.inr (.inr (.inr (.inl ⟨k, e, fun g' hg' => (q g' hg').of_same he, rfl⟩))))
    · exact .inr (.inr (.inr (.inr (.inr ⟨k, e, fun g' hl hg' => (q g' hl hg').of_same he, rfl⟩))))
  · rename_i hh; rw [if_neg hh] at h; exact h

/-- One that does nothing of its own: one value; it stays what it is where more is known. -/
theorem Fam2.one {i : Nat} {o : Oper} {a : Act} {g : G} {O : Value → G → Prop} (h : Fam2 P ops W I early kind late Ok val upd le i o a g O) (h1 : kind i ≠ .loud) (h2 : kind i ≠ .free) (h3 : kind i ≠ .aft) :
    ∃ v, O = One v g ∧ ∀ (a' : Act), execOp a'.eval o = execOp a.eval o → Region.wanted o (yielded ops a'.tmps) = Region.wanted o (yielded ops a.tmps) →
      ∀ g', (kind i = .pure ∨ (early g' ∧ (kind i = .basic ∨ ∀ w, I g' w → I g w))) → Fam2 P ops W I early kind late Ok val upd le i o a' g' (One v g') := by
  unfold Fam2 at h
  split at h
  · rename_i hw
    rcases h with ⟨k, v, q, rfl⟩ | ⟨k, e, v, q, rfl⟩ | ⟨k, e, v, q, rfl⟩ | ⟨k, _⟩ | ⟨k, _⟩ | ⟨k, _⟩
    · refine ⟨v, rfl, fun a' he hw' g' _ => ?_⟩
      unfold Fam2; rw [hw', if_pos hw]; exact .inl ⟨k, v, q.of_same he, rfl⟩
    · refine ⟨v, rfl, fun a' he hw' g' hg => ?_⟩
      unfold Fam2; rw [hw', if_pos hw]
      rcases hg with hg | hg
      · rw [k] at hg; cases hg
      · exact .inr (.inl ⟨k, hg.1, v, q.of_same he, rfl⟩)
    · refine ⟨v, rfl, fun a' he hw' g' hg => ?_⟩
      unfold Fam2; rw [hw', if_pos hw]
      rcases hg with hg | ⟨hg, hb | hb⟩
      · rw [k] at hg; cases hg
      · rw [k] at hb; cases hb
      · exact .inr (.inr (.inl ⟨k, hg, v, (q.of_same he).less hb, rfl⟩))
    · exact absurd k h1
    · exact absurd k h2
    · exact absurd k h3
  · rename_i hw
    refine ⟨undef, h, fun a' _ hw' g' _ => ?_⟩
    unfold Fam2; rw [hw', if_neg hw]

theorem wpAny_of_drift (hR : ∀ g, le g g) {Q : Act → G → Prop} {Q' : Exit → Act → World → Prop} (hI1 : ∀ g w, early g → I g w → Ab W w) (hI2 : ∀ g w w', early g → I g w → Ab w w' → I g w') (hQ : ∀ a g w, I g w → Q a g → Q' .normal a w) :
    ∀ (fuel : Nat) (listed : Array Bool) (a : Act) (g : G) (w : World), I g w → wpAnyD P ops md W I early kind late Ok val upd le Q fuel listed a g → wpAny P md ops Q' fuel listed a w
  | 0, _, _, _, _, hw, h => ⟨h.1, hQ _ _ _ hw h.2⟩
  | fuel + 1, listed, a, g, w, hw, h => by
    refine ⟨fun h0 => hQ _ _ _ hw (h.1 h0), fun i hi => ?_⟩
    have hh := h.2 i hi
    have go := fun a g w => wpAny_of_drift hR hI1 hI2 hQ fuel (listed.setIfInBounds i true) a g w
    unfold dOp at hh
    unfold wpOp
    split
    · rename_i ho; simp only [ho] at hh; exact go _ _ _ hw hh
    · rename_i o ho
      simp only [ho] at hh
      obtain ⟨O, h1, h2⟩ := hh
      -- quiet in this world
      have quiet : ∀ v, early g → Oper.quietUpon P (Ab w) w v ((execOp a.eval o).run P w) → (∀ v' g', One v g v' g' → wpAnyD P ops md W I early kind late Ok val upd le Q fuel (listed.setIfInBounds i true) (a.put o.dst v') g') → o.wp P a w (wpAny P md ops Q' fuel (listed.setIfInBounds i true)) Q' := fun v hearly h3 h2 => by
        unfold Oper.wp
        generalize (execOp a.eval o).run P w = r at h3
        cases r with
        | ok n w' =>
          cases n <;> simp only [Oper.quietUpon] at h3 <;> simp only [Oper.upon]
          case value u => obtain ⟨e1, e2⟩ := h3; rw [e1, e2]; exact go _ _ _ hw (h2 _ _ ⟨rfl, rfl⟩)
          case skip => obtain ⟨e1, e2⟩ := h3; rw [e1, ← e2]; exact go _ _ _ hw (h2 _ _ ⟨rfl, rfl⟩)
          case enter f args =>
            obtain ⟨e1, hc⟩ := h3
            rw [e1]
            exact hc.mono fun e w'' ⟨he, hw''⟩ => by subst he; exact go _ _ _ (hI2 _ _ _ hearly hw hw'') (h2 _ _ ⟨rfl, rfl⟩)
        | halt x w' => simp only [Oper.quietUpon] at h3
      have loudly : ∀ O, Loud P I o a g O → (∀ v' g', O v' g' → wpAnyD P ops md W I early kind late Ok val upd le Q fuel (listed.setIfInBounds i true) (a.put o.dst v') g') → o.wp P a w (wpAny P md ops Q' fuel (listed.setIfInBounds i true)) Q' := fun O hL h2 => by
        unfold Oper.wp
        have h3 := hL.run w hw
        generalize (execOp a.eval o).run P w = r at h3
        cases r with
        | ok n w' =>
          cases n <;> simp only [Yld] at h3 <;> simp only [Oper.upon]
          case value u => obtain ⟨g', hO, hIw⟩ := h3; exact go _ _ _ hIw (h2 _ _ hO)
          case skip => obtain ⟨g', hO, hIw⟩ := h3; exact go _ _ _ hIw (h2 _ _ hO)
          case enter f args =>
            obtain ⟨e1, hc⟩ := h3
            rw [e1]
            exact hc.mono fun e w'' ⟨v, he, g', hO, hIw⟩ => by subst he; exact go _ _ _ hIw (h2 _ _ hO)
        | halt x w' => simp only [Yld] at h3
      unfold Fam2 at h1
      split
      · rename_i hwn
        rw [if_pos hwn] at h1
        refine .inl ?_
        rcases h1 with ⟨k, v, q, rfl⟩ | ⟨k, e, v, q, rfl⟩ | ⟨k, e, v, q, rfl⟩ | ⟨k, e, q, r⟩ | ⟨k, e, q, rfl⟩ | ⟨k, e, q, rfl⟩
        · unfold Oper.wp; rw [q w]; exact go _ _ _ hw (h2 _ _ ⟨rfl, rfl⟩)
        · exact quiet v e (q w (hI1 _ _ e hw)) h2
        · exact quiet v e (q w hw) h2
        · exact loudly _ q h2
        · exact loudly _ (q g e) h2
        · exact loudly _ (q g (hR g) e) h2
      · rename_i hwn
        rw [if_neg hwn] at h1
        subst h1
        exact go _ _ _ hw (h2 _ _ ⟨rfl, rfl⟩)

theorem dOp_put (hR : ∀ g, le g g) (hT : ∀ a b c : G, le a b → le b c → le a c) (hU : ∀ i g x, kind i = .free → le g (upd i g x)) {i j : Nat} {oi oj : Oper} {O : Value → G → Prop}
    (hE : ∀ i g x, (kind i = .free ∨ kind i = .aft) → early g → early (upd i g x)) (hM : ∀ i g x w, kind i = .free → I (upd i g x) w → I g w) (hC : ∀ i j g x y, (kind i = .free ∨ kind i = .aft) → kind j = .free → i ≠ j → upd i (upd j g y) x = upd j (upd i g x) y)
    (hij : i ≠ j)
    (hj : ops[j]? = some oj) (hap : oi.apart ops oj = true)
    (hsi : ∀ cs b, oi.op ≠ .select cs b) (hsj : ∀ cs b, oj.op ≠ .select cs b) (hgo : (kind i).goes (kind j) = true) (hlate : late j = false ∨ kind i = .pure) {K : Act → G → Prop} {a : Act} {g : G}
    (hy : Fam2 P ops W I early kind late Ok val upd le i oi a g O) (h : ∀ v g', O v g' → dOp P ops W I early kind late Ok val upd le j K (a.put oi.dst v) g') :
    dOp P ops W I early kind late Ok val upd le j (fun a' g'' => ∃ O', Fam2 P ops W I early kind late Ok val upd le i oi a' g'' O' ∧ ∀ v g', O' v g' → K (a'.put oi.dst v) g') a g := by
  obtain ⟨h1, h2, h3⟩ := Oper.apart_spec hap
  have hei : ∀ u, execOp (a.put oj.dst u).eval oi = execOp a.eval oi := fun u => execOp_put oi hsi a oj.dst u h3
  have hwi : ∀ u, Region.wanted oi (yielded ops (a.put oj.dst u).tmps) = Region.wanted oi (yielded ops a.tmps) := fun u => wanted_put oi a oj.dst u h3
  have keep : ∀ u, Fam2 P ops W I early kind late Ok val upd le i oi (a.put oj.dst u) g O := fun u => hy.of_same (hei u) (hwi u)
  have hw0 : ∀ v, Region.wanted oj (yielded ops (a.put oi.dst v).tmps) = Region.wanted oj (yielded ops a.tmps) := fun v => wanted_put oj a oi.dst v h1
  have he0 : ∀ v, execOp (a.put oi.dst v).eval oj = execOp a.eval oj := fun v => execOp_put oj hsj a oi.dst v h1
  unfold dOp at *
  simp only [hj] at *
  have one : ∀ (u : Value), (∀ v g', O v g' → K ((a.put oi.dst v).put oj.dst u) g') →
      (∃ O', Fam2 P ops W I early kind late Ok val upd le i oi (a.put oj.dst u) g O' ∧ ∀ v g', O' v g' → K ((a.put oj.dst u).put oi.dst v) g') := fun u hK =>
    ⟨O, keep u, fun v g' hv => by rw [← Act.put_comm a v u h2]; exact hK v g' hv⟩
  obtain ⟨v0, g1, hv0⟩ := hy.some hR
  by_cases hw : Region.wanted oj (yielded ops a.tmps) = true
  case neg =>
    refine ⟨One undef g, ?_, ?_⟩
    · unfold Fam2; rw [if_neg hw]
    · rintro u' g' ⟨rfl, rfl⟩
      exact one _ fun v g'' hv => by
        obtain ⟨Oj, hOj, hK⟩ := h v g'' hv
        unfold Fam2 at hOj
        rw [hw0, if_neg hw] at hOj
        subst hOj
        exact hK _ _ ⟨rfl, rfl⟩
  -- what is known of 'oj' behind each outcome of 'oi'
  have H : ∀ v g', O v g' → ∃ Oj, ((kind j = .pure ∧ ∃ u, PQ P oj a u ∧ Oj = One u g') ∨ (kind j = .basic ∧ early g' ∧ ∃ u, SQ P W oj a u ∧ Oj = One u g') ∨ (kind j = .info ∧ early g' ∧ ∃ u, IQ P I oj a g' u ∧ Oj = One u g') ∨
      (kind j = .loud ∧ early g' ∧ Loud P I oj a g' Oj ∧ (late j = false → ∀ v g'', Oj v g'' → early g'')) ∨ (kind j = .free ∧ early g' ∧ (∀ g'', early g'' → Loud P I oj a g'' (FO Ok val upd j g'')) ∧ Oj = FO Ok val upd j g') ∨ (kind j = .aft ∧ early g' ∧ (∀ g'', le g' g'' → early g'' → Loud P I oj a g'' (FO Ok val upd j g'')) ∧ Oj = FO Ok val upd j g')) ∧ ∀ u g'', Oj u g'' → K ((a.put oi.dst v).put oj.dst u) g'' := fun v g' hv => by
    obtain ⟨Oj, hOj, hK⟩ := h v g' hv
    unfold Fam2 at hOj
    rw [hw0, if_pos hw] at hOj
    refine ⟨Oj, ?_, hK⟩
    rcases hOj with ⟨k, u, q, e⟩ | ⟨k, e, u, q, r⟩ | ⟨k, e, u, q, r⟩ | ⟨k, e, q, r⟩ | ⟨k, e, q, r⟩ | ⟨k, e, q, r⟩
    · exact .inl ⟨k, u, q.of_same (he0 v).symm, e⟩
    · exact .inr (.inl ⟨k, e, u, q.of_same (he0 v).symm, r⟩)
    · exact .inr (.inr (.inl ⟨k, e, u, q.of_same (he0 v).symm, r⟩))
    · exact .inr (.inr (.inr (.inl ⟨k, e, q.of_same (he0 v).symm, r⟩)))
    · exact .inr (.inr (.inr (.inr (.inl ⟨k, e, fun g'' hg => (q g'' hg).of_same (he0 v).symm, r⟩))))
    · exact .inr (.inr (.inr (.inr (.inr ⟨k, e, fun g'' hl hg => (q g'' hl hg).of_same (he0 v).symm, r⟩))))
  cases kj : kind j with
  | pure =>
    have hval : ∀ v g', O v g' → ∃ u, PQ P oj a u ∧ K ((a.put oi.dst v).put oj.dst u) g' := fun v g' hv => by
      obtain ⟨Oj, hOj, hK⟩ := H v g' hv
      simp only [kj, reduceCtorEq, false_and, or_false, true_and] at hOj
      obtain ⟨u, q, rfl⟩ := hOj
      exact ⟨u, q, hK _ _ ⟨rfl, rfl⟩⟩
    obtain ⟨u, hu, _⟩ := hval v0 g1 hv0
    refine ⟨One u g, ?_, ?_⟩
    · unfold Fam2; rw [if_pos hw]; exact .inl ⟨kj, u, hu, rfl⟩
    · rintro u' g' ⟨rfl, rfl⟩
      exact one _ fun v g'' hv => by
        obtain ⟨u2, hu2, hK⟩ := hval v g'' hv
        rw [hu2.one hu] at hK
        exact hK
  | basic =>
    have hval : ∀ v g', O v g' → ∃ u, SQ P W oj a u ∧ K ((a.put oi.dst v).put oj.dst u) g' := fun v g' hv => by
      obtain ⟨Oj, hOj, hK⟩ := H v g' hv
      simp only [kj, reduceCtorEq, false_and, or_false, false_or, true_and] at hOj
      obtain ⟨_, u, q, rfl⟩ := hOj
      exact ⟨u, q, hK _ _ ⟨rfl, rfl⟩⟩
    have hearly : early g := by
      by_cases e1 : kind i = .loud
      · unfold Fam2 at hy
        split at hy
        · rcases hy with ⟨k, _⟩ | ⟨k, _⟩ | ⟨k, _⟩ | ⟨k, e, _⟩ | ⟨k, e, _⟩ | ⟨k, e, _⟩
          · rw [e1] at k; cases k
          · rw [e1] at k; cases k
          · rw [e1] at k; cases k
          · exact e
          · exact e
          · exact e
        · subst hy
          obtain ⟨Oj, hOj, _⟩ := H v0 g1 hv0
          simp only [kj, reduceCtorEq, false_and, or_false, false_or, true_and] at hOj
          rw [← hv0.2]; exact hOj.1
      · by_cases e2 : kind i = .free
        · unfold Fam2 at hy
          split at hy
          · rcases hy with ⟨k, _⟩ | ⟨k, _⟩ | ⟨k, _⟩ | ⟨k, e, _⟩ | ⟨k, e, _⟩ | ⟨k, e, _⟩
            · rw [e2] at k; cases k
            · rw [e2] at k; cases k
            · rw [e2] at k; cases k
            · exact e
            · exact e
            · exact e
          · subst hy
            obtain ⟨Oj, hOj, _⟩ := H v0 g1 hv0
            simp only [kj, reduceCtorEq, false_and, or_false, false_or, true_and] at hOj
            rw [← hv0.2]; exact hOj.1
        · by_cases e3 : kind i = .aft
          · unfold Fam2 at hy
            split at hy
            · rcases hy with ⟨k, _⟩ | ⟨k, _⟩ | ⟨k, _⟩ | ⟨k, e, _⟩ | ⟨k, e, _⟩ | ⟨k, e, _⟩
              · rw [e3] at k; cases k
              · rw [e3] at k; cases k
              · rw [e3] at k; cases k
              · exact e
              · exact e
              · exact e
            · subst hy
              obtain ⟨Oj, hOj, _⟩ := H v0 g1 hv0
              simp only [kj, reduceCtorEq, false_and, or_false, false_or, true_and] at hOj
              rw [← hv0.2]; exact hOj.1
          · obtain ⟨v, rfl, _⟩ := hy.one e1 e2 e3
            obtain ⟨Oj, hOj, _⟩ := H v g ⟨rfl, rfl⟩
            simp only [kj, reduceCtorEq, false_and, or_false, false_or, true_and] at hOj
            exact hOj.1
    obtain ⟨u, hu, _⟩ := hval v0 g1 hv0
    refine ⟨One u g, ?_, ?_⟩
    · unfold Fam2; rw [if_pos hw]; exact .inr (.inl ⟨kj, hearly, u, hu, rfl⟩)
    · rintro u' g' ⟨rfl, rfl⟩
      exact one _ fun v g'' hv => by
        obtain ⟨u2, hu2, hK⟩ := hval v g'' hv
        rw [hu2.one hu] at hK
        exact hK
  | info =>
    rw [kj] at hgo
    simp only [Kd.goes, Bool.and_eq_true, bne_iff_ne, ne_eq] at hgo
    obtain ⟨v, rfl, _⟩ := hy.one hgo.1.1 hgo.1.2 hgo.2
    obtain ⟨Oj, hOj, hK⟩ := H v g ⟨rfl, rfl⟩
    simp only [kj, reduceCtorEq, false_and, or_false, false_or, true_and] at hOj
    obtain ⟨e, u, q, rfl⟩ := hOj
    refine ⟨One u g, ?_, ?_⟩
    · unfold Fam2; rw [if_pos hw]; exact .inr (.inr (.inl ⟨kj, e, u, q, rfl⟩))
    · rintro u' g' ⟨rfl, rfl⟩
      exact one _ fun v' g'' hv => by obtain ⟨rfl, rfl⟩ := hv; exact hK _ _ ⟨rfl, rfl⟩
  | loud =>
    rw [kj] at hgo
    simp only [Kd.goes, Bool.or_eq_true, beq_iff_eq] at hgo
    have n1 : kind i ≠ .loud := by rcases hgo with e | e <;> rw [e] <;> decide
    have n2 : kind i ≠ .free := by rcases hgo with e | e <;> rw [e] <;> decide
    have n3 : kind i ≠ .aft := by rcases hgo with e | e <;> rw [e] <;> decide
    obtain ⟨v, rfl, hF⟩ := hy.one n1 n2 n3
    obtain ⟨Oj, hOj, hK⟩ := H v g ⟨rfl, rfl⟩
    simp only [kj, reduceCtorEq, false_and, or_false, false_or, true_and] at hOj
    obtain ⟨e, q, r⟩ := hOj
    refine ⟨Oj, ?_, fun u g' hu => ⟨One v g', hF _ (hei u) (hwi u) g' ?_, ?_⟩⟩
    · unfold Fam2; rw [if_pos hw]; exact .inr (.inr (.inr (.inl ⟨kj, e, q, r⟩)))
    · rcases hgo with e1 | e1
      · exact .inl e1
      · rcases hlate with hl | hl
        · exact .inr ⟨r hl u g' hu, .inl e1⟩
        · exact .inl hl
    · rintro v' g'' ⟨rfl, rfl⟩
      rw [← Act.put_comm a v' u h2]
      exact hK u g'' hu
  | free =>
    rw [kj] at hgo
    simp only [Kd.goes, bne_iff_ne, ne_eq] at hgo
    by_cases e2 : kind i = .free
    · unfold Fam2 at hy
      by_cases hwt : Region.wanted oi (yielded ops a.tmps) = true
      · rw [if_pos hwt] at hy
        simp only [e2, reduceCtorEq, false_and, or_false, false_or, true_and] at hy
        obtain ⟨ei, qi, rfl⟩ := hy
        obtain ⟨Oj, hOj, _⟩ := H v0 g1 hv0
        simp only [kj, reduceCtorEq, false_and, or_false, false_or, true_and] at hOj
        obtain ⟨_, qj, _⟩ := hOj
        refine ⟨FO Ok val upd j g, ?_, ?_⟩
        · unfold Fam2; rw [if_pos hw]; exact .inr (.inr (.inr (.inr (.inl ⟨kj, ei, qj, rfl⟩))))
        · rintro u g' ⟨y, oky, rfl, rfl⟩
          refine ⟨FO Ok val upd i (upd j g y), ?_, ?_⟩
          · unfold Fam2; rw [hwi, if_pos hwt]
            exact .inr (.inr (.inr (.inr (.inl ⟨e2, hE j g y (.inl kj) ei, fun g' hg' => (qi g' hg').of_same (hei _), rfl⟩))))
          · rintro v g'' ⟨x, okx, rfl, rfl⟩
            obtain ⟨Oj, hOj, hK⟩ := H (val i x) (upd i g x) ⟨x, okx, rfl, rfl⟩
            simp only [kj, reduceCtorEq, false_and, or_false, false_or, true_and] at hOj
            obtain ⟨_, _, rfl⟩ := hOj
            rw [← Act.put_comm a _ _ h2, hC i j g x y (.inl e2) kj hij]
            exact hK _ _ ⟨y, oky, rfl, rfl⟩
      · rw [if_neg hwt] at hy
        subst hy
        obtain ⟨Oj, hOj, hK⟩ := H undef g ⟨rfl, rfl⟩
        simp only [kj, reduceCtorEq, false_and, or_false, false_or, true_and] at hOj
        obtain ⟨ej, qj, rfl⟩ := hOj
        refine ⟨FO Ok val upd j g, ?_, fun u g' hu => ⟨One undef g', ?_, ?_⟩⟩
        · unfold Fam2; rw [if_pos hw]; exact .inr (.inr (.inr (.inr (.inl ⟨kj, ej, qj, rfl⟩))))
        · unfold Fam2; rw [hwi, if_neg hwt]
        · rintro v' g'' ⟨rfl, rfl⟩
          rw [← Act.put_comm a _ _ h2]
          exact hK u g'' hu
    · by_cases e3 : kind i = .aft
      · unfold Fam2 at hy
        by_cases hwt : Region.wanted oi (yielded ops a.tmps) = true
        · rw [if_pos hwt] at hy
          simp only [e3, reduceCtorEq, false_and, false_or, true_and] at hy
          obtain ⟨ei, qi, rfl⟩ := hy
          obtain ⟨Oj, hOj, _⟩ := H v0 g1 hv0
          simp only [kj, reduceCtorEq, false_and, or_false, false_or, true_and] at hOj
          obtain ⟨_, qj, _⟩ := hOj
          refine ⟨FO Ok val upd j g, ?_, ?_⟩
          · unfold Fam2; rw [if_pos hw]; exact .inr (.inr (.inr (.inr (.inl ⟨kj, ei, qj, rfl⟩))))
          · rintro u g' ⟨y, oky, rfl, rfl⟩
            refine ⟨FO Ok val upd i (upd j g y), ?_, ?_⟩
            · unfold Fam2; rw [hwi, if_pos hwt]
              exact .inr (.inr (.inr (.inr (.inr ⟨e3, hE j g y (.inl kj) ei, fun g' hl hg' => (qi g' (hT _ _ _ (hU j g y kj) hl) hg').of_same (hei _), rfl⟩))))
            · rintro v g'' ⟨x, okx, rfl, rfl⟩
              obtain ⟨Oj, hOj, hK⟩ := H (val i x) (upd i g x) ⟨x, okx, rfl, rfl⟩
              simp only [kj, reduceCtorEq, false_and, or_false, false_or, true_and] at hOj
              obtain ⟨_, _, rfl⟩ := hOj
              rw [← Act.put_comm a _ _ h2, hC i j g x y (.inr e3) kj hij]
              exact hK _ _ ⟨y, oky, rfl, rfl⟩
        · rw [if_neg hwt] at hy
          subst hy
          obtain ⟨Oj, hOj, hK⟩ := H undef g ⟨rfl, rfl⟩
          simp only [kj, reduceCtorEq, false_and, or_false, false_or, true_and] at hOj
          obtain ⟨ej, qj, rfl⟩ := hOj
          refine ⟨FO Ok val upd j g, ?_, fun u g' hu => ⟨One undef g', ?_, ?_⟩⟩
          · unfold Fam2; rw [if_pos hw]; exact .inr (.inr (.inr (.inr (.inl ⟨kj, ej, qj, rfl⟩))))
          · unfold Fam2; rw [hwi, if_neg hwt]
          · rintro v' g'' ⟨rfl, rfl⟩
            rw [← Act.put_comm a _ _ h2]
            exact hK u g'' hu
      · obtain ⟨v, rfl, hF⟩ := hy.one hgo e2 e3
        obtain ⟨Oj, hOj, hK⟩ := H v g ⟨rfl, rfl⟩
        simp only [kj, reduceCtorEq, false_and, or_false, false_or, true_and] at hOj
        obtain ⟨ej, qj, rfl⟩ := hOj
        refine ⟨FO Ok val upd j g, ?_, fun u g' hu => ⟨One v g', ?_, ?_⟩⟩
        · unfold Fam2; rw [if_pos hw]; exact .inr (.inr (.inr (.inr (.inl ⟨kj, ej, qj, rfl⟩))))
        · obtain ⟨y, oky, rfl, rfl⟩ := hu
          exact hF _ (hei _) (hwi _) _ (.inr ⟨hE j g y (.inl kj) ej, .inr fun w hw => hM j g y w kj hw⟩)
        · rintro v' g'' ⟨rfl, rfl⟩
          rw [← Act.put_comm a _ _ h2]
          exact hK u g'' hu
  | aft =>
    rw [kj] at hgo
    simp only [Kd.goes, Bool.or_eq_true, beq_iff_eq] at hgo
    have n1 : kind i ≠ .loud := by rcases hgo with e | e <;> rw [e] <;> decide
    have n2 : kind i ≠ .free := by rcases hgo with e | e <;> rw [e] <;> decide
    have n3 : kind i ≠ .aft := by rcases hgo with e | e <;> rw [e] <;> decide
    obtain ⟨v, rfl, hF⟩ := hy.one n1 n2 n3
    obtain ⟨Oj, hOj, hK⟩ := H v g ⟨rfl, rfl⟩
    simp only [kj, reduceCtorEq, false_and, false_or, true_and] at hOj
    obtain ⟨ej, qj, rfl⟩ := hOj
    refine ⟨FO Ok val upd j g, ?_, fun u g' hu => ⟨One v g', ?_, ?_⟩⟩
    · unfold Fam2; rw [if_pos hw]; exact .inr (.inr (.inr (.inr (.inr ⟨kj, ej, qj, rfl⟩))))
    · obtain ⟨y, oky, rfl, rfl⟩ := hu
      refine hF _ (hei _) (hwi _) _ ?_
      rcases hgo with e1 | e1
      · exact .inl e1
      · exact .inr ⟨hE j g y (.inr kj) ej, .inl e1⟩
    · rintro v' g'' ⟨rfl, rfl⟩
      rw [← Act.put_comm a _ _ h2]
      exact hK u g'' hu

theorem dOp_of {i : Nat} {o : Oper} {a : Act} {g : G} {O : Value → G → Prop} {K : Act → G → Prop} (hi : ops[i]? = some o) (h : Fam2 P ops W I early kind late Ok val upd le i o a g O) (hK : ∀ v g', O v g' → K (a.put o.dst v) g') : dOp P ops W I early kind late Ok val upd le i K a g := by
  unfold dOp; simp only [hi]; exact ⟨O, h, hK⟩

/-- What is asked of the ghost: free ones keep it early, add to what is known, and do so in either order. -/
structure GhostOk (I : G → World → Prop) (early : G → Prop) (kind : Nat → Kd) (upd : Nat → G → X → G) (le : G → G → Prop) : Prop where
  refl : ∀ g, le g g
  trans : ∀ a b c : G, le a b → le b c → le a c
  up : ∀ i g x, kind i = .free → le g (upd i g x)
  early : ∀ i g x, (kind i = .free ∨ kind i = .aft) → early g → early (upd i g x)
  more : ∀ i g x w, kind i = .free → I (upd i g x) w → I g w
  comm : ∀ i j g x y, (kind i = .free ∨ kind i = .aft) → kind j = .free → i ≠ j → upd i (upd j g y) x = upd j (upd i g x) y
def Region.LatePure (md : Region.Mode) (ops : Array Oper) (late : Nat → Bool) (kind : Nat → Kd) : Prop :=
  ∀ listed, Region.Closed md ops listed → ∀ i, listed.getD i true = false → ∀ j ∈ Region.ready md ops listed, j ≠ i → late j = false ∨ kind i = .pure

theorem wpAnyD_first {Q : Act → G → Prop} (hG : GhostOk I early kind upd le) {i : Nat} {oi : Oper} (hi : ops[i]? = some oi) (hsel : ∀ (j : Nat) (o : Oper) cs b, ops[j]? = some o → o.op ≠ .select cs b) (hlt : Region.LatePure md ops late kind) :
    ∀ (fuel : Nat) (listed : Array Bool) (a : Act) (g : G) (O : Value → G → Prop), Region.Closed md ops listed →
      (∀ j oj, ops[j]? = some oj → j ≠ i → listed.getD j true = false → (∀ e ∈ oj.after, Region.binds md e = true → e.on ≠ i) → oi.apart ops oj = true ∧ (kind i).goes (kind j) = true) →
      i ∈ Region.ready md ops listed → Fam2 P ops W I early kind late Ok val upd le i oi a g O →
      (∀ v g', O v g' → wpAnyD P ops md W I early kind late Ok val upd le Q fuel (listed.setIfInBounds i true) (a.put oi.dst v) g') → wpAnyD P ops md W I early kind late Ok val upd le Q (fuel + 1) listed a g := by
  intro fuel
  induction fuel with
  | zero =>
    intro listed a g O _ _ hr hy H
    refine ⟨fun h => (by rw [h] at hr; cases hr), fun j hj => ?_⟩
    by_cases hji : j = i
    · subst hji; exact dOp_of hi hy H
    · have := ready_mono hj hji
      obtain ⟨v, g', hv⟩ := hy.some hG.refl
      rw [(H v g' hv).1] at this
      cases this
  | succ fuel ih =>
    intro listed a g O hcl hfree hr hy H
    refine ⟨fun h => (by rw [h] at hr; cases hr), fun j hj => ?_⟩
    by_cases hji : j = i
    · subst hji; exact dOp_of hi hy H
    · have h1 := fun v g' hv => (H v g' hv).2 j (ready_mono hj hji)
      obtain ⟨hjun, oj, hoj, hall⟩ := mem_ready.1 hj
      have hnot : ∀ e ∈ oj.after, Region.binds md e = true → e.on ≠ i := fun e he hb heq => by
        have h1 := hall e he hb
        have h0 := (mem_ready.1 hr).1
        rw [heq] at h1
        rcases Nat.lt_or_ge i listed.size with h' | h'
        · simp [h'] at h0 h1; rw [h0] at h1; cases h1
        · simp [Array.getElem?_eq_none h'] at h1
      obtain ⟨hap, hgo⟩ := hfree j oj hoj hji hjun hnot
      have h2 := dOp_put hG.refl hG.trans hG.up hG.early hG.more hG.comm (Ne.symm hji) hoj hap (fun cs b => hsel i oi cs b hi) (fun cs b => hsel j oj cs b hoj) hgo (hlt listed hcl i (mem_ready.1 hr).1 j hj hji) hy h1
      have hfree' : ∀ k ok, ops[k]? = some ok → k ≠ i → (listed.setIfInBounds j true).getD k true = false →
          (∀ e ∈ ok.after, Region.binds md e = true → e.on ≠ i) → oi.apart ops ok = true ∧ (kind i).goes (kind k) = true := fun k ok hk hki hun hno => by
        refine hfree k ok hk hki ?_ hno
        by_cases hjk : j = k
        · subst hjk; exact hjun
        · rw [getD_set_ne true hjk] at hun; exact hun
      refine dOp_mono (fun a' g' ⟨O', h3, h4⟩ => ih (listed.setIfInBounds j true) a' g' O' (hcl.set hj) hfree' (ready_mono hr (Ne.symm hji)) h3 ?_) h2
      rw [Array.setIfInBounds_comm _ _ hji]
      exact h4

def Region.kindFree (md : Region.Mode) (ops : Array Oper) (kind : Nat → Kd) (listed : Array Bool) (i : Nat) : Bool :=
  (List.range ops.size).all fun j => j == i || listed.getD j true || match ops[j]? with
      | some oj => oj.after.any (fun e => Region.binds md e && e.on == i) || (kind i).goes (kind j)
      | none => true
theorem Region.kindFree_spec {i : Nat} {listed : Array Bool} (h : Region.kindFree md ops kind listed i = true) (j : Nat) (oj : Oper)
    (hj : ops[j]? = some oj) (hne : j ≠ i) (hun : listed.getD j true = false) (hno : ∀ e ∈ oj.after, Region.binds md e = true → e.on ≠ i) : (kind i).goes (kind j) = true := by
  simp only [Region.kindFree, List.all_eq_true, List.mem_range] at h
  have h1 := h j (Array.getElem?_eq_some_iff.1 hj).1
  simp only [hj, Bool.or_eq_true, beq_iff_eq, hne, false_or, hun, Bool.false_eq_true] at h1
  rcases h1 with h1 | h1
  · obtain ⟨e, he, hb⟩ := Array.any_eq_true'.1 h1
    simp only [Bool.and_eq_true, beq_iff_eq] at hb
    exact absurd hb.2 (hno e he hb.1)
  · exact h1
def Region.lexFromD (md : Region.Mode) (ops : Array Oper) (kind : Nat → Kd) : Nat → Nat → Array Bool → Bool
  | 0, _, listed => (Region.ready md ops listed).isEmpty
  | fuel + 1, k, listed => (Region.ready md ops listed).contains k && Region.free md ops listed k && Region.kindFree md ops kind listed k && Region.lexFromD md ops kind fuel (k + 1) (listed.setIfInBounds k true)
def Region.lexBD (md : Region.Mode) (ops : Array Oper) (kind : Nat → Kd) : Bool := Region.noSelect ops && Region.lexFromD md ops kind ops.size 0 (Array.replicate ops.size false)

theorem wpAnyD_lex {Q : Act → G → Prop} (hG : GhostOk I early kind upd le) (hs : Region.noSelect ops = true) (hlt : Region.LatePure md ops late kind) : ∀ (l : List Oper) (k : Nat) (listed : Array Bool) (a : Act) (g : G), Region.Closed md ops listed → (∀ j, l[j]? = ops[k + j]?) →
    Region.lexFromD md ops kind l.length k listed = true → lexD P ops W I early kind late Ok val upd le Q l k a g → wpAnyD P ops md W I early kind late Ok val upd le Q l.length listed a g
  | [], _, _, _, _, _, _, hB, h => ⟨by simpa [Region.lexFromD] using hB, h⟩
  | o :: l, k, listed, a, g, hcl, hl, hB, h => by
    have h0 : ops[k]? = some o := by simpa using (hl 0).symm
    simp only [List.length_cons, Region.lexFromD, Bool.and_eq_true] at hB
    obtain ⟨⟨⟨hr, hf⟩, hlf⟩, hB'⟩ := hB
    have hst : dOp P ops W I early kind late Ok val upd le k (lexD P ops W I early kind late Ok val upd le Q l (k + 1)) a g := h
    unfold dOp at hst
    simp only [h0] at hst
    obtain ⟨O, hO, hK⟩ := hst
    exact wpAnyD_first hG h0 (Region.noSelect_spec hs) hlt l.length listed a g O hcl (fun j oj hj hne hun hno => ⟨Region.free_spec h0 hf j oj hj hne hun hno, Region.kindFree_spec hlf j oj hj hne hun hno⟩) (by simpa using hr) hO
      (fun v g' hv => wpAnyD_lex hG hs hlt l (k + 1) _ _ g' (hcl.set (by simpa using hr)) (fun j => by have := hl (j + 1); simpa [Nat.add_assoc, Nat.add_comm 1 j] using this) hB' (hK v g' hv))

/-- A run of quiet operations: in every world above the start, or in every one in which what is known holds. -/
theorem lexD_quiet {Q : Act → G → Prop} {R : Act → Prop} {rest : List Oper} {g : G} (hg : early g) (kd : Kd) (hkd : (kd = .basic ∧ ∃ J : World → Prop, (∀ w, J w ↔ Ab W w)) ∨ kd = .info) (J : World → Prop) (hJ : (kd = .basic ∧ ∀ w, Ab W w → J w) ∨ (kd = .info ∧ ∀ w, I g w → J w)) (hJ2 : ∀ w w', J w → Ab w w' → J w') (w0 : World) (hw0 : J w0) (hdet : ∀ w, J w → Ab w0 w) :
    ∀ (l : List Oper) (k : Nat) (a : Act), (∀ j, j < l.length → l[j]? = ops[k + j]? ∧ kind (k + j) = kd) →
    (∀ a, R a → lexD P ops W I early kind late Ok val upd le Q rest (k + l.length) a g) → (∀ w1, J w1 → wpQuiet P ops (Cl w1) R l a) → lexD P ops W I early kind late Ok val upd le Q (l ++ rest) k a g
  | [], k, a, _, hR, h => hR a (h w0 hw0)
  | o :: l, k, a, hl, hR, h => by
    have h0 : ops[k]? = some o := by simpa using (hl 0 (by simp)).1.symm
    have hkk : kind k = kd := by simpa using (hl 0 (by simp)).2
    have next : ∀ a', (∀ w1, J w1 → wpQuiet P ops (Cl w1) R l a') → lexD P ops W I early kind late Ok val upd le Q (l ++ rest) (k + 1) a' g := fun a' h' =>
      lexD_quiet hg kd hkd J hJ hJ2 w0 hw0 hdet l (k + 1) a' (fun j hj => by have := hl (j + 1) (by simp; omega); simpa [Nat.add_assoc, Nat.add_comm 1 j] using this)
        (fun a hRa => by have := hR a hRa; simpa [Nat.add_assoc, Nat.add_comm 1] using this) h'
    show dOp P ops W I early kind late Ok val upd le k (lexD P ops W I early kind late Ok val upd le Q (l ++ rest) (k + 1)) a g
    by_cases hw : Region.wanted o (yielded ops a.tmps) = true
    · have hq : ∀ w1, J w1 → ∃ v, (∀ w, Cl w1 w → o.quietAt P a (Cl w1) w v) ∧ wpQuiet P ops (Cl w1) R l (a.put o.dst v) := fun w1 hw1 => by
        have := h w1 hw1
        simp only [wpQuiet] at this
        rw [if_pos hw] at this
        exact this
      obtain ⟨v, hv, _⟩ := hq w0 hw0
      have same : ∀ w1, J w1 → ∀ v1, (∀ w, Cl w1 w → o.quietAt P a (Cl w1) w v1) → v1 = v := fun w1 hw1 v1 hv1 =>
        quietUpon_same (hv1 w1 (Ab.refl w1).cl) (hv w1 (hdet w1 hw1).cl)
      have hSQ : ∀ w, J w → Oper.quietUpon P (Ab w) w v ((execOp a.eval o).run P w) := fun w1 hw1 => by
        obtain ⟨v1, hv1, _⟩ := hq w1 hw1
        have e := same w1 hw1 v1 hv1
        subst e
        exact quietUpon_class (fun _ h => Cl.ab h) (hv1 w1 (Ab.refl w1).cl)
      refine dOp_of h0 (O := One v g) ?_ ?_
      · unfold Fam2; rw [if_pos hw]
        rcases hJ with ⟨e, hJ⟩ | ⟨e, hJ⟩
        · exact .inr (.inl ⟨hkk.trans e, hg, v, fun w hw' => hSQ w (hJ w hw'), rfl⟩)
        · exact .inr (.inr (.inl ⟨hkk.trans e, hg, v, fun w hw' => hSQ w (hJ w hw'), rfl⟩))
      · rintro v' g' ⟨rfl, rfl⟩
        refine next _ fun w1 hw1 => ?_
        obtain ⟨v1, hv1, hrest⟩ := hq w1 hw1
        rw [← same w1 hw1 v1 hv1]
        exact hrest
    · refine dOp_of h0 (O := One undef g) ?_ ?_
      · unfold Fam2; rw [if_neg hw]
      · rintro v' g' ⟨rfl, rfl⟩
        refine next _ fun w1 hw1 => ?_
        have := h w1 hw1
        simp only [wpQuiet] at this
        rw [if_neg hw] at this
        exact this
end
end D2
end Go.Proofs.YtbmjghkdhhcffaaDoor
