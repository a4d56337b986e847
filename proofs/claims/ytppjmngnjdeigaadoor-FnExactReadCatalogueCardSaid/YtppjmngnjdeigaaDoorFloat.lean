/- A region that draws its order, in which one new variable is made, one value is stored into it, and every other operation is quiet: walked once, in the order of the text. -/
import Derived.Test.YtppjmngnjdeigaaDoorQuiet
import Derived.Barred
namespace Go.Proofs.YtppjmngnjdeigaaDoor
open Go.ChangeShapes Go.WideShapes Go.ChangeAt Go.RowKit

/-! ### Two contracts on one call speak of one value -/
theorem exists_above (l : List Nat) : ∃ N, ∀ x ∈ l, x < N := by
  induction l with
  | nil => exact ⟨0, fun x hx => absurd hx (by simp)⟩
  | cons y l ih =>
    obtain ⟨N, h⟩ := ih
    refine ⟨max N (y + 1), fun x hx => ?_⟩
    rcases List.mem_cons.1 hx with rfl | hx
    · omega
    · have := h x hx; omega

def endFrame (F : FuncId) : Frame := { fn := F, tmps := #[], todo := [.extern "" #[]], defers := [], mode := .returning, kind := .normal }

theorem step_endFrame {P : Program} {F : FuncId} {w : World} {v : Value} (h1 : P.funcs[F]? = none) (h2 : P.inits.idxOf? F = none) :
    step P (lone ((endFrame F).finish v) [] w) = .ended (.done v) w :=
  step_lone_ended (by simp [stepG, unwind, doReturn, endFrame, Frame.finish, h1, h2])

theorem calls_end {P : Program} {f : FuncId} {args : Array Value} {w : World} {v : Value} {R : World → Prop} (F : FuncId) (h1 : P.funcs[F]? = none) (h2 : P.inits.idxOf? F = none)
    (h : Calls P f args w fun e w' => e = .returned v ∧ R w') : ∃ n w', runN P n (lone (Frame.enter P f args .normal) [endFrame F] w) = .ended (.done v) w' := by
  obtain ⟨e, w', fr, ⟨rfl, hR⟩, hcomes, hfn, hleave⟩ := h [endFrame F]
  have hs : Steps P (lone (Frame.enter P f args .normal) [endFrame F] w) (lone fr [endFrame F] w') := hcomes
  obtain ⟨n, hn⟩ := hs
  refine ⟨n + 2, w', ?_⟩
  rw [runN_add, hn]
  simp [runN, step_leave_returned hleave, step_endFrame h1 h2]

theorem calls_same {P : Program} {f : FuncId} {args : Array Value} {w : World} {v v' : Value} {R R' : World → Prop}
    (h : Calls P f args w fun e w' => e = .returned v ∧ R w') (h' : Calls P f args w fun e w' => e = .returned v' ∧ R' w') : v = v' := by
  obtain ⟨N, hN⟩ := exists_above (P.funcs.size :: P.inits.toList)
  have h1 : P.funcs[N]? = none := Array.getElem?_eq_none (Nat.le_of_lt (hN _ (List.mem_cons_self ..)))
  have h2 : P.inits.idxOf? N = none := by
    rw [Array.idxOf?_eq_none_iff]
    intro hm
    exact Nat.lt_irrefl _ (hN N (List.mem_cons_of_mem _ (by simpa using hm)))
  obtain ⟨n, w1, e1⟩ := calls_end N h1 h2 h
  obtain ⟨m, w2, e2⟩ := calls_end N h1 h2 h'
  have a := runN_same_end e1 e2
  injection a

theorem quietUpon_same {P : Program} {C C' : World → Prop} {w : World} {v v' : Value} {r : Result Next} (h : Oper.quietUpon P C w v r) (h' : Oper.quietUpon P C' w v' r) : v = v' := by
  cases r with
  | ok n w' =>
    cases n <;> simp only [Oper.quietUpon] at h h'
    case value u => exact h.2.symm.trans h'.2
    case skip => exact h.2.trans h'.2.symm
    case enter f args => exact calls_same h.2 h'.2
  | halt x w' => simp only [Oper.quietUpon] at h

theorem quietUpon_class {P : Program} {C C' : World → Prop} {w : World} {v : Value} {r : Result Next} (hC : ∀ w', C w' → C' w') (h : Oper.quietUpon P C w v r) : Oper.quietUpon P C' w v r := by
  cases r with
  | ok n w' =>
    cases n <;> simp only [Oper.quietUpon] at h ⊢
    case value u => exact h
    case skip => exact h
    case enter f args => exact ⟨h.1, h.2.mono fun e w'' ⟨he, hw⟩ => ⟨he, hC _ hw⟩⟩
  | halt x w' => simp only [Oper.quietUpon] at h

/-! ### Worlds above a world -/
def Ab (w w' : World) : Prop := Below w.heap.size w w'
theorem Ab.refl (w : World) : Ab w w := Below.refl _ _
theorem Ab.trans {a b c : World} (h : Ab a b) (k : Ab b c) : Ab a c := Below.trans h (Below.mono k h.size)
def Cl (w : World) : World → Prop := fun w' => ∃ p : Regrown, w' = bw w p
theorem Cl.ab {w w' : World} (h : Cl w w') : Ab w w' := below_of_bw h
theorem Ab.cl {w w' : World} (h : Ab w w') : Cl w w' := bw_of_below h

/-- A contract at every world, met in a world of the class. -/
theorem calls_all {P : Program} {f : FuncId} {args : Array Value} {w : World} {p : Regrown} {v : Value}
    (c : ∀ W : World, Calls P f args W fun e w' => e = .returned v ∧ Below W.heap.size W w') : Calls P f args (bw w p) fun e w'' => e = .returned v ∧ ∃ p : Regrown, w'' = bw w p := calls_bw (c _)

/-! ### The float: every order -/
section
variable (P : Program) (ops : Array Oper) (md : Region.Mode) (W : World) {G : Type} (I : G → World → Prop) (early : G → Prop) (loud late pur : Nat → Bool)

/-- Quiet with one value in every world above W; a callee leaves a world above the one that it got. -/
def SQ (o : Oper) (a : Act) (v : Value) : Prop := ∀ w, Ab W w → Oper.quietUpon P (Ab w) w v ((execOp a.eval o).run P w)

/-- A value, or nothing, or a call that leads to such a value and world. -/
def Yld (P : Program) (R : Value → World → Prop) (w : World) : Result Next → Prop
  | .ok (.value v) w' => R v w'
  | .ok .skip w' => R undef w'
  | .ok (.enter f args) w' => w' = w ∧ Calls P f args w fun e w'' => ∃ v, e = .returned v ∧ R v w''
  | _ => False
theorem Yld.mono {P : Program} {R R' : Value → World → Prop} {w : World} {r : Result Next} (hR : ∀ v w', R v w' → R' v w') (h : Yld P R w r) : Yld P R' w r := by
  cases r with
  | ok n w' =>
    cases n <;> simp only [Yld] at h ⊢
    case value u => exact hR _ _ h
    case skip => exact hR _ _ h
    case enter f args => exact ⟨h.1, h.2.mono fun e w'' ⟨v, he, hv⟩ => ⟨v, he, hR _ _ hv⟩⟩
  | halt x w' => simp only [Yld] at h

/-- A value that does not hang on the world. -/
def PQ (P : Program) (o : Oper) (a : Act) (v : Value) : Prop := ∀ w, (execOp a.eval o).run P w = .ok (.value v) w

structure Loud (o : Oper) (a : Act) (g : G) (O : Value → G → Prop) : Prop where
  some : ∃ v g', O v g'
  run : ∀ w, I g w → Yld P (fun v w' => ∃ g', O v g' ∧ I g' w') w ((execOp a.eval o).run P w)

/-- What may come of one operation: values, and what is then kept. -/
def Fam (i : Nat) (o : Oper) (a : Act) (g : G) (O : Value → G → Prop) : Prop :=
  if Region.wanted o (yielded ops a.tmps) then (if pur i then ∃ v, PQ P o a v ∧ O = fun v' g' => v' = v ∧ g' = g else early g ∧ (if loud i then Loud P I o a g O ∧ (late i = false → ∀ v g', O v g' → early g') else ∃ v, SQ P W o a v ∧ O = fun v' g' => v' = v ∧ g' = g))
  else O = fun v' g' => v' = undef ∧ g' = g

def fOp (i : Nat) (K : Act → G → Prop) (a : Act) (g : G) : Prop :=
  match ops[i]? with
  | none => K a g
  | some o => ∃ O, Fam P ops W I early loud late pur i o a g O ∧ ∀ v g', O v g' → K (a.put o.dst v) g'

def wpAnyF (Q : Act → G → Prop) : Nat → Array Bool → Act → G → Prop
  | 0, listed, a, g => Region.ready md ops listed = [] ∧ Q a g
  | fuel + 1, listed, a, g =>
    (Region.ready md ops listed = [] → Q a g) ∧
    ∀ i ∈ Region.ready md ops listed, fOp P ops W I early loud late pur i (wpAnyF Q fuel (listed.setIfInBounds i true)) a g

/-- The order of the text, from number k on. -/
def lexW (Q : Act → G → Prop) : List Oper → Nat → Act → G → Prop
  | [], _, a, g => Q a g
  | _ :: l, k, a, g => fOp P ops W I early loud late pur k (lexW Q l (k + 1)) a g
end

section
variable {P : Program} {ops : Array Oper} {md : Region.Mode} {W : World} {G : Type} {I : G → World → Prop} {early : G → Prop} {loud late pur : Nat → Bool}

theorem fOp_mono {i : Nat} {a : Act} {g : G} {K K' : Act → G → Prop} (h : ∀ a g, K a g → K' a g) (hh : fOp P ops W I early loud late pur i K a g) : fOp P ops W I early loud late pur i K' a g := by
  unfold fOp at *
  split
  · rename_i ho; simp only [ho] at hh; exact h _ _ hh
  · rename_i o ho
    simp only [ho] at hh
    obtain ⟨O, h1, h2⟩ := hh
    exact ⟨O, h1, fun v g' hv => h _ _ (h2 v g' hv)⟩

theorem SQ.one {o : Oper} {a : Act} {v v' : Value} (h : SQ P W o a v) (h' : SQ P W o a v') : v = v' := quietUpon_same (h W (Ab.refl W)) (h' W (Ab.refl W))
theorem SQ.of_same {o : Oper} {a a' : Act} {v : Value} (h : SQ P W o a v) (he : execOp a'.eval o = execOp a.eval o) : SQ P W o a' v := by unfold SQ at *; rw [he]; exact h
theorem PQ.one {o : Oper} {a : Act} {v v' : Value} (h : PQ P o a v) (h' : PQ P o a v') : v = v' := by
  have := (h default).symm.trans (h' default)
  injection this with e _
  injection e
theorem PQ.of_same {o : Oper} {a a' : Act} {v : Value} (h : PQ P o a v) (he : execOp a'.eval o = execOp a.eval o) : PQ P o a' v := by unfold PQ at *; rw [he]; exact h
theorem Loud.of_same {o : Oper} {a a' : Act} {g : G} {O : Value → G → Prop} (h : Loud P I o a g O) (he : execOp a'.eval o = execOp a.eval o) : Loud P I o a' g O := ⟨h.some, by rw [he]; exact h.run⟩
theorem Fam.nonempty {i : Nat} {o : Oper} {a : Act} {g : G} {O : Value → G → Prop} (h : Fam P ops W I early loud late pur i o a g O) : ∃ v g', O v g' := by
  unfold Fam at h
  split at h
  · split at h
    · obtain ⟨v, _, rfl⟩ := h; exact ⟨v, g, rfl, rfl⟩
    · obtain ⟨_, h⟩ := h
      split at h
      · exact h.1.some
      · obtain ⟨v, _, rfl⟩ := h; exact ⟨v, g, rfl, rfl⟩
  · subst h; exact ⟨_, g, rfl, rfl⟩
theorem Fam.of_same {i : Nat} {o : Oper} {a a' : Act} {g : G} {O : Value → G → Prop} (h : Fam P ops W I early loud late pur i o a g O) (he : execOp a'.eval o = execOp a.eval o)
    (hw : Region.wanted o (yielded ops a'.tmps) = Region.wanted o (yielded ops a.tmps)) : Fam P ops W I early loud late pur i o a' g O := by
  unfold Fam at *
  rw [hw]
  split
  · rename_i hh
    rw [if_pos hh] at h
    by_cases hp : pur i = true
    · rw [if_pos hp] at h ⊢
      obtain ⟨v, h1, h2⟩ := h
      exact ⟨v, h1.of_same he, h2⟩
    · rw [if_neg hp] at h ⊢
      refine ⟨h.1, ?_⟩
      by_cases hl : loud i = true
      · rw [if_pos hl] at h ⊢; exact ⟨h.2.1.of_same he, h.2.2⟩
      · rw [if_neg hl] at h ⊢; obtain ⟨_, v, h1, h2⟩ := h; exact ⟨v, h1.of_same he, h2⟩
  · rename_i hh; rw [if_neg hh] at h; exact h

/-- Sound: whatever order is picked. -/
theorem wpAny_of_float {Q : Act → G → Prop} {Q' : Exit → Act → World → Prop} (hI1 : ∀ g w, early g → I g w → Ab W w) (hI2 : ∀ g w w', early g → I g w → Ab w w' → I g w') (hQ : ∀ a g w, I g w → Q a g → Q' .normal a w) :
    ∀ (fuel : Nat) (listed : Array Bool) (a : Act) (g : G) (w : World), I g w → wpAnyF P ops md W I early loud late pur Q fuel listed a g → wpAny P md ops Q' fuel listed a w
  | 0, _, _, _, _, hw, h => ⟨h.1, hQ _ _ _ hw h.2⟩
  | fuel + 1, listed, a, g, w, hw, h => by
    refine ⟨fun h0 => hQ _ _ _ hw (h.1 h0), fun i hi => ?_⟩
    have hh := h.2 i hi
    have go := fun a g w => wpAny_of_float hI1 hI2 hQ fuel (listed.setIfInBounds i true) a g w
    unfold fOp at hh
    unfold wpOp
    split
    · rename_i ho; simp only [ho] at hh; exact go _ _ _ hw hh
    · rename_i o ho
      simp only [ho] at hh
      obtain ⟨O, h1, h2⟩ := hh
      unfold Fam at h1
      split
      · rename_i hwn
        rw [if_pos hwn] at h1
        refine .inl ?_
        unfold Oper.wp
        by_cases hp : pur i = true
        · rw [if_pos hp] at h1
          obtain ⟨v, hv, rfl⟩ := h1
          rw [hv w]
          exact go _ _ _ hw (h2 _ _ ⟨rfl, rfl⟩)
        rw [if_neg hp] at h1
        obtain ⟨hearly, h1⟩ := h1
        split at h1
        · have h3 := h1.1.run w hw
          generalize (execOp a.eval o).run P w = r at h3
          cases r with
          | ok n w' =>
            cases n <;> simp only [Yld] at h3 <;> simp only [Oper.upon]
            case value u => obtain ⟨g', hO, hIw⟩ := h3; exact go _ _ _ hIw (h2 _ _ hO)
            case skip => obtain ⟨g', hO, hIw⟩ := h3; exact go _ _ _ hIw (h2 _ _ hO)
            case enter f args =>
              obtain ⟨e1, hc⟩ := h3
              rw [e1]
              exact hc.mono fun e w'' ⟨v, he, g', hO, hIw⟩ => by subst he; exact go _ _ _ hIw (h2 _ _ hO)
          | halt x w' => simp only [Yld] at h3
        · obtain ⟨v, hv, rfl⟩ := h1
          have h3 := hv w (hI1 _ _ hearly hw)
          generalize (execOp a.eval o).run P w = r at h3
          cases r with
          | ok n w' =>
            cases n <;> simp only [Oper.quietUpon] at h3 <;> simp only [Oper.upon]
            case value u => obtain ⟨e1, e2⟩ := h3; rw [e1, e2]; exact go _ _ _ hw (h2 _ _ ⟨rfl, rfl⟩)
            case skip => obtain ⟨e1, e2⟩ := h3; rw [e1, ← e2]; exact go _ _ _ hw (h2 _ _ ⟨rfl, rfl⟩)
            case enter f args =>
              obtain ⟨e1, hc⟩ := h3
              rw [e1]
              exact hc.mono fun e w'' ⟨he, hw''⟩ => by subst he; exact go _ _ _ (hI2 _ _ _ hearly hw hw'') (h2 _ _ ⟨rfl, rfl⟩)
          | halt x w' => simp only [Oper.quietUpon] at h3
      · rename_i hwn
        rw [if_neg hwn] at h1
        subst h1
        exact go _ _ _ hw (h2 _ _ ⟨rfl, rfl⟩)

/-- Operation 'oj' apart from 'oi', not both loud: 'oi' may be taken first. -/
theorem fOp_put {i j : Nat} {oi oj : Oper} {O : Value → G → Prop} (hj : ops[j]? = some oj) (hap : oi.apart ops oj = true)
    (hsi : ∀ cs b, oi.op ≠ .select cs b) (hsj : ∀ cs b, oj.op ≠ .select cs b) (hl : ¬ (loud i = true ∧ loud j = true)) (hlate : late j = false ∨ pur i = true) {K : Act → G → Prop} {a : Act} {g : G}
    (hy : Fam P ops W I early loud late pur i oi a g O) (h : ∀ v g', O v g' → fOp P ops W I early loud late pur j K (a.put oi.dst v) g') :
    fOp P ops W I early loud late pur j (fun a' g'' => ∃ O', Fam P ops W I early loud late pur i oi a' g'' O' ∧ ∀ v g', O' v g' → K (a'.put oi.dst v) g') a g := by
  obtain ⟨h1, h2, h3⟩ := Oper.apart_spec hap
  have keep : ∀ u, Fam P ops W I early loud late pur i oi (a.put oj.dst u) g O := fun u => hy.of_same (execOp_put oi hsi a oj.dst u h3) (wanted_put oi a oj.dst u h3)
  have hw0 : ∀ v, Region.wanted oj (yielded ops (a.put oi.dst v).tmps) = Region.wanted oj (yielded ops a.tmps) := fun v => wanted_put oj a oi.dst v h1
  have he0 : ∀ v, execOp (a.put oi.dst v).eval oj = execOp a.eval oj := fun v => execOp_put oj hsj a oi.dst v h1
  unfold fOp at *
  simp only [hj] at *
  -- one value, whatever has come of 'oi'
  have one : ∀ (u : Value), (∀ v g', O v g' → K ((a.put oi.dst v).put oj.dst u) g') →
      (∃ O', Fam P ops W I early loud late pur i oi (a.put oj.dst u) g O' ∧ ∀ v g', O' v g' → K ((a.put oj.dst u).put oi.dst v) g') := fun u hK =>
    ⟨O, keep u, fun v g' hv => by rw [← Act.put_comm a v u h2]; exact hK v g' hv⟩
  obtain ⟨v0, g0, hv0⟩ := hy.nonempty
  by_cases hw : Region.wanted oj (yielded ops a.tmps) = true
  · by_cases hpj : pur j = true
    · have hval : ∀ v g', O v g' → ∃ u, PQ P oj a u ∧ K ((a.put oi.dst v).put oj.dst u) g' := fun v g' hv => by
        obtain ⟨Oj, hOj, hK⟩ := h v g' hv
        unfold Fam at hOj
        rw [hw0, if_pos hw, if_pos hpj] at hOj
        obtain ⟨u, hu, rfl⟩ := hOj
        exact ⟨u, hu.of_same (he0 v).symm, hK _ _ ⟨rfl, rfl⟩⟩
      obtain ⟨u, hu, _⟩ := hval v0 g0 hv0
      refine ⟨fun v' g' => v' = u ∧ g' = g, ?_, ?_⟩
      · unfold Fam; rw [if_pos hw, if_pos hpj]; exact ⟨u, hu, rfl⟩
      · rintro u' g' ⟨rfl, rfl⟩
        exact one _ fun v g'' hv => by
          obtain ⟨u2, hu2, hK⟩ := hval v g'' hv
          rw [hu2.one hu] at hK
          exact hK
    by_cases hlj : loud j = true
    · -- the other one is loud: this one is not
      have hli : ¬ loud i = true := fun e => hl ⟨e, hlj⟩
      have hO : ∃ v, O = (fun v' g' => v' = v ∧ g' = g) ∧ ∀ (u : Value) (g' : G), (pur i = true ∨ early g') → Fam P ops W I early loud late pur i oi (a.put oj.dst u) g' (fun v' g'' => v' = v ∧ g'' = g') := by
        unfold Fam at hy
        by_cases hh : Region.wanted oi (yielded ops a.tmps) = true
        · rw [if_pos hh] at hy
          by_cases hp : pur i = true
          · rw [if_pos hp] at hy
            obtain ⟨v, hv, rfl⟩ := hy
            refine ⟨v, rfl, fun u g' _ => ?_⟩
            unfold Fam
            rw [wanted_put oi a oj.dst u h3, if_pos hh, if_pos hp]
            exact ⟨v, hv.of_same (execOp_put oi hsi a oj.dst u h3), rfl⟩
          · rw [if_neg hp, if_neg hli] at hy
            obtain ⟨_, v, hv, rfl⟩ := hy
            refine ⟨v, rfl, fun u g' hg' => ?_⟩
            unfold Fam
            rw [wanted_put oi a oj.dst u h3, if_pos hh, if_neg hp, if_neg hli]
            exact ⟨hg'.resolve_left hp, v, hv.of_same (execOp_put oi hsi a oj.dst u h3), rfl⟩
        · rw [if_neg hh] at hy
          refine ⟨undef, hy, fun u g' _ => ?_⟩
          unfold Fam
          rw [wanted_put oi a oj.dst u h3, if_neg hh]
      obtain ⟨v, rfl, hF⟩ := hO
      obtain ⟨Oj, hOj, hK⟩ := h v g ⟨rfl, rfl⟩
      unfold Fam at hOj
      rw [hw0, if_pos hw, if_neg hpj, if_pos hlj] at hOj
      refine ⟨Oj, ?_, fun u g' hu => ⟨_, hF u g' ?_, ?_⟩⟩
      · unfold Fam
        rw [if_pos hw, if_neg hpj, if_pos hlj]
        exact ⟨hOj.1, hOj.2.1.of_same (he0 v).symm, hOj.2.2⟩
      · rcases hlate with hlate | hlate
        · exact .inr (hOj.2.2 hlate u g' hu)
        · exact .inl hlate
      · rintro v' g'' ⟨rfl, rfl⟩
        rw [← Act.put_comm a v' u h2]
        exact hK u g'' hu
    · have hearly : early g := by
        have other : O v0 g → early g := fun hv => by
          obtain ⟨Oj, hOj, _⟩ := h v0 g hv
          unfold Fam at hOj
          rw [hw0, if_pos hw, if_neg hpj] at hOj
          exact hOj.1
        unfold Fam at hy
        by_cases hh : Region.wanted oi (yielded ops a.tmps) = true
        · rw [if_pos hh] at hy
          by_cases hp : pur i = true
          · rw [if_pos hp] at hy
            obtain ⟨v, _, rfl⟩ := hy
            exact other ⟨hv0.1, rfl⟩
          · rw [if_neg hp] at hy
            exact hy.1
        · rw [if_neg hh] at hy
          subst hy
          exact other ⟨hv0.1, rfl⟩
      have hval : ∀ v g', O v g' → ∃ u, SQ P W oj a u ∧ K ((a.put oi.dst v).put oj.dst u) g' := fun v g' hv => by
        obtain ⟨Oj, hOj, hK⟩ := h v g' hv
        unfold Fam at hOj
        rw [hw0, if_pos hw, if_neg hpj, if_neg hlj] at hOj
        obtain ⟨_, u, hu, rfl⟩ := hOj
        exact ⟨u, hu.of_same (he0 v).symm, hK _ _ ⟨rfl, rfl⟩⟩
      obtain ⟨u, hu, _⟩ := hval v0 g0 hv0
      refine ⟨fun v' g' => v' = u ∧ g' = g, ?_, ?_⟩
      · unfold Fam
        rw [if_pos hw, if_neg hpj, if_neg hlj]
        exact ⟨hearly, u, hu, rfl⟩
      · rintro u' g' ⟨rfl, rfl⟩
        exact one _ fun v g'' hv => by
          obtain ⟨u2, hu2, hK⟩ := hval v g'' hv
          rw [hu2.one hu] at hK
          exact hK
  · refine ⟨fun v' g' => v' = undef ∧ g' = g, ?_, ?_⟩
    · unfold Fam
      rw [if_neg hw]
    · rintro u' g' ⟨rfl, rfl⟩
      exact one _ fun v g'' hv => by
        obtain ⟨Oj, hOj, hK⟩ := h v g'' hv
        unfold Fam at hOj
        rw [hw0, if_neg hw] at hOj
        subst hOj
        exact hK _ _ ⟨rfl, rfl⟩

theorem fOp_of {i : Nat} {o : Oper} {a : Act} {g : G} {O : Value → G → Prop} {K : Act → G → Prop} (hi : ops[i]? = some o) (h : Fam P ops W I early loud late pur i o a g O) (hK : ∀ v g', O v g' → K (a.put o.dst v) g') : fOp P ops W I early loud late pur i K a g := by
  unfold fOp; simp only [hi]; exact ⟨O, h, hK⟩

/-- What is listed is closed: nothing has come up ahead of what it waits for. -/
def Region.Closed (md : Region.Mode) (ops : Array Oper) (listed : Array Bool) : Prop :=
  listed.size = ops.size ∧ ∀ j oj, ops[j]? = some oj → listed.getD j false = true → ∀ e ∈ oj.after, Region.binds md e = true → listed.getD e.on false = true
theorem Region.Closed.set {listed : Array Bool} {i : Nat} (h : Region.Closed md ops listed) (hi : i ∈ Region.ready md ops listed) : Region.Closed md ops (listed.setIfInBounds i true) := by
  obtain ⟨_, oi, hoi, hall⟩ := mem_ready.1 hi
  refine ⟨by simp [h.1], ?_⟩
  intro j oj hj hl e he hb
  by_cases hij : i = j
  · subst hij
    obtain rfl : oj = oi := Option.some.inj (hj.symm.trans hoi)
    exact getD_set_true (hall e he hb)
  · rw [getD_set_ne false hij] at hl
    exact getD_set_true (h.2 j oj hj hl e he hb)
theorem off_off {listed : Array Bool} {i : Nat} (h : listed.getD i true = false) : listed.getD i false = false := by
  rcases Nat.lt_or_ge i listed.size with h' | h'
  · simp [h'] at h ⊢; exact h
  · simp [Array.getElem?_eq_none h'] at h
/-- A late operation comes up last. -/
def Region.LateLast (md : Region.Mode) (ops : Array Oper) (late pur : Nat → Bool) : Prop :=
  ∀ listed, Region.Closed md ops listed → ∀ i, listed.getD i true = false → ∀ j ∈ Region.ready md ops listed, j ≠ i → late j = false ∨ pur i = true

theorem wpAnyF_first {Q : Act → G → Prop} {i : Nat} {oi : Oper} (hi : ops[i]? = some oi) (hsel : ∀ (j : Nat) (o : Oper) cs b, ops[j]? = some o → o.op ≠ .select cs b) (hlt : Region.LateLast md ops late pur) :
    ∀ (fuel : Nat) (listed : Array Bool) (a : Act) (g : G) (O : Value → G → Prop), Region.Closed md ops listed →
      (∀ j oj, ops[j]? = some oj → j ≠ i → listed.getD j true = false → (∀ e ∈ oj.after, Region.binds md e = true → e.on ≠ i) → oi.apart ops oj = true ∧ ¬ (loud i = true ∧ loud j = true)) →
      i ∈ Region.ready md ops listed → Fam P ops W I early loud late pur i oi a g O →
      (∀ v g', O v g' → wpAnyF P ops md W I early loud late pur Q fuel (listed.setIfInBounds i true) (a.put oi.dst v) g') → wpAnyF P ops md W I early loud late pur Q (fuel + 1) listed a g := by
  intro fuel
  induction fuel with
  | zero =>
    intro listed a g O _ _ hr hy H
    refine ⟨fun h => (by rw [h] at hr; cases hr), fun j hj => ?_⟩
    by_cases hji : j = i
    · subst hji; exact fOp_of hi hy H
    · have := ready_mono hj hji
      obtain ⟨v, g', hv⟩ := hy.nonempty
      rw [(H v g' hv).1] at this
      cases this
  | succ fuel ih =>
    intro listed a g O hcl hfree hr hy H
    refine ⟨fun h => (by rw [h] at hr; cases hr), fun j hj => ?_⟩
    by_cases hji : j = i
    · subst hji; exact fOp_of hi hy H
    · have h1 := fun v g' hv => (H v g' hv).2 j (ready_mono hj hji)
      obtain ⟨hjun, oj, hoj, hall⟩ := mem_ready.1 hj
      have hnot : ∀ e ∈ oj.after, Region.binds md e = true → e.on ≠ i := fun e he hb heq => by
        have h1 := hall e he hb
        have h0 := (mem_ready.1 hr).1
        rw [heq] at h1
        rcases Nat.lt_or_ge i listed.size with h' | h'
        · simp [h'] at h0 h1; rw [h0] at h1; cases h1
        · simp [Array.getElem?_eq_none h'] at h1
      obtain ⟨hap, hnl⟩ := hfree j oj hoj hji hjun hnot
      have h2 := fOp_put hoj hap (fun cs b => hsel i oi cs b hi) (fun cs b => hsel j oj cs b hoj) hnl (hlt listed hcl i (mem_ready.1 hr).1 j hj hji) hy h1
      have hfree' : ∀ k ok, ops[k]? = some ok → k ≠ i → (listed.setIfInBounds j true).getD k true = false →
          (∀ e ∈ ok.after, Region.binds md e = true → e.on ≠ i) → oi.apart ops ok = true ∧ ¬ (loud i = true ∧ loud k = true) := fun k ok hk hki hun hno => by
        refine hfree k ok hk hki ?_ hno
        by_cases hjk : j = k
        · subst hjk; exact hjun
        · rw [getD_set_ne true hjk] at hun; exact hun
      refine fOp_mono (fun a' g' ⟨O', h3, h4⟩ => ih (listed.setIfInBounds j true) a' g' O' (hcl.set hj) hfree' (ready_mono hr (Ne.symm hji)) h3 ?_) h2
      rw [Array.setIfInBounds_comm _ _ hji]
      exact h4

/-- Two loud ones: the later waits for the earlier. -/
def Region.loudFree (md : Region.Mode) (ops : Array Oper) (loud : Nat → Bool) (listed : Array Bool) (i : Nat) : Bool :=
  (List.range ops.size).all fun j => j == i || listed.getD j true || match ops[j]? with
      | some oj => oj.after.any (fun e => Region.binds md e && e.on == i) || !(loud i && loud j)
      | none => true
theorem Region.loudFree_spec {i : Nat} {listed : Array Bool} (h : Region.loudFree md ops loud listed i = true) (j : Nat) (oj : Oper)
    (hj : ops[j]? = some oj) (hne : j ≠ i) (hun : listed.getD j true = false) (hno : ∀ e ∈ oj.after, Region.binds md e = true → e.on ≠ i) : ¬ (loud i = true ∧ loud j = true) := by
  simp only [Region.loudFree, List.all_eq_true, List.mem_range] at h
  have h1 := h j (Array.getElem?_eq_some_iff.1 hj).1
  simp only [hj, Bool.or_eq_true, beq_iff_eq, hne, false_or, hun, Bool.false_eq_true] at h1
  rcases h1 with h1 | h1
  · obtain ⟨e, he, hb⟩ := Array.any_eq_true'.1 h1
    simp only [Bool.and_eq_true, beq_iff_eq] at hb
    exact absurd hb.2 (hno e he hb.1)
  · rintro ⟨a, b⟩; rw [a, b] at h1; simp at h1

def Region.lexFromL (md : Region.Mode) (ops : Array Oper) (loud : Nat → Bool) : Nat → Nat → Array Bool → Bool
  | 0, _, listed => (Region.ready md ops listed).isEmpty
  | fuel + 1, k, listed => (Region.ready md ops listed).contains k && Region.free md ops listed k && Region.loudFree md ops loud listed k && Region.lexFromL md ops loud fuel (k + 1) (listed.setIfInBounds k true)
def Region.lexBL (md : Region.Mode) (ops : Array Oper) (loud : Nat → Bool) : Bool := Region.noSelect ops && Region.lexFromL md ops loud ops.size 0 (Array.replicate ops.size false)

theorem wpAnyF_lex {Q : Act → G → Prop} (hs : Region.noSelect ops = true) (hlt : Region.LateLast md ops late pur) : ∀ (l : List Oper) (k : Nat) (listed : Array Bool) (a : Act) (g : G), Region.Closed md ops listed → (∀ j, l[j]? = ops[k + j]?) →
    Region.lexFromL md ops loud l.length k listed = true → lexW P ops W I early loud late pur Q l k a g → wpAnyF P ops md W I early loud late pur Q l.length listed a g
  | [], _, _, _, _, _, _, hB, h => ⟨by simpa [Region.lexFromL] using hB, h⟩
  | o :: l, k, listed, a, g, hcl, hl, hB, h => by
    have h0 : ops[k]? = some o := by simpa using (hl 0).symm
    simp only [List.length_cons, Region.lexFromL, Bool.and_eq_true] at hB
    obtain ⟨⟨⟨hr, hf⟩, hlf⟩, hB'⟩ := hB
    have hst : fOp P ops W I early loud late pur k (lexW P ops W I early loud late pur Q l (k + 1)) a g := h
    unfold fOp at hst
    simp only [h0] at hst
    obtain ⟨O, hO, hK⟩ := hst
    exact wpAnyF_first h0 (Region.noSelect_spec hs) hlt l.length listed a g O hcl (fun j oj hj hne hun hno => ⟨Region.free_spec h0 hf j oj hj hne hun hno, Region.loudFree_spec hlf j oj hj hne hun hno⟩) (by simpa using hr) hO
      (fun v g' hv => wpAnyF_lex hs hlt l (k + 1) _ _ g' (hcl.set (by simpa using hr)) (fun j => by have := hl (j + 1); simpa [Nat.add_assoc, Nat.add_comm 1 j] using this) hB' (hK v g' hv))

theorem closed_start : Region.Closed md ops (Array.replicate ops.size false) := ⟨by simp, fun j oj _ hl => by
  rcases Nat.lt_or_ge j ops.size with h | h <;> simp [h] at hl⟩
theorem late_none : Region.LateLast md ops (fun _ => false) pur := fun _ _ _ _ _ _ _ => .inl rfl
/-- Every one ahead of number n is waited for by a later one, up to n. -/
def Region.sinks (md : Region.Mode) (ops : Array Oper) (n : Nat) : Bool :=
  (List.range n).all fun i => (List.range (n + 1)).any fun j => decide (i < j) && match ops[j]? with
    | some oj => oj.after.any fun e => Region.binds md e && e.on == i
    | none => false
theorem late_of_sinks {n : Nat} (hs : Region.sinks md ops n = true) (hn : n < ops.size) : Region.LateLast md ops (fun i => i == n) (fun i => decide (n < i)) := by
  intro listed hcl
  have key : ∀ d i, n - i = d → i < n → listed.getD i true = false → n ∉ Region.ready md ops listed := by
    intro d
    induction d using Nat.strongRecOn with
    | _ d ih =>
      intro i hd hi hun hr
      have h1 := List.all_eq_true.1 hs i (List.mem_range.2 hi)
      obtain ⟨j, hj, hj2⟩ := List.any_eq_true.1 h1
      rw [Bool.and_eq_true, decide_eq_true_eq] at hj2
      obtain ⟨hij, hw⟩ := hj2
      cases hoj : ops[j]? with
      | none => rw [hoj] at hw; cases hw
      | some oj =>
        rw [hoj] at hw
        obtain ⟨e, he, hb⟩ := Array.any_eq_true'.1 hw
        simp only [Bool.and_eq_true, beq_iff_eq] at hb
        by_cases hjn : j = n
        · subst hjn
          obtain ⟨_, o2, ho2, hall⟩ := mem_ready.1 hr
          obtain rfl : oj = o2 := Option.some.inj (hoj.symm.trans ho2)
          have := hall e he hb.1
          rw [hb.2, off_off hun] at this
          cases this
        · have hjlt : j < n := by have := List.mem_range.1 hj; omega
          cases hl : listed.getD j false with
          | true =>
            have := hcl.2 j oj hoj hl e he hb.1
            rw [hb.2, off_off hun] at this
            cases this
          | false =>
            have hjs : j < listed.size := by rw [hcl.1]; omega
            exact ih (n - j) (by omega) j rfl hjlt (by simp [hjs] at hl ⊢; exact hl) hr
  intro i hun j hr hne
  by_cases hjn : j = n
  case neg => exact .inl (by simpa using hjn)
  subst hjn
  rcases Nat.lt_trichotomy i j with h | h | h
  · exact absurd hr (key _ i rfl h hun)
  · exact absurd h.symm hne
  · exact .inr (by simpa using h)

/-- A run of quiet operations, walked by the kit's own walk in the class above an arbitrary world. -/
theorem lexW_quiet {Q : Act → G → Prop} {R : Act → Prop} {rest : List Oper} {g : G} (hg : early g) : ∀ (l : List Oper) (k : Nat) (a : Act), (∀ j, j < l.length → l[j]? = ops[k + j]? ∧ loud (k + j) = false ∧ pur (k + j) = false) →
    (∀ a, R a → lexW P ops W I early loud late pur Q rest (k + l.length) a g) → (∀ w1, Ab W w1 → wpQuiet P ops (Cl w1) R l a) → lexW P ops W I early loud late pur Q (l ++ rest) k a g
  | [], k, a, _, hR, h => hR a (h W (Ab.refl W))
  | o :: l, k, a, hl, hR, h => by
    have h0 : ops[k]? = some o := by simpa using (hl 0 (by simp)).1.symm
    have hld : loud k = false := by simpa using (hl 0 (by simp)).2.1
    have hpu : pur k = false := by simpa using (hl 0 (by simp)).2.2
    have next : ∀ a', (∀ w1, Ab W w1 → wpQuiet P ops (Cl w1) R l a') → lexW P ops W I early loud late pur Q (l ++ rest) (k + 1) a' g := fun a' h' =>
      lexW_quiet hg l (k + 1) a' (fun j hj => by have := hl (j + 1) (by simp; omega); simpa [Nat.add_assoc, Nat.add_comm 1 j] using this)
        (fun a hRa => by have := hR a hRa; simpa [Nat.add_assoc, Nat.add_comm 1] using this) h'
    show fOp P ops W I early loud late pur k (lexW P ops W I early loud late pur Q (l ++ rest) (k + 1)) a g
    by_cases hw : Region.wanted o (yielded ops a.tmps) = true
    · have hq : ∀ w1, Ab W w1 → ∃ v, (∀ w, Cl w1 w → o.quietAt P a (Cl w1) w v) ∧ wpQuiet P ops (Cl w1) R l (a.put o.dst v) := fun w1 hw1 => by
        have := h w1 hw1
        simp only [wpQuiet] at this
        rw [if_pos hw] at this
        exact this
      obtain ⟨v, hv, _⟩ := hq W (Ab.refl W)
      have same : ∀ w1, Ab W w1 → ∀ v1, (∀ w, Cl w1 w → o.quietAt P a (Cl w1) w v1) → v1 = v := fun w1 hw1 v1 hv1 =>
        quietUpon_same (hv1 w1 (Ab.refl w1).cl) (hv w1 hw1.cl)
      have hSQ : SQ P W o a v := fun w1 hw1 => by
        obtain ⟨v1, hv1, _⟩ := hq w1 hw1
        have e := same w1 hw1 v1 hv1
        subst e
        exact quietUpon_class (fun _ h => Cl.ab h) (hv1 w1 (Ab.refl w1).cl)
      refine fOp_of h0 (O := fun v' g' => v' = v ∧ g' = g) ?_ ?_
      · unfold Fam; rw [if_pos hw, if_neg (by rw [hpu]; exact Bool.false_ne_true), if_neg (by rw [hld]; exact Bool.false_ne_true)]; exact ⟨hg, v, hSQ, rfl⟩
      · rintro v' g' ⟨rfl, rfl⟩
        refine next _ fun w1 hw1 => ?_
        obtain ⟨v1, hv1, hrest⟩ := hq w1 hw1
        rw [← same w1 hw1 v1 hv1]
        exact hrest
    · refine fOp_of h0 (O := fun v' g' => v' = undef ∧ g' = g) ?_ ?_
      · unfold Fam; rw [if_neg hw]
      · rintro v' g' ⟨rfl, rfl⟩
        refine next _ fun w1 hw1 => ?_
        have := h w1 hw1
        simp only [wpQuiet] at this
        rw [if_neg hw] at this
        exact this

/-! ### One new variable, one store into it -/
inductive Ph where | none | made (b : Nat) | full (b : Nat)
def PhI (W : World) (Z Z' : Obj) : Ph → World → Prop
  | .none, w => Ab W w
  | .made b, w => Ab W w ∧ W.heap.size ≤ b ∧ w.heap[b]? = some Z
  | .full b, w => Ab W w ∧ W.heap.size ≤ b ∧ w.heap[b]? = some Z'
theorem lt_of_block {w : World} {b : Nat} {o : Obj} (h : w.heap[b]? = some o) : b < w.heap.size := by
  rcases Nat.lt_or_ge b w.heap.size with h' | h'
  · exact h'
  · rw [Array.getElem?_eq_none h'] at h; cases h
theorem PhI.ab {W : World} {Z Z' : Obj} : ∀ (g : Ph) (w : World), True → PhI W Z Z' g w → Ab W w
  | .none, _, _, h => h
  | .made _, _, _, h => h.1
  | .full _, _, _, h => h.1
theorem PhI.on {W : World} {Z Z' : Obj} : ∀ (g : Ph) (w w' : World), True → PhI W Z Z' g w → Ab w w' → PhI W Z Z' g w'
  | .none, _, _, _, h, k => Ab.trans h k
  | .made _, _, _, _, h, k => ⟨h.1.trans k, h.2.1, by rw [k.block _ (lt_of_block h.2.2)]; exact h.2.2⟩
  | .full _, _, _, _, h, k => ⟨h.1.trans k, h.2.1, by rw [k.block _ (lt_of_block h.2.2)]; exact h.2.2⟩

/-- **One new variable (operation number iA), one store into it (number iS), all else quiet.** -/
theorem wp_region_float {P : Program} {id : Nat} {Q : Exit → Act → World → Prop} {a : Act} {w : World} {l1 l2 l3 : List Oper} {oA oS : Oper} (Z Z' : Obj)
    (hm : P.follows .mixedOrders = true)
    (hB : Region.lexBL .any (l1 ++ oA :: (l2 ++ oS :: l3)).toArray (fun i => i == l1.length || i == l1.length + 1 + l2.length) = true)
    (hgA : oA.guard = none) (hgS : oS.guard = none)
    (hA : ∀ (a : Act) (w' : World), (execOp a.eval oA).run P w' = .ok (.value (.pointer (some ⟨w'.heap.size, 0, none⟩))) (w'.alloc Z))
    (h : ∀ w1, Ab w w1 → wpQuiet P (l1 ++ oA :: (l2 ++ oS :: l3)).toArray (Cl w1) (fun a1 => ∀ b, w.heap.size ≤ b → ∀ w2, Ab w w2 → wpQuiet P (l1 ++ oA :: (l2 ++ oS :: l3)).toArray (Cl w2) (fun a2 =>
      (∀ w3, Ab w w3 → w3.heap[b]? = some Z → ∃ w4, (execOp a2.eval oS).run P w3 = .ok .skip w4 ∧ Ab w w4 ∧ w4.heap[b]? = some Z') ∧
      ∀ w5, Ab w w5 → wpQuiet P (l1 ++ oA :: (l2 ++ oS :: l3)).toArray (Cl w5) (fun a3 => ∀ w6, Ab w w6 → w6.heap[b]? = some Z' → Q .normal a3 w6) l3 (a2.put oS.dst undef)) l2 (a1.put oA.dst (.pointer (some ⟨b, 0, none⟩)))) l1 a) :
    (Code.region id (l1 ++ oA :: (l2 ++ oS :: l3)).toArray true).wp P Q a w := by
  obtain ⟨ops, hops⟩ : ∃ ops, ops = (l1 ++ oA :: (l2 ++ oS :: l3)).toArray := ⟨_, rfl⟩
  rw [← hops] at hB h ⊢
  have hget : ∀ j, (l1 ++ oA :: (l2 ++ oS :: l3))[j]? = ops[j]? := fun j => by rw [hops, List.getElem?_toArray]
  have hlen : ops.size = (l1 ++ oA :: (l2 ++ oS :: l3)).length := by rw [hops, List.size_toArray]
  simp only [Region.lexBL, Bool.and_eq_true] at hB
  have wantA : ∀ a : Act, Region.wanted oA (yielded ops a.tmps) = true := fun a => by simp [Region.wanted, hgA]
  have wantS : ∀ a : Act, Region.wanted oS (yielded ops a.tmps) = true := fun a => by simp [Region.wanted, hgS]
  have gA : ops[l1.length]? = some oA := by rw [← hget]; simp
  have gS : ops[l1.length + 1 + l2.length]? = some oS := by
    rw [← hget, List.getElem?_append_right (by omega)]
    have : l1.length + 1 + l2.length - l1.length = l2.length + 1 := by omega
    rw [this, List.getElem?_cons_succ, List.getElem?_append_right (by omega)]
    simp
  have g1 : ∀ j, j < l1.length → l1[j]? = ops[0 + j]? ∧ (fun i => i == l1.length || i == l1.length + 1 + l2.length) (0 + j) = false ∧ (fun _ => false) (0 + j) = false := fun j hj => by
    refine ⟨by rw [← hget, Nat.zero_add, List.getElem?_append_left hj], ?_, rfl⟩
    simp only [Bool.or_eq_false_iff, beq_eq_false_iff_ne]; omega
  have g2 : ∀ j, j < l2.length → l2[j]? = ops[l1.length + 1 + j]? ∧ (fun i => i == l1.length || i == l1.length + 1 + l2.length) (l1.length + 1 + j) = false ∧ (fun _ => false) (l1.length + 1 + j) = false := fun j hj => by
    refine ⟨?_, ?_, rfl⟩
    · rw [← hget, List.getElem?_append_right (by omega)]
      have : l1.length + 1 + j - l1.length = j + 1 := by omega
      rw [this, List.getElem?_cons_succ, List.getElem?_append_left hj]
    · simp only [Bool.or_eq_false_iff, beq_eq_false_iff_ne]; omega
  have g3 : ∀ j, j < l3.length → l3[j]? = ops[l1.length + 1 + l2.length + 1 + j]? ∧ (fun i => i == l1.length || i == l1.length + 1 + l2.length) (l1.length + 1 + l2.length + 1 + j) = false ∧ (fun _ => false) (l1.length + 1 + l2.length + 1 + j) = false := fun j hj => by
    refine ⟨?_, ?_, rfl⟩
    · rw [← hget, List.getElem?_append_right (by omega)]
      have : l1.length + 1 + l2.length + 1 + j - l1.length = (l2.length + (1 + j)) + 1 := by omega
      rw [this, List.getElem?_cons_succ, List.getElem?_append_right (by omega)]
      have : l2.length + (1 + j) - l2.length = j + 1 := by omega
      rw [this, List.getElem?_cons_succ]
    · simp only [Bool.or_eq_false_iff, beq_eq_false_iff_ne]; omega
  have base : Ab w { w with drawn := w.drawn + 1 } := ⟨rfl, rfl, rfl, Nat.le_refl _, fun _ _ => rfl⟩
  refine wp_region_any hm (wpAny_of_float (W := w) (I := PhI w Z Z') (early := fun _ => True) (loud := fun i => i == l1.length || i == l1.length + 1 + l2.length) (late := fun _ => false) (pur := fun _ => false)
    (Q := fun a' g => ∃ b, g = .full b ∧ ∀ w6, Ab w w6 → w6.heap[b]? = some Z' → Q .normal a' w6) PhI.ab PhI.on ?_ _ _ _ Ph.none _ base ?_)
  · rintro a' g w' hI ⟨b, rfl, hQ⟩
    exact hQ w' hI.1 hI.2.2
  · rw [hlen]
    refine wpAnyF_lex hB.1 late_none _ 0 _ _ _ (by rw [← hlen]; exact closed_start) (fun j => by rw [hget, Nat.zero_add]) (by rw [← hlen]; exact hB.2) ?_
    refine lexW_quiet trivial l1 0 a g1 (fun a1 h1 => ?_) h
    refine fOp_of (o := oA) (O := fun v g' => ∃ b, w.heap.size ≤ b ∧ v = .pointer (some ⟨b, 0, none⟩) ∧ g' = Ph.made b) (by rw [Nat.zero_add]; exact gA) ?_ ?_
    · unfold Fam
      rw [if_pos (wantA _), if_neg (by simp), if_pos (by simp)]
      refine ⟨trivial, ?_, fun _ _ _ _ => trivial⟩
      refine ⟨⟨_, _, w.heap.size, Nat.le_refl _, rfl, rfl⟩, fun w' hw' => ?_⟩
      rw [hA a1 w']
      refine ⟨_, ⟨w'.heap.size, Below.size hw', rfl, rfl⟩, ?_⟩
      refine ⟨Ab.trans hw' ⟨rfl, rfl, rfl, by show w'.heap.size ≤ (w'.heap.push Z).size; simp, fun k hk => Below.heap_alloc _ _ _ hk⟩, Below.size hw', ?_⟩
      show (w'.heap.push Z)[w'.heap.size]? = some Z
      simp
    · rintro v g' ⟨b, hb, rfl, rfl⟩
      rw [Nat.zero_add]
      refine lexW_quiet trivial l2 (l1.length + 1) _ g2 (fun a2 h2 => ?_) (h1 b hb)
      refine fOp_of (o := oS) (O := fun v g' => v = undef ∧ g' = Ph.full b) gS ?_ ?_
      · unfold Fam
        rw [if_pos (wantS _), if_neg (by simp), if_pos (by simp)]
        refine ⟨trivial, ?_, fun _ _ _ _ => trivial⟩
        refine ⟨⟨_, _, rfl, rfl⟩, fun w' hw' => ?_⟩
        obtain ⟨w4, hr, h4, h5⟩ := h2.1 w' hw'.1 hw'.2.2
        rw [hr]
        exact ⟨_, ⟨rfl, rfl⟩, h4, hb, h5⟩
      · rintro v g' ⟨rfl, rfl⟩
        have := lexW_quiet (P := P) (W := w) (I := PhI w Z Z') (early := fun _ => True) (loud := fun i => i == l1.length || i == l1.length + 1 + l2.length) (late := fun _ => false) (pur := fun _ => false) (Q := fun a' g => ∃ b, g = .full b ∧ ∀ w6, Ab w w6 → w6.heap[b]? = some Z' → Q .normal a' w6) (rest := []) (g := Ph.full b) trivial l3 (l1.length + 1 + l2.length + 1) _ g3 (fun a3 h3 => ⟨b, rfl, h3⟩) h2.2
        rwa [List.append_nil] at this

/-- The same, the region written out, its two loud operations told by their numbers: n, and m behind it. -/
theorem wp_region_at {P : Program} {id : Nat} {Q : Exit → Act → World → Prop} {a : Act} {w : World} {l : List Oper} {oA oS : Oper} (n m : Nat) (Z Z' : Obj)
    (hm : P.follows .mixedOrders = true)
    (hl : l.take n ++ oA :: ((l.drop (n + 1)).take m ++ oS :: l.drop (n + 1 + m + 1)) = l) (hn : (l.take n).length = n) (hm' : ((l.drop (n + 1)).take m).length = m)
    (hB : Region.lexBL .any l.toArray (fun i => i == n || i == n + 1 + m) = true)
    (hgA : oA.guard = none) (hgS : oS.guard = none)
    (hA : ∀ (a : Act) (w' : World), (execOp a.eval oA).run P w' = .ok (.value (.pointer (some ⟨w'.heap.size, 0, none⟩))) (w'.alloc Z))
    (h : ∀ w1, Ab w w1 → wpQuiet P l.toArray (fun w' => ∃ p : Regrown, w' = bw w1 p) (fun a1 => ∀ b, w.heap.size ≤ b → ∀ w2, Ab w w2 → wpQuiet P l.toArray (fun w' => ∃ p : Regrown, w' = bw w2 p) (fun a2 =>
      (∀ w3, Ab w w3 → w3.heap[b]? = some Z → ∃ w4, (execOp a2.eval oS).run P w3 = .ok .skip w4 ∧ Ab w w4 ∧ w4.heap[b]? = some Z') ∧
      ∀ w5, Ab w w5 → wpQuiet P l.toArray (fun w' => ∃ p : Regrown, w' = bw w5 p) (fun a3 => ∀ w6, Ab w w6 → w6.heap[b]? = some Z' → Q .normal a3 w6) (l.drop (n + 1 + m + 1)) (a2.put oS.dst undef)) ((l.drop (n + 1)).take m) (a1.put oA.dst (.pointer (some ⟨b, 0, none⟩)))) (l.take n) a) :
    (Code.region id l.toArray true).wp P Q a w := by
  have key := wp_region_float (id := id) (Q := Q) (a := a) (w := w) (l1 := l.take n) (l2 := (l.drop (n + 1)).take m) (l3 := l.drop (n + 1 + m + 1)) (oA := oA) (oS := oS) Z Z' hm
  rw [hl, hn, hm'] at key
  exact key hB hgA hgS hA h
end

/-! ### A last operation that waits for all others -/
section
/-- What 'move' and 'assign' give. -/
def pureVal (o : Oper) (a : Act) : Value := match o.op with
  | .move x => a.eval x
  | .assign x => a.eval x
  | _ => undef
def isPure (o : Oper) : Bool := o.guard.isNone && match o.op with
  | .move _ => true
  | .assign _ => true
  | _ => false
def pureRun : List Oper → Act → Act
  | [], a => a
  | o :: l, a => pureRun l (a.put o.dst (pureVal o a))
theorem pq_of_pure {P : Program} {o : Oper} {a : Act} (h : isPure o = true) : PQ P o a (pureVal o a) := by
  intro w
  unfold isPure at h
  rw [Bool.and_eq_true] at h
  have h2 := h.2
  unfold pureVal
  split at h2
  · rename_i x hx; exact BigFrame.run_move x hx w
  · rename_i x hx; exact BigFrame.run_assign x hx w
  · cases h2
theorem want_of_pure {ops : Array Oper} {o : Oper} {a : Act} (h : isPure o = true) : Region.wanted o (yielded ops a.tmps) = true := by
  unfold isPure at h
  rw [Bool.and_eq_true, Option.isNone_iff_eq_none] at h
  simp [Region.wanted, h.1]

theorem lexW_pure {P : Program} {ops : Array Oper} {W : World} {G : Type} {I : G → World → Prop} {early : G → Prop} {loud late pur : Nat → Bool} {Q : Act → G → Prop} {g : G} : ∀ (l : List Oper) (k : Nat) (a : Act), (∀ j, j < l.length → l[j]? = ops[k + j]? ∧ pur (k + j) = true) → l.all isPure = true →
    Q (pureRun l a) g → lexW P ops W I early loud late pur Q l k a g
  | [], _, _, _, _, h => h
  | o :: l, k, a, hl, hp, h => by
    have h0 : ops[k]? = some o := by simpa using (hl 0 (by simp)).1.symm
    have hpk : pur k = true := by simpa using (hl 0 (by simp)).2
    rw [List.all_cons, Bool.and_eq_true] at hp
    refine fOp_of h0 (O := fun v' g' => v' = pureVal o a ∧ g' = g) ?_ ?_
    · unfold Fam; rw [if_pos (want_of_pure hp.1), if_pos hpk]; exact ⟨_, pq_of_pure hp.1, rfl⟩
    · rintro v' g' ⟨rfl, rfl⟩
      exact lexW_pure l (k + 1) _ (fun j hj => by have := hl (j + 1) (by simp; omega); simpa [Nat.add_assoc, Nat.add_comm 1 j] using this) hp.2 h

/-- **All quiet, but number n, for which every one ahead of it is waited; behind it moves alone.** -/
theorem wp_region_store {P : Program} {id : Nat} {Q : Exit → Act → World → Prop} {a : Act} {w : World} {l : List Oper} {oS : Oper} (n : Nat)
    (hm : P.follows .mixedOrders = true) (hl : l.take n ++ oS :: l.drop (n + 1) = l) (hn : (l.take n).length = n) (hpu : (l.drop (n + 1)).all isPure = true)
    (hB : Region.lexBL .any l.toArray (fun i => i == n) = true) (hSk : Region.sinks .any l.toArray n = true) (hgS : oS.guard = none)
    (h : ∀ w1, Ab w w1 → wpQuiet P l.toArray (fun w' => ∃ p : Regrown, w' = bw w1 p) (fun a1 => ∀ w3, Ab w w3 → Yld P (fun v w4 => Q .normal (pureRun (l.drop (n + 1)) (a1.put oS.dst v)) w4) w3 ((execOp a1.eval oS).run P w3)) (l.take n) a) :
    (Code.region id l.toArray true).wp P Q a w := by
  obtain ⟨ops, hops⟩ : ∃ ops, ops = l.toArray := ⟨_, rfl⟩
  obtain ⟨l1, hl1⟩ : ∃ l1, l1 = l.take n := ⟨_, rfl⟩
  obtain ⟨l3, hl3⟩ : ∃ l3, l3 = l.drop (n + 1) := ⟨_, rfl⟩
  rw [← hops] at hB hSk h ⊢
  rw [← hl1, ← hl3] at hl h
  rw [← hl1] at hn
  rw [← hl3] at hpu
  have hget : ∀ j, l[j]? = ops[j]? := fun j => by rw [hops, List.getElem?_toArray]
  have hlen : ops.size = (l1 ++ oS :: l3).length := by rw [hops, List.size_toArray, hl]
  simp only [Region.lexBL, Bool.and_eq_true] at hB
  have wantS : ∀ a : Act, Region.wanted oS (yielded ops a.tmps) = true := fun a => by simp [Region.wanted, hgS]
  have gS : ops[n]? = some oS := by rw [← hget, ← hl, ← hn]; simp
  have g1 : ∀ j, j < l1.length → l1[j]? = ops[0 + j]? ∧ (fun i => i == n) (0 + j) = false ∧ (fun i => decide (n < i)) (0 + j) = false := fun j hj => by
    refine ⟨by rw [← hget, Nat.zero_add, ← hl, List.getElem?_append_left hj], ?_, ?_⟩
    · simp only [beq_eq_false_iff_ne]; omega
    · simp only [decide_eq_false_iff_not]; omega
  have g3 : ∀ j, j < l3.length → l3[j]? = ops[n + 1 + j]? ∧ (fun i => decide (n < i)) (n + 1 + j) = true := fun j hj => by
    refine ⟨?_, by simp only [decide_eq_true_eq]; omega⟩
    rw [← hget, ← hl, List.getElem?_append_right (by omega)]
    have : n + 1 + j - l1.length = j + 1 := by omega
    rw [this, List.getElem?_cons_succ]
  have base : Ab w { w with drawn := w.drawn + 1 } := ⟨rfl, rfl, rfl, Nat.le_refl _, fun _ _ => rfl⟩
  refine wp_region_any hm (wpAny_of_float (G := Option (World → Prop)) (W := w) (I := fun g w' => match g with | none => Ab w w' | some R => R w') (early := fun g => g = none) (loud := fun i => i == n) (late := fun i => i == n) (pur := fun i => decide (n < i))
    (Q := fun a' g => ∃ R, g = some R ∧ ∀ w', R w' → Q .normal a' w') ?_ ?_ ?_ _ _ _ none _ base ?_)
  · rintro g w' rfl h; exact h
  · rintro g w' w'' rfl h k; exact Ab.trans h k
  · rintro a' g w' hI ⟨R, rfl, hQ⟩; exact hQ w' hI
  · rw [hlen]
    refine wpAnyF_lex hB.1 (late_of_sinks hSk (by rw [hlen]; simp [hn])) (l1 ++ oS :: l3) 0 _ _ _ (by rw [← hlen]; exact closed_start) (fun j => by rw [hl, hget, Nat.zero_add]) (by rw [← hlen]; exact hB.2) ?_
    refine lexW_quiet (loud := fun i => i == n) (early := fun g => g = none) (pur := fun i => decide (n < i)) rfl l1 0 a g1 (fun a1 h1 => ?_) h
    rw [Nat.zero_add, hn]
    refine fOp_of (o := oS) (O := fun v g' => g' = some (fun w' => Q .normal (pureRun l3 (a1.put oS.dst v)) w')) gS ?_ ?_
    · unfold Fam
      rw [if_pos (wantS _), if_neg (by simp), if_pos (by simp)]
      refine ⟨rfl, ⟨⟨undef, _, rfl⟩, fun w' hw' => ?_⟩, fun hlate => absurd hlate (by simp)⟩
      exact Yld.mono (fun v w4 hQ => ⟨_, rfl, hQ⟩) (h1 w' hw')
    · rintro v g' rfl
      exact lexW_pure l3 (n + 1) _ g3 hpu ⟨_, rfl, fun w' h' => h'⟩

/-- The same with nothing behind it. -/
theorem wp_region_last {P : Program} {id : Nat} {Q : Exit → Act → World → Prop} {a : Act} {w : World} {l : List Oper} {oS : Oper} (n : Nat)
    (hm : P.follows .mixedOrders = true) (hl : l.take n ++ [oS] = l) (hn : (l.take n).length = n)
    (hB : Region.lexBL .any l.toArray (fun i => i == n) = true) (hSk : Region.sinks .any l.toArray n = true) (hgS : oS.guard = none)
    (h : ∀ w1, Ab w w1 → wpQuiet P l.toArray (fun w' => ∃ p : Regrown, w' = bw w1 p) (fun a1 => ∀ w3, Ab w w3 → Yld P (fun v w4 => Q .normal (a1.put oS.dst v) w4) w3 ((execOp a1.eval oS).run P w3)) (l.take n) a) :
    (Code.region id l.toArray true).wp P Q a w := by
  have hd : l.drop (n + 1) = [] := by
    have := congrArg List.length hl
    rw [List.length_append, hn] at this
    exact List.drop_eq_nil_of_le (by simp at this; omega)
  refine wp_region_store n hm (by rw [hd]; exact hl) hn (by rw [hd]; rfl) hB hSk hgS ?_
  rw [hd]
  exact h
end

/-! ### A block as a whole -/
theorem cell_of_block {w : World} {b : Nat} {C : Array Value} {t : TypeId} (h : w.heap[b]? = some (.cells C t (0, 0))) (j : Nat) : w.cell? ⟨b, j, none⟩ = C[j]? := by simp [World.cell?, h]
theorem free_of_block {w : World} {b : Nat} {C : Array Value} {t : TypeId} (h : w.heap[b]? = some (.cells C t (0, 0))) (j : Nat) : w.frozen? ⟨b, j, none⟩ = false := by simp [World.frozen?, h]
theorem block_setCell {w : World} {b j : Nat} {C : Array Value} {t : TypeId} {r : Nat × Nat} (v : Value) (h : w.heap[b]? = some (.cells C t r)) : (w.setCell ⟨b, j, none⟩ v).heap[b]? = some (.cells (C.setIfInBounds j v) t r) := by
  have hlt := lt_of_block h
  have h' : w.heap[b] = .cells C t r := by simpa [Array.getElem?_eq_getElem hlt] using h
  show (w.heap.modify b _)[b]? = _
  rw [Array.getElem?_eq_getElem (by simpa using hlt), Array.getElem_modify_self, h']
  rfl
theorem Ab.setCell {w w1 : World} {b j : Nat} (v : Value) (h : Ab w w1) (hb : w.heap.size ≤ b) : Ab w (w1.setCell ⟨b, j, none⟩ v) := Below.setCell h hb v
/-- A block of the run's own in a world above. -/
theorem Ab.block {w w' : World} {b : Nat} {o : Obj} (h : Ab w w') (hb : w.heap[b]? = some o) : w'.heap[b]? = some o := (Below.block h b (lt_of_block hb)).trans hb
theorem block_alloc (w : World) (o : Obj) : (w.alloc o).heap[w.heap.size]? = some o := by show (w.heap.push o)[w.heap.size]? = some o; simp
theorem block_alloc2 (w : World) (o p : Obj) : ((w.alloc o).alloc p).heap[w.heap.size]? = some o ∧ ((w.alloc o).alloc p).heap[w.heap.size + 1]? = some p := by
  show ((w.heap.push o).push p)[w.heap.size]? = some o ∧ ((w.heap.push o).push p)[w.heap.size + 1]? = some p
  exact ⟨by rw [Array.getElem?_push, if_neg (by simp)]; simp, by rw [Array.getElem?_push, if_pos (by simp)]⟩
end Go.Proofs.YtppjmngnjdeigaaDoor
