/- Regions with a store at their end, in a round of a range over a function (XFloat.t's laws inside the fence of a round). -/
import Derived.Test.YtppjmngnjdeigaaDoorFloat
import Derived.OrdersIn
import Derived.RangeFuncCalls
import Derived.TacticsIn
namespace Go.Proofs.YtppjmngnjdeigaaDoor
open Go.ChangeShapes Go.WideShapes Go.ChangeAt Go.RowKit
open Go

section
variable {P : Program} {ops : Array Oper} {md : Region.Mode} {W : World} {G : Type} {I : G → World → Prop} {early : G → Prop} {loud late pur : Nat → Bool}

theorem wpAnyIn_of_float (L : Nat) (hdf : ∀ (j : Nat) o c, ops[j]? = some o → o.op ≠ .defer c) {Q : Act → G → Prop} {Q' : Exit → Act → World → Prop} (hI1 : ∀ g w, early g → I g w → Ab W w) (hI2 : ∀ g w w', early g → I g w → Ab w w' → I g w') (hQ : ∀ a g w, I g w → Q a g → Q' .normal a w) :
    ∀ (fuel : Nat) (listed : Array Bool) (a : Act) (g : G) (w : World), I g w → wpAnyF P ops md W I early loud late pur Q fuel listed a g → wpAnyIn (Fence.wide.inRound L) 0 P md ops Q' fuel listed a w
  | 0, _, _, _, _, hw, h => ⟨h.1, hQ _ _ _ hw h.2⟩
  | fuel + 1, listed, a, g, w, hw, h => by
    refine ⟨fun h0 => hQ _ _ _ hw (h.1 h0), fun i hi => ?_⟩
    have hh := h.2 i hi
    have go := fun a g w => wpAnyIn_of_float L hdf hI1 hI2 hQ fuel (listed.setIfInBounds i true) a g w
    unfold fOp at hh
    unfold wpOpIn
    split
    · rename_i ho; simp only [ho] at hh; exact go _ _ _ hw hh
    · rename_i o ho
      simp only [ho] at hh
      obtain ⟨O, h1, h2⟩ := hh
      unfold Fam at h1
      split
      · rename_i hwn
        rw [if_pos hwn] at h1
        unfold Oper.wpIn
        refine ⟨fun _ _ => trivial, ?_⟩
        rw [Oper.semAt_eq _ _ _ (fun c => hdf i o c ho)]
        by_cases hp : pur i = true
        · rw [if_pos hp] at h1
          obtain ⟨v, hv, rfl⟩ := h1
          rw [hv w]
          exact go _ _ _ hw (h2 _ _ ⟨rfl, rfl⟩)
        rw [if_neg hp] at h1
        obtain ⟨hearly, h1⟩ := h1
        split at h1
        · have h3 := h1.1.run w hw
          generalize (execOp a.eval o).run P w = r at h3
          cases r with
          | ok n w' =>
            cases n <;> simp only [Yld] at h3 <;> simp only [Oper.uponIn]
            case value u => obtain ⟨g', hO, hIw⟩ := h3; exact go _ _ _ hIw (h2 _ _ hO)
            case skip => obtain ⟨g', hO, hIw⟩ := h3; exact go _ _ _ hIw (h2 _ _ hO)
            case enter f args =>
              obtain ⟨e1, hc⟩ := h3
              rw [e1]
              refine ⟨(fun hx => by cases hx), (CallsIn.inRound L (callsIn_wide.2 hc)).mono fun e w'' ⟨v, he, g', hO, hIw⟩ => ?_⟩
              subst he
              exact go _ _ _ hIw (h2 _ _ hO)
          | halt x w' => simp only [Yld] at h3
        · obtain ⟨v, hv, rfl⟩ := h1
          have h3 := hv w (hI1 _ _ hearly hw)
          generalize (execOp a.eval o).run P w = r at h3
          cases r with
          | ok n w' =>
            cases n <;> simp only [Oper.quietUpon] at h3 <;> simp only [Oper.uponIn]
            case value u => obtain ⟨e1, e2⟩ := h3; rw [e1, e2]; exact go _ _ _ hw (h2 _ _ ⟨rfl, rfl⟩)
            case skip => obtain ⟨e1, e2⟩ := h3; rw [e1, ← e2]; exact go _ _ _ hw (h2 _ _ ⟨rfl, rfl⟩)
            case enter f args =>
              obtain ⟨e1, hc⟩ := h3
              rw [e1]
              refine ⟨(fun hx => by cases hx), (CallsIn.inRound L (callsIn_wide.2 hc)).mono fun e w'' ⟨he, hw''⟩ => ?_⟩
              subst he
              exact go _ _ _ (hI2 _ _ _ hearly hw hw'') (h2 _ _ ⟨rfl, rfl⟩)
          | halt x w' => simp only [Oper.quietUpon] at h3
      · rename_i hwn
        rw [if_neg hwn] at h1
        subst h1
        exact ⟨fun _ _ => trivial, go _ _ _ hw (h2 _ _ ⟨rfl, rfl⟩)⟩
end
def noDefer (ops : Array Oper) : Bool := ops.all fun o => match o.op with | .defer _ => false | _ => true
theorem noDefer_spec {ops : Array Oper} (h : noDefer ops = true) (j : Nat) (o : Oper) (c : Call) (ho : ops[j]? = some o) : o.op ≠ .defer c := by
  intro hc
  unfold noDefer at h
  obtain ⟨hj, e⟩ := Array.getElem?_eq_some_iff.1 ho
  have := Array.all_eq_true.1 h j hj
  rw [e, hc] at this
  cases this
theorem wpR_region_store {P : Program} {id : Nat} {Q : Exit → Act → World → Prop} {a : Act} {w : World} {l : List Oper} {oS : Oper} (n : Nat) (L : Nat)
    (hdf : noDefer l.toArray = true) (hm : P.follows .mixedOrders = true) (hl : l.take n ++ oS :: l.drop (n + 1) = l) (hn : (l.take n).length = n) (hpu : (l.drop (n + 1)).all isPure = true)
    (hB : Region.lexBL .any l.toArray (fun i => i == n) = true) (hSk : Region.sinks .any l.toArray n = true) (hgS : oS.guard = none)
    (h : ∀ w1, Ab w w1 → wpQuiet P l.toArray (fun w' => ∃ p : Regrown, w' = bw w1 p) (fun a1 => ∀ w3, Ab w w3 → Yld P (fun v w4 => Q .normal (pureRun (l.drop (n + 1)) (a1.put oS.dst v)) w4) w3 ((execOp a1.eval oS).run P w3)) (l.take n) a) :
    (Code.region id l.toArray true).wpIn (Fence.wide.inRound L) 0 P Q a w := by
  obtain ⟨ops, hops⟩ : ∃ ops, ops = l.toArray := ⟨_, rfl⟩
  obtain ⟨l1, hl1⟩ : ∃ l1, l1 = l.take n := ⟨_, rfl⟩
  obtain ⟨l3, hl3⟩ : ∃ l3, l3 = l.drop (n + 1) := ⟨_, rfl⟩
  rw [← hops] at hB hSk h hdf ⊢
  rw [← hl1, ← hl3] at hl h
  rw [← hl1] at hn
  rw [← hl3] at hpu
  have hget : ∀ j, l[j]? = ops[j]? := fun j => by rw [hops, List.getElem?_toArray]
  have hlen : ops.size = (l1 ++ oS :: l3).length := by rw [hops, List.size_toArray, hl]
  simp only [Region.lexBL, Bool.and_eq_true] at hB
  have wantS : ∀ a : Act, Region.wanted oS (yielded ops a.tmps) = true := fun a => by simp [Region.wanted, hgS]
  have gS : ops[n]? = some oS := by rw [← hget, ← hl, ← hn]; simp
  have g1 : ∀ j, j < l1.length → l1[j]? = ops[0 + j]? ∧ (fun i => i == n) (0 + j) = false ∧ (fun i => decide (n < i)) (0 + j) = false := fun j hj => by
    refine ⟨by rw [← hget, Nat.zero_add, ← hl, List.getElem?_append_left hj], ?_, ?_⟩
    · simp only [beq_eq_false_iff_ne]; omega
    · simp only [decide_eq_false_iff_not]; omega
  have g3 : ∀ j, j < l3.length → l3[j]? = ops[n + 1 + j]? ∧ (fun i => decide (n < i)) (n + 1 + j) = true := fun j hj => by
    refine ⟨?_, by simp only [decide_eq_true_eq]; omega⟩
    rw [← hget, ← hl, List.getElem?_append_right (by omega)]
    have : n + 1 + j - l1.length = j + 1 := by omega
    rw [this, List.getElem?_cons_succ]
  have base : Ab w { w with drawn := w.drawn + 1 } := ⟨rfl, rfl, rfl, Nat.le_refl _, fun _ _ => rfl⟩
  refine wpIn_region_any hm (wpAnyIn_of_float L (noDefer_spec hdf) (G := Option (World → Prop)) (W := w) (I := fun g w' => match g with | none => Ab w w' | some R => R w') (early := fun g => g = none) (loud := fun i => i == n) (late := fun i => i == n) (pur := fun i => decide (n < i))
    (Q := fun a' g => ∃ R, g = some R ∧ ∀ w', R w' → Q .normal a' w') ?_ ?_ ?_ _ _ _ none _ base ?_)
  · rintro g w' rfl h; exact h
  · rintro g w' w'' rfl h k; exact Ab.trans h k
  · rintro a' g w' hI ⟨R, rfl, hQ⟩; exact hQ w' hI
  · rw [hlen]
    refine wpAnyF_lex hB.1 (late_of_sinks hSk (by rw [hlen]; simp [hn])) (l1 ++ oS :: l3) 0 _ _ _ (by rw [← hlen]; exact closed_start) (fun j => by rw [hl, hget, Nat.zero_add]) (by rw [← hlen]; exact hB.2) ?_
    refine lexW_quiet (loud := fun i => i == n) (early := fun g => g = none) (pur := fun i => decide (n < i)) rfl l1 0 a g1 (fun a1 h1 => ?_) h
    rw [Nat.zero_add, hn]
    refine fOp_of (o := oS) (O := fun v g' => g' = some (fun w' => Q .normal (pureRun l3 (a1.put oS.dst v)) w')) gS ?_ ?_
    · unfold Fam
      rw [if_pos (wantS _), if_neg (by simp), if_pos (by simp)]
      refine ⟨rfl, ⟨⟨undef, _, rfl⟩, fun w' hw' => ?_⟩, fun hlate => absurd hlate (by simp)⟩
      exact Yld.mono (fun v w4 hQ => ⟨_, rfl, hQ⟩) (h1 w' hw')
    · rintro v g' rfl
      exact lexW_pure l3 (n + 1) _ g3 hpu ⟨_, rfl, fun w' h' => h'⟩

/-- The same with nothing behind it. -/
theorem wpR_region_last {P : Program} {id : Nat} {Q : Exit → Act → World → Prop} {a : Act} {w : World} {l : List Oper} {oS : Oper} (n : Nat) (L : Nat)
    (hdf : noDefer l.toArray = true) (hm : P.follows .mixedOrders = true) (hl : l.take n ++ [oS] = l) (hn : (l.take n).length = n)
    (hB : Region.lexBL .any l.toArray (fun i => i == n) = true) (hSk : Region.sinks .any l.toArray n = true) (hgS : oS.guard = none)
    (h : ∀ w1, Ab w w1 → wpQuiet P l.toArray (fun w' => ∃ p : Regrown, w' = bw w1 p) (fun a1 => ∀ w3, Ab w w3 → Yld P (fun v w4 => Q .normal (a1.put oS.dst v) w4) w3 ((execOp a1.eval oS).run P w3)) (l.take n) a) :
    (Code.region id l.toArray true).wpIn (Fence.wide.inRound L) 0 P Q a w := by
  have hd : l.drop (n + 1) = [] := by
    have := congrArg List.length hl
    rw [List.length_append, hn] at this
    exact List.drop_eq_nil_of_le (by simp at this; omega)
  refine wpR_region_store n L hdf hm (by rw [hd]; exact hl) hn (by rw [hd]; rfl) hB hSk hgS ?_
  rw [hd]
  exact h
end Go.Proofs.YtppjmngnjdeigaaDoor

namespace Go.Proofs.YtppjmngnjdeigaaDoor.FS
open Go.ChangeShapes Go.WideShapes Go.ChangeAt Go.RowKit
open Go

section
variable (P : Program) (ops : Array Oper) (md : Region.Mode) (W : World) {G : Type} (I : G → World → Prop) (early : G → Prop) (loud late pur : Nat → Bool)

/-- What may come of one operation: values, and what is then kept. -/
def Fam (i : Nat) (o : Oper) (a : Act) (g : G) (O : Value → G → Prop) : Prop :=
  if Region.wanted o (yielded ops a.tmps) then (if pur i then ∃ v, PQ P o a v ∧ O = fun v' g' => v' = v ∧ g' = g else (loud i = false ∨ late i = false → early g) ∧ (if loud i then Loud P I o a g O ∧ (late i = false → ∀ v g', O v g' → early g') else ∃ v, SQ P W o a v ∧ O = fun v' g' => v' = v ∧ g' = g))
  else O = fun v' g' => v' = undef ∧ g' = g

def fOp (i : Nat) (K : Act → G → Prop) (a : Act) (g : G) : Prop :=
  match ops[i]? with
  | none => K a g
  | some o => ∃ O, Fam P ops W I early loud late pur i o a g O ∧ ∀ v g', O v g' → K (a.put o.dst v) g'

def wpAnyF (Q : Act → G → Prop) : Nat → Array Bool → Act → G → Prop
  | 0, listed, a, g => Region.ready md ops listed = [] ∧ Q a g
  | fuel + 1, listed, a, g =>
    (Region.ready md ops listed = [] → Q a g) ∧
    ∀ i ∈ Region.ready md ops listed, fOp P ops W I early loud late pur i (wpAnyF Q fuel (listed.setIfInBounds i true)) a g

/-- The order of the text, from number k on. -/
def lexW (Q : Act → G → Prop) : List Oper → Nat → Act → G → Prop
  | [], _, a, g => Q a g
  | _ :: l, k, a, g => fOp P ops W I early loud late pur k (lexW Q l (k + 1)) a g
end
section
variable {P : Program} {ops : Array Oper} {md : Region.Mode} {W : World} {G : Type} {I : G → World → Prop} {early : G → Prop} {loud late pur : Nat → Bool}

theorem fOp_mono {i : Nat} {a : Act} {g : G} {K K' : Act → G → Prop} (h : ∀ a g, K a g → K' a g) (hh : fOp P ops W I early loud late pur i K a g) : fOp P ops W I early loud late pur i K' a g := by
  unfold fOp at *
  split
  · rename_i ho; simp only [ho] at hh; exact h _ _ hh
  · rename_i o ho
    simp only [ho] at hh
    obtain ⟨O, h1, h2⟩ := hh
    exact ⟨O, h1, fun v g' hv => h _ _ (h2 v g' hv)⟩

theorem Fam.nonempty {i : Nat} {o : Oper} {a : Act} {g : G} {O : Value → G → Prop} (h : Fam P ops W I early loud late pur i o a g O) : ∃ v g', O v g' := by
  unfold Fam at h
  split at h
  · split at h
    · obtain ⟨v, _, rfl⟩ := h; exact ⟨v, g, rfl, rfl⟩
    · obtain ⟨_, h⟩ := h
      split at h
      · exact h.1.some
      · obtain ⟨v, _, rfl⟩ := h; exact ⟨v, g, rfl, rfl⟩
  · subst h; exact ⟨_, g, rfl, rfl⟩

theorem Fam.of_same {i : Nat} {o : Oper} {a a' : Act} {g : G} {O : Value → G → Prop} (h : Fam P ops W I early loud late pur i o a g O) (he : execOp a'.eval o = execOp a.eval o)
    (hw : Region.wanted o (yielded ops a'.tmps) = Region.wanted o (yielded ops a.tmps)) : Fam P ops W I early loud late pur i o a' g O := by
  unfold Fam at *
  rw [hw]
  split
  · rename_i hh
    rw [if_pos hh] at h
    by_cases hp : pur i = true
    · rw [if_pos hp] at h ⊢
      obtain ⟨v, h1, h2⟩ := h
      exact ⟨v, h1.of_same he, h2⟩
    · rw [if_neg hp] at h ⊢
      refine ⟨h.1, ?_⟩
      by_cases hl : loud i = true
      · rw [if_pos hl] at h ⊢; exact ⟨h.2.1.of_same he, h.2.2⟩
      · rw [if_neg hl] at h ⊢; obtain ⟨_, v, h1, h2⟩ := h; exact ⟨v, h1.of_same he, h2⟩
  · rename_i hh; rw [if_neg hh] at h; exact h

/-- Operation 'oj' apart from 'oi', not both loud: 'oi' may be taken first. -/
theorem fOp_put {i j : Nat} {oi oj : Oper} {O : Value → G → Prop} (hj : ops[j]? = some oj) (hap : oi.apart ops oj = true)
    (hsi : ∀ cs b, oi.op ≠ .select cs b) (hsj : ∀ cs b, oj.op ≠ .select cs b) (hl : ¬ (loud i = true ∧ loud j = true)) (hlate : late j = false ∨ pur i = true) (hlate2 : late i = false ∨ pur j = true) {K : Act → G → Prop} {a : Act} {g : G}
    (hy : Fam P ops W I early loud late pur i oi a g O) (h : ∀ v g', O v g' → fOp P ops W I early loud late pur j K (a.put oi.dst v) g') :
    fOp P ops W I early loud late pur j (fun a' g'' => ∃ O', Fam P ops W I early loud late pur i oi a' g'' O' ∧ ∀ v g', O' v g' → K (a'.put oi.dst v) g') a g := by
  obtain ⟨h1, h2, h3⟩ := Oper.apart_spec hap
  have keep : ∀ u, Fam P ops W I early loud late pur i oi (a.put oj.dst u) g O := fun u => hy.of_same (execOp_put oi hsi a oj.dst u h3) (wanted_put oi a oj.dst u h3)
  have hw0 : ∀ v, Region.wanted oj (yielded ops (a.put oi.dst v).tmps) = Region.wanted oj (yielded ops a.tmps) := fun v => wanted_put oj a oi.dst v h1
  have he0 : ∀ v, execOp (a.put oi.dst v).eval oj = execOp a.eval oj := fun v => execOp_put oj hsj a oi.dst v h1
  unfold fOp at *
  simp only [hj] at *
  -- one value, whatever has come of 'oi'
  have one : ∀ (u : Value), (∀ v g', O v g' → K ((a.put oi.dst v).put oj.dst u) g') →
      (∃ O', Fam P ops W I early loud late pur i oi (a.put oj.dst u) g O' ∧ ∀ v g', O' v g' → K ((a.put oj.dst u).put oi.dst v) g') := fun u hK =>
    ⟨O, keep u, fun v g' hv => by rw [← Act.put_comm a v u h2]; exact hK v g' hv⟩
  obtain ⟨v0, g0, hv0⟩ := hy.nonempty
  by_cases hw : Region.wanted oj (yielded ops a.tmps) = true
  · by_cases hpj : pur j = true
    · have hval : ∀ v g', O v g' → ∃ u, PQ P oj a u ∧ K ((a.put oi.dst v).put oj.dst u) g' := fun v g' hv => by
        obtain ⟨Oj, hOj, hK⟩ := h v g' hv
        unfold Fam at hOj
        rw [hw0, if_pos hw, if_pos hpj] at hOj
        obtain ⟨u, hu, rfl⟩ := hOj
        exact ⟨u, hu.of_same (he0 v).symm, hK _ _ ⟨rfl, rfl⟩⟩
      obtain ⟨u, hu, _⟩ := hval v0 g0 hv0
      refine ⟨fun v' g' => v' = u ∧ g' = g, ?_, ?_⟩
      · unfold Fam; rw [if_pos hw, if_pos hpj]; exact ⟨u, hu, rfl⟩
      · rintro u' g' ⟨rfl, rfl⟩
        exact one _ fun v g'' hv => by
          obtain ⟨u2, hu2, hK⟩ := hval v g'' hv
          rw [hu2.one hu] at hK
          exact hK
    by_cases hlj : loud j = true
    · -- the other one is loud: this one is not
      have hli : ¬ loud i = true := fun e => hl ⟨e, hlj⟩
      have hO : ∃ v, O = (fun v' g' => v' = v ∧ g' = g) ∧ ∀ (u : Value) (g' : G), (pur i = true ∨ early g') → Fam P ops W I early loud late pur i oi (a.put oj.dst u) g' (fun v' g'' => v' = v ∧ g'' = g') := by
        unfold Fam at hy
        by_cases hh : Region.wanted oi (yielded ops a.tmps) = true
        · rw [if_pos hh] at hy
          by_cases hp : pur i = true
          · rw [if_pos hp] at hy
            obtain ⟨v, hv, rfl⟩ := hy
            refine ⟨v, rfl, fun u g' _ => ?_⟩
            unfold Fam
            rw [wanted_put oi a oj.dst u h3, if_pos hh, if_pos hp]
            exact ⟨v, hv.of_same (execOp_put oi hsi a oj.dst u h3), rfl⟩
          · rw [if_neg hp, if_neg hli] at hy
            obtain ⟨_, v, hv, rfl⟩ := hy
            refine ⟨v, rfl, fun u g' hg' => ?_⟩
            unfold Fam
            rw [wanted_put oi a oj.dst u h3, if_pos hh, if_neg hp, if_neg hli]
            exact ⟨fun _ => hg'.resolve_left hp, v, hv.of_same (execOp_put oi hsi a oj.dst u h3), rfl⟩
        · rw [if_neg hh] at hy
          refine ⟨undef, hy, fun u g' _ => ?_⟩
          unfold Fam
          rw [wanted_put oi a oj.dst u h3, if_neg hh]
      obtain ⟨v, rfl, hF⟩ := hO
      obtain ⟨Oj, hOj, hK⟩ := h v g ⟨rfl, rfl⟩
      unfold Fam at hOj
      rw [hw0, if_pos hw, if_neg hpj, if_pos hlj] at hOj
      refine ⟨Oj, ?_, fun u g' hu => ⟨_, hF u g' ?_, ?_⟩⟩
      · unfold Fam
        rw [if_pos hw, if_neg hpj, if_pos hlj]
        exact ⟨hOj.1, hOj.2.1.of_same (he0 v).symm, hOj.2.2⟩
      · rcases hlate with hlate | hlate
        · exact .inr (hOj.2.2 hlate u g' hu)
        · exact .inl hlate
      · rintro v' g'' ⟨rfl, rfl⟩
        rw [← Act.put_comm a v' u h2]
        exact hK u g'' hu
    · have hearly : early g := by
        have other : O v0 g → early g := fun hv => by
          obtain ⟨Oj, hOj, _⟩ := h v0 g hv
          unfold Fam at hOj
          rw [hw0, if_pos hw, if_neg hpj] at hOj
          exact hOj.1 (.inl (by simpa using hlj))
        unfold Fam at hy
        by_cases hh : Region.wanted oi (yielded ops a.tmps) = true
        · rw [if_pos hh] at hy
          by_cases hp : pur i = true
          · rw [if_pos hp] at hy
            obtain ⟨v, _, rfl⟩ := hy
            exact other ⟨hv0.1, rfl⟩
          · rw [if_neg hp] at hy
            exact hy.1 (.inr (hlate2.resolve_right hpj))
        · rw [if_neg hh] at hy
          subst hy
          exact other ⟨hv0.1, rfl⟩
      have hval : ∀ v g', O v g' → ∃ u, SQ P W oj a u ∧ K ((a.put oi.dst v).put oj.dst u) g' := fun v g' hv => by
        obtain ⟨Oj, hOj, hK⟩ := h v g' hv
        unfold Fam at hOj
        rw [hw0, if_pos hw, if_neg hpj, if_neg hlj] at hOj
        obtain ⟨_, u, hu, rfl⟩ := hOj
        exact ⟨u, hu.of_same (he0 v).symm, hK _ _ ⟨rfl, rfl⟩⟩
      obtain ⟨u, hu, _⟩ := hval v0 g0 hv0
      refine ⟨fun v' g' => v' = u ∧ g' = g, ?_, ?_⟩
      · unfold Fam
        rw [if_pos hw, if_neg hpj, if_neg hlj]
        exact ⟨fun _ => hearly, u, hu, rfl⟩
      · rintro u' g' ⟨rfl, rfl⟩
        exact one _ fun v g'' hv => by
          obtain ⟨u2, hu2, hK⟩ := hval v g'' hv
          rw [hu2.one hu] at hK
          exact hK
  · refine ⟨fun v' g' => v' = undef ∧ g' = g, ?_, ?_⟩
    · unfold Fam
      rw [if_neg hw]
    · rintro u' g' ⟨rfl, rfl⟩
      exact one _ fun v g'' hv => by
        obtain ⟨Oj, hOj, hK⟩ := h v g'' hv
        unfold Fam at hOj
        rw [hw0, if_neg hw] at hOj
        subst hOj
        exact hK _ _ ⟨rfl, rfl⟩

theorem fOp_of {i : Nat} {o : Oper} {a : Act} {g : G} {O : Value → G → Prop} {K : Act → G → Prop} (hi : ops[i]? = some o) (h : Fam P ops W I early loud late pur i o a g O) (hK : ∀ v g', O v g' → K (a.put o.dst v) g') : fOp P ops W I early loud late pur i K a g := by
  unfold fOp; simp only [hi]; exact ⟨O, h, hK⟩

/-- A late operation comes up when nothing else does. -/
def LateB (md : Region.Mode) (ops : Array Oper) (late pur : Nat → Bool) : Prop :=
  ∀ listed, Region.Closed md ops listed → ∀ i ∈ Region.ready md ops listed, ∀ j ∈ Region.ready md ops listed, j ≠ i → late j = false ∨ pur i = true
theorem wpAnyF_firstB {Q : Act → G → Prop} {i : Nat} {oi : Oper} (hi : ops[i]? = some oi) (hsel : ∀ (j : Nat) (o : Oper) cs b, ops[j]? = some o → o.op ≠ .select cs b) (hlt : LateB md ops late pur) :
    ∀ (fuel : Nat) (listed : Array Bool) (a : Act) (g : G) (O : Value → G → Prop), Region.Closed md ops listed →
      (∀ j oj, ops[j]? = some oj → j ≠ i → listed.getD j true = false → (∀ e ∈ oj.after, Region.binds md e = true → e.on ≠ i) → oi.apart ops oj = true ∧ ¬ (loud i = true ∧ loud j = true)) →
      i ∈ Region.ready md ops listed → Fam P ops W I early loud late pur i oi a g O →
      (∀ v g', O v g' → wpAnyF P ops md W I early loud late pur Q fuel (listed.setIfInBounds i true) (a.put oi.dst v) g') → wpAnyF P ops md W I early loud late pur Q (fuel + 1) listed a g := by
  intro fuel
  induction fuel with
  | zero =>
    intro listed a g O _ _ hr hy H
    refine ⟨fun h => (by rw [h] at hr; cases hr), fun j hj => ?_⟩
    by_cases hji : j = i
    · subst hji; exact fOp_of hi hy H
    · have := ready_mono hj hji
      obtain ⟨v, g', hv⟩ := hy.nonempty
      rw [(H v g' hv).1] at this
      cases this
  | succ fuel ih =>
    intro listed a g O hcl hfree hr hy H
    refine ⟨fun h => (by rw [h] at hr; cases hr), fun j hj => ?_⟩
    by_cases hji : j = i
    · subst hji; exact fOp_of hi hy H
    · have h1 := fun v g' hv => (H v g' hv).2 j (ready_mono hj hji)
      obtain ⟨hjun, oj, hoj, hall⟩ := mem_ready.1 hj
      have hnot : ∀ e ∈ oj.after, Region.binds md e = true → e.on ≠ i := fun e he hb heq => by
        have h1 := hall e he hb
        have h0 := (mem_ready.1 hr).1
        rw [heq] at h1
        rcases Nat.lt_or_ge i listed.size with h' | h'
        · simp [h'] at h0 h1; rw [h0] at h1; cases h1
        · simp [Array.getElem?_eq_none h'] at h1
      obtain ⟨hap, hnl⟩ := hfree j oj hoj hji hjun hnot
      have h2 := fOp_put hoj hap (fun cs b => hsel i oi cs b hi) (fun cs b => hsel j oj cs b hoj) hnl (hlt listed hcl i hr j hj hji) (hlt listed hcl j hj i hr (Ne.symm hji)) hy h1
      have hfree' : ∀ k ok, ops[k]? = some ok → k ≠ i → (listed.setIfInBounds j true).getD k true = false →
          (∀ e ∈ ok.after, Region.binds md e = true → e.on ≠ i) → oi.apart ops ok = true ∧ ¬ (loud i = true ∧ loud k = true) := fun k ok hk hki hun hno => by
        refine hfree k ok hk hki ?_ hno
        by_cases hjk : j = k
        · subst hjk; exact hjun
        · rw [getD_set_ne true hjk] at hun; exact hun
      refine fOp_mono (fun a' g' ⟨O', h3, h4⟩ => ih (listed.setIfInBounds j true) a' g' O' (hcl.set hj) hfree' (ready_mono hr (Ne.symm hji)) h3 ?_) h2
      rw [Array.setIfInBounds_comm _ _ hji]
      exact h4

theorem wpAnyF_lexB {Q : Act → G → Prop} (hs : Region.noSelect ops = true) (hlt : LateB md ops late pur) : ∀ (l : List Oper) (k : Nat) (listed : Array Bool) (a : Act) (g : G), Region.Closed md ops listed → (∀ j, l[j]? = ops[k + j]?) →
    Region.lexFromL md ops loud l.length k listed = true → lexW P ops W I early loud late pur Q l k a g → wpAnyF P ops md W I early loud late pur Q l.length listed a g
  | [], _, _, _, _, _, _, hB, h => ⟨by simpa [Region.lexFromL] using hB, h⟩
  | o :: l, k, listed, a, g, hcl, hl, hB, h => by
    have h0 : ops[k]? = some o := by simpa using (hl 0).symm
    simp only [List.length_cons, Region.lexFromL, Bool.and_eq_true] at hB
    obtain ⟨⟨⟨hr, hf⟩, hlf⟩, hB'⟩ := hB
    have hst : fOp P ops W I early loud late pur k (lexW P ops W I early loud late pur Q l (k + 1)) a g := h
    unfold fOp at hst
    simp only [h0] at hst
    obtain ⟨O, hO, hK⟩ := hst
    exact wpAnyF_firstB h0 (Region.noSelect_spec hs) hlt l.length listed a g O hcl (fun j oj hj hne hun hno => ⟨Region.free_spec h0 hf j oj hj hne hun hno, Region.loudFree_spec hlf j oj hj hne hun hno⟩) (by simpa using hr) hO
      (fun v g' hv => wpAnyF_lexB hs hlt l (k + 1) _ _ g' (hcl.set (by simpa using hr)) (fun j => by have := hl (j + 1); simpa [Nat.add_assoc, Nat.add_comm 1 j] using this) hB' (hK v g' hv))

theorem lateB_of {n : Nat} (h1 : Region.sinks md ops (n + 1) = true) (h2 : Region.sinks md ops (n + 2) = true) (hn : ops.size = n + 3) : LateB md ops (fun i => decide (n + 1 ≤ i)) (fun _ => false) := by
  intro listed hcl i hi j hj hne
  refine .inl ?_
  rw [decide_eq_false_iff_not]
  intro hl
  have sz : ∀ k, k ∈ Region.ready md ops listed → k < n + 3 := fun k hk => by
    obtain ⟨_, o, ho, _⟩ := mem_ready.1 hk
    rw [← hn]
    exact (Array.getElem?_eq_some_iff.1 ho).1
  have sj := sz j hj
  have si := sz i hi
  rcases (show j = n + 1 ∨ j = n + 2 by omega) with rfl | rfl
  · rcases late_of_sinks h1 (by omega) listed hcl i (mem_ready.1 hi).1 _ hj hne with h | h
    · simp at h
    · have hin : i = n + 2 := by rw [decide_eq_true_eq] at h; omega
      subst hin
      rcases late_of_sinks h2 (by omega) listed hcl (n + 1) (mem_ready.1 hj).1 _ hi (by omega) with h | h
      · simp at h
      · rw [decide_eq_true_eq] at h; omega
  · rcases late_of_sinks h2 (by omega) listed hcl i (mem_ready.1 hi).1 _ hj hne with h | h
    · simp at h
    · rw [decide_eq_true_eq] at h; omega

/-- A run of quiet operations, walked by the kit's own walk in the class above an arbitrary world. -/
theorem lexW_quiet {Q : Act → G → Prop} {R : Act → Prop} {rest : List Oper} {g : G} (hg : early g) : ∀ (l : List Oper) (k : Nat) (a : Act), (∀ j, j < l.length → l[j]? = ops[k + j]? ∧ loud (k + j) = false ∧ pur (k + j) = false) →
    (∀ a, R a → lexW P ops W I early loud late pur Q rest (k + l.length) a g) → (∀ w1, Ab W w1 → wpQuiet P ops (Cl w1) R l a) → lexW P ops W I early loud late pur Q (l ++ rest) k a g
  | [], k, a, _, hR, h => hR a (h W (Ab.refl W))
  | o :: l, k, a, hl, hR, h => by
    have h0 : ops[k]? = some o := by simpa using (hl 0 (by simp)).1.symm
    have hld : loud k = false := by simpa using (hl 0 (by simp)).2.1
    have hpu : pur k = false := by simpa using (hl 0 (by simp)).2.2
    have next : ∀ a', (∀ w1, Ab W w1 → wpQuiet P ops (Cl w1) R l a') → lexW P ops W I early loud late pur Q (l ++ rest) (k + 1) a' g := fun a' h' =>
      lexW_quiet hg l (k + 1) a' (fun j hj => by have := hl (j + 1) (by simp; omega); simpa [Nat.add_assoc, Nat.add_comm 1 j] using this)
        (fun a hRa => by have := hR a hRa; simpa [Nat.add_assoc, Nat.add_comm 1] using this) h'
    show fOp P ops W I early loud late pur k (lexW P ops W I early loud late pur Q (l ++ rest) (k + 1)) a g
    by_cases hw : Region.wanted o (yielded ops a.tmps) = true
    · have hq : ∀ w1, Ab W w1 → ∃ v, (∀ w, Cl w1 w → o.quietAt P a (Cl w1) w v) ∧ wpQuiet P ops (Cl w1) R l (a.put o.dst v) := fun w1 hw1 => by
        have := h w1 hw1
        simp only [wpQuiet] at this
        rw [if_pos hw] at this
        exact this
      obtain ⟨v, hv, _⟩ := hq W (Ab.refl W)
      have same : ∀ w1, Ab W w1 → ∀ v1, (∀ w, Cl w1 w → o.quietAt P a (Cl w1) w v1) → v1 = v := fun w1 hw1 v1 hv1 =>
        quietUpon_same (hv1 w1 (Ab.refl w1).cl) (hv w1 hw1.cl)
      have hSQ : SQ P W o a v := fun w1 hw1 => by
        obtain ⟨v1, hv1, _⟩ := hq w1 hw1
        have e := same w1 hw1 v1 hv1
        subst e
        exact quietUpon_class (fun _ h => Cl.ab h) (hv1 w1 (Ab.refl w1).cl)
      refine fOp_of h0 (O := fun v' g' => v' = v ∧ g' = g) ?_ ?_
      · unfold Fam; rw [if_pos hw, if_neg (by rw [hpu]; exact Bool.false_ne_true), if_neg (by rw [hld]; exact Bool.false_ne_true)]; exact ⟨fun _ => hg, v, hSQ, rfl⟩
      · rintro v' g' ⟨rfl, rfl⟩
        refine next _ fun w1 hw1 => ?_
        obtain ⟨v1, hv1, hrest⟩ := hq w1 hw1
        rw [← same w1 hw1 v1 hv1]
        exact hrest
    · refine fOp_of h0 (O := fun v' g' => v' = undef ∧ g' = g) ?_ ?_
      · unfold Fam; rw [if_neg hw]
      · rintro v' g' ⟨rfl, rfl⟩
        refine next _ fun w1 hw1 => ?_
        have := h w1 hw1
        simp only [wpQuiet] at this
        rw [if_neg hw] at this
        exact this

theorem wpAnyIn_of_float (L : Nat) (hdf : ∀ (j : Nat) o c, ops[j]? = some o → o.op ≠ .defer c) {Q : Act → G → Prop} {Q' : Exit → Act → World → Prop} (hI1 : ∀ g w, early g → I g w → Ab W w) (hI2 : ∀ g w w', early g → I g w → Ab w w' → I g w') (hQ : ∀ a g w, I g w → Q a g → Q' .normal a w) :
    ∀ (fuel : Nat) (listed : Array Bool) (a : Act) (g : G) (w : World), I g w → wpAnyF P ops md W I early loud late pur Q fuel listed a g → wpAnyIn (Fence.wide.inRound L) 0 P md ops Q' fuel listed a w
  | 0, _, _, _, _, hw, h => ⟨h.1, hQ _ _ _ hw h.2⟩
  | fuel + 1, listed, a, g, w, hw, h => by
    refine ⟨fun h0 => hQ _ _ _ hw (h.1 h0), fun i hi => ?_⟩
    have hh := h.2 i hi
    have go := fun a g w => wpAnyIn_of_float L hdf hI1 hI2 hQ fuel (listed.setIfInBounds i true) a g w
    unfold fOp at hh
    unfold wpOpIn
    split
    · rename_i ho; simp only [ho] at hh; exact go _ _ _ hw hh
    · rename_i o ho
      simp only [ho] at hh
      obtain ⟨O, h1, h2⟩ := hh
      unfold Fam at h1
      split
      · rename_i hwn
        rw [if_pos hwn] at h1
        unfold Oper.wpIn
        refine ⟨fun _ _ => trivial, ?_⟩
        rw [Oper.semAt_eq _ _ _ (fun c => hdf i o c ho)]
        by_cases hp : pur i = true
        · rw [if_pos hp] at h1
          obtain ⟨v, hv, rfl⟩ := h1
          rw [hv w]
          exact go _ _ _ hw (h2 _ _ ⟨rfl, rfl⟩)
        rw [if_neg hp] at h1
        obtain ⟨hearly, h1⟩ := h1
        split at h1
        · have h3 := h1.1.run w hw
          generalize (execOp a.eval o).run P w = r at h3
          cases r with
          | ok n w' =>
            cases n <;> simp only [Yld] at h3 <;> simp only [Oper.uponIn]
            case value u => obtain ⟨g', hO, hIw⟩ := h3; exact go _ _ _ hIw (h2 _ _ hO)
            case skip => obtain ⟨g', hO, hIw⟩ := h3; exact go _ _ _ hIw (h2 _ _ hO)
            case enter f args =>
              obtain ⟨e1, hc⟩ := h3
              rw [e1]
              refine ⟨(fun hx => by cases hx), (CallsIn.inRound L (callsIn_wide.2 hc)).mono fun e w'' ⟨v, he, g', hO, hIw⟩ => ?_⟩
              subst he
              exact go _ _ _ hIw (h2 _ _ hO)
          | halt x w' => simp only [Yld] at h3
        · rename_i hnl
          have hearly := hearly (.inl (by simpa using hnl))
          obtain ⟨v, hv, rfl⟩ := h1
          have h3 := hv w (hI1 _ _ hearly hw)
          generalize (execOp a.eval o).run P w = r at h3
          cases r with
          | ok n w' =>
            cases n <;> simp only [Oper.quietUpon] at h3 <;> simp only [Oper.uponIn]
            case value u => obtain ⟨e1, e2⟩ := h3; rw [e1, e2]; exact go _ _ _ hw (h2 _ _ ⟨rfl, rfl⟩)
            case skip => obtain ⟨e1, e2⟩ := h3; rw [e1, ← e2]; exact go _ _ _ hw (h2 _ _ ⟨rfl, rfl⟩)
            case enter f args =>
              obtain ⟨e1, hc⟩ := h3
              rw [e1]
              refine ⟨(fun hx => by cases hx), (CallsIn.inRound L (callsIn_wide.2 hc)).mono fun e w'' ⟨he, hw''⟩ => ?_⟩
              subst he
              exact go _ _ _ (hI2 _ _ _ hearly hw hw'') (h2 _ _ ⟨rfl, rfl⟩)
          | halt x w' => simp only [Oper.quietUpon] at h3
      · rename_i hwn
        rw [if_neg hwn] at h1
        subst h1
        exact ⟨fun _ _ => trivial, go _ _ _ hw (h2 _ _ ⟨rfl, rfl⟩)⟩
end
inductive PhR where | none | made (b : Nat) | run (R : World → Prop)
def PhRI (W : World) (Z : Obj) : PhR → World → Prop
  | .none, w => Ab W w
  | .made b, w => Ab W w ∧ W.heap.size ≤ b ∧ w.heap[b]? = some Z
  | .run R, w => R w
def PhRE : PhR → Prop
  | .run _ => False
  | _ => True
theorem PhRI.ab {W : World} {Z : Obj} : ∀ (g : PhR) (w : World), PhRE g → PhRI W Z g w → Ab W w
  | .none, _, _, h => h
  | .made _, _, _, h => h.1
theorem PhRI.on {W : World} {Z : Obj} : ∀ (g : PhR) (w w' : World), PhRE g → PhRI W Z g w → Ab w w' → PhRI W Z g w'
  | .none, _, _, _, h, k => Ab.trans h k
  | .made _, _, _, _, h, k => ⟨h.1.trans k, h.2.1, by rw [Below.block k _ (lt_of_block h.2.2)]; exact h.2.2⟩

theorem wpR_region_maw {P : Program} {id : Nat} {Q : Exit → Act → World → Prop} {a : Act} {w : World} {l : List Oper} {oA oP oS : Oper} (n : Nat) (L : Nat) (Z : Obj) (vA : Nat → Value)
    (hdf : noDefer l.toArray = true) (hm : P.follows .mixedOrders = true) (hl : l.take n ++ [oA, oP, oS] = l) (hn : (l.take n).length = n)
    (hB : Region.lexBL .any l.toArray (fun i => decide (n ≤ i)) = true) (hS1 : Region.sinks .any l.toArray (n + 1) = true) (hS2 : Region.sinks .any l.toArray (n + 2) = true) (hgA : oA.guard = none) (hgP : oP.guard = none) (hgS : oS.guard = none)
    (h : ∀ w1, Ab w w1 → wpQuiet P l.toArray (fun w' => ∃ p : Regrown, w' = bw w1 p) (fun a1 =>
      (∀ w', Ab w w' → (execOp a1.eval oA).run P w' = .ok (.value (vA w'.heap.size)) (w'.alloc Z)) ∧
      ∀ b, w.heap.size ≤ b → ∀ w3, Ab w w3 → w3.heap[b]? = some Z → Yld P (fun v w4 => Yld P (fun v2 w5 => Q .normal (((a1.put oA.dst (vA b)).put oP.dst v).put oS.dst v2) w5) w4 ((execOp ((a1.put oA.dst (vA b)).put oP.dst v).eval oS).run P w4)) w3 ((execOp (a1.put oA.dst (vA b)).eval oP).run P w3)) (l.take n) a) :
    (Code.region id l.toArray true).wpIn (Fence.wide.inRound L) 0 P Q a w := by
  obtain ⟨ops, hops⟩ : ∃ ops, ops = l.toArray := ⟨_, rfl⟩
  obtain ⟨l1, hl1⟩ : ∃ l1, l1 = l.take n := ⟨_, rfl⟩
  rw [← hops] at hB hS1 hS2 h hdf ⊢
  rw [← hl1] at hl h
  rw [← hl1] at hn
  have hget : ∀ j, l[j]? = ops[j]? := fun j => by rw [hops, List.getElem?_toArray]
  have hlen : ops.size = (l1 ++ [oA, oP, oS]).length := by rw [hops, List.size_toArray, hl]
  have hlen3 : ops.size = n + 3 := by rw [hlen]; simp [hn]
  simp only [Region.lexBL, Bool.and_eq_true] at hB
  have wantA : ∀ a : Act, Region.wanted oA (yielded ops a.tmps) = true := fun a => by simp [Region.wanted, hgA]
  have wantP : ∀ a : Act, Region.wanted oP (yielded ops a.tmps) = true := fun a => by simp [Region.wanted, hgP]
  have wantS : ∀ a : Act, Region.wanted oS (yielded ops a.tmps) = true := fun a => by simp [Region.wanted, hgS]
  have gA : ops[n]? = some oA := by rw [← hget, ← hl, ← hn]; simp
  have gP : ops[n + 1]? = some oP := by rw [← hget, ← hl, ← hn, List.getElem?_append_right (by omega)]; simp
  have gS : ops[n + 2]? = some oS := by rw [← hget, ← hl, ← hn, List.getElem?_append_right (by omega)]; simp
  have g1 : ∀ j, j < l1.length → l1[j]? = ops[0 + j]? ∧ (fun i => decide (n ≤ i)) (0 + j) = false ∧ (fun _ => false) (0 + j) = false := fun j hj => by
    refine ⟨by rw [← hget, Nat.zero_add, ← hl, List.getElem?_append_left hj], ?_, rfl⟩
    simp only [decide_eq_false_iff_not]; omega
  have base : Ab w { w with drawn := w.drawn + 1 } := ⟨rfl, rfl, rfl, Nat.le_refl _, fun _ _ => rfl⟩
  refine wpIn_region_any hm (wpAnyIn_of_float L (noDefer_spec hdf) (G := PhR) (W := w) (I := PhRI w Z) (early := PhRE) (loud := fun i => decide (n ≤ i)) (late := fun i => decide (n + 1 ≤ i)) (pur := fun _ => false)
    (Q := fun a' g => ∃ R, g = .run R ∧ ∀ w', R w' → Q .normal a' w') PhRI.ab PhRI.on ?_ _ _ _ PhR.none _ base ?_)
  · rintro a' g w' hI ⟨R, rfl, hQ⟩; exact hQ w' hI
  · rw [hlen]
    refine wpAnyF_lexB hB.1 (lateB_of hS1 hS2 hlen3) (l1 ++ [oA, oP, oS]) 0 _ _ _ (by rw [← hlen]; exact closed_start) (fun j => by rw [hl, hget, Nat.zero_add]) (by rw [← hlen]; exact hB.2) ?_
    refine lexW_quiet (loud := fun i => decide (n ≤ i)) (early := PhRE) (pur := fun _ => false) (show PhRE PhR.none from trivial) l1 0 a g1 (fun a1 h1 => ?_) h
    rw [Nat.zero_add, hn]
    refine fOp_of (o := oA) (O := fun v g' => ∃ b, w.heap.size ≤ b ∧ v = vA b ∧ g' = PhR.made b) gA ?_ ?_
    · unfold Fam
      rw [if_pos (wantA _), if_neg (by simp), if_pos (by simp)]
      refine ⟨fun _ => trivial, ⟨⟨_, _, w.heap.size, Nat.le_refl _, rfl, rfl⟩, fun w' hw' => ?_⟩, ?_⟩
      · rw [h1.1 w' hw']
        refine ⟨_, ⟨w'.heap.size, Below.size hw', rfl, rfl⟩, ?_⟩
        refine ⟨Ab.trans hw' ⟨rfl, rfl, rfl, by show w'.heap.size ≤ (w'.heap.push Z).size; simp, fun k hk => Below.heap_alloc _ _ _ hk⟩, Below.size hw', ?_⟩
        show (w'.heap.push Z)[w'.heap.size]? = some Z
        simp
      · rintro _ v g' ⟨b, _, _, rfl⟩; trivial
    · rintro v g' ⟨b, hb, rfl, rfl⟩
      refine fOp_of (o := oP) (O := fun v g' => g' = PhR.run (fun w4 => Yld P (fun v2 w5 => Q .normal (((a1.put oA.dst (vA b)).put oP.dst v).put oS.dst v2) w5) w4 ((execOp ((a1.put oA.dst (vA b)).put oP.dst v).eval oS).run P w4))) gP ?_ ?_
      · unfold Fam
        rw [if_pos (wantP _), if_neg (by simp), if_pos (by simp)]
        refine ⟨fun _ => trivial, ⟨⟨undef, _, rfl⟩, fun w' hw' => ?_⟩, fun hlate => absurd hlate (by simp)⟩
        exact Yld.mono (fun v w4 hQ => ⟨_, rfl, hQ⟩) (h1.2 b hb w' hw'.1 hw'.2.2)
      · rintro v g' rfl
        refine fOp_of (o := oS) (O := fun v2 g' => g' = PhR.run (fun w' => Q .normal (((a1.put oA.dst (vA b)).put oP.dst v).put oS.dst v2) w')) gS ?_ ?_
        · unfold Fam
          rw [if_pos (wantS _), if_neg (by simp), if_pos (by rw [decide_eq_true_eq]; omega)]
          refine ⟨fun h => (by simp only [decide_eq_false_iff_not] at h; omega), ⟨⟨undef, _, rfl⟩, fun w' hw' => ?_⟩, fun hlate => absurd hlate (by simp)⟩
          exact Yld.mono (fun v w4 hQ => ⟨_, rfl, hQ⟩) hw'
        · rintro v2 g' rfl
          exact ⟨_, rfl, fun w' h' => h'⟩
end Go.Proofs.YtppjmngnjdeigaaDoor.FS
