/- A range over a function whose iterator writes into a box of its own between two rounds: a law of the walk (no program). -/
import Derived.Test.YtppjmngnjdeigaaDoorBase
import Derived.RangeFuncNested
import Derived.RangeFuncCalls
import Derived.RangeFuncBound
import Derived.RangeFuncLeaves
import Derived.OwnWalkIn
import Derived.TacticsInMore
import Derived.LoopNIn
import Derived.LoopIn
namespace Go.Proofs.YtppjmngnjdeigaaDoor
open Go.ChangeShapes Go.WideShapes Go.ChangeAt Go.RowKit

/-- An iterator's word: between two rounds it takes steps of the kind St alone; a round keeps what Kp says. -/
def SeqBy {α : Type} (P : Program) (gf : Nat) (lb : Array Value) (encs : α → Array Value) (Kp St : World → World → Prop) (S Sp : List α → Prop) (Ask : List α → α → Prop) (Bd : List α → Prop) (w : World) : Prop :=
  ∀ (l : Nat) (J Jx : List α → World → Prop) (W : World), Below w.heap.size w W → (∀ s A B, J s A → St A B → J s B) → (∀ s A B, Jx s A → St A B → Jx s B) → (∀ s A, J s A → Bd s) →
    (∀ pre x W1, J pre W1 → Ask pre x → YieldAt Fence.wide 0 P l (encs x) W1 fun e W2 =>
      (e = .returned (.bool true) ∧ J (pre ++ [x]) W2 ∧ Kp W1 W2) ∨ (e = .returned (.bool false) ∧ Jx (pre ++ [x]) W2)) →
    J [] W →
    CallsIn Fence.wide 0 P gf (#[.func (.yield l) #[] #[]] ++ lb) W fun e W2 => (∃ v, e = .returned v) ∧ ((∃ xs, S xs ∧ J xs W2) ∨ (∃ pre, Sp pre ∧ Jx pre W2))

/-- The loop's own two blocks lie as they lay. -/
def Kept (D : Nat) (A B : World) : Prop := B.heap[D]? = A.heap[D]? ∧ B.heap[D + 1]? = A.heap[D + 1]?
theorem Kept.refl (D : Nat) (A : World) : Kept D A A := ⟨rfl, rfl⟩
theorem Kept.trans {D : Nat} {A B C : World} (h : Kept D A B) (k : Kept D B C) : Kept D A C := ⟨k.1.trans h.1, k.2.trans h.2⟩
theorem Kept.of {D : Nat} {A B : World} (h : Below A.heap.size A B) (hd : D + 1 < A.heap.size) : Kept D A B := ⟨h.block D (by omega), h.block (D + 1) hd⟩
theorem Kept.set {D b : Nat} (A : World) (j : Nat) (v : Value) (hb : b < D) : Kept D A (A.setCell ⟨b, j, none⟩ v) :=
  ⟨Below.heap_setCell _ _ _ _ (by simp; omega), Below.heap_setCell _ _ _ _ (by simp; omega)⟩

/-- How a round's body may be left. -/
def RdPost {α : Type} (D : Nat) (Kp : World → World → Prop) (I : List α → World → Prop) (Ix : Code → List α → World → Prop) (xs : List α) (W : World) : Exit → Act → World → Prop
  | .normal, _, W2 => Kept D W W2 ∧ Kp W W2 ∧ I xs W2
  | .ret, _, W2 => Kept D W W2 ∧ Ix .ret xs W2
  | .exit id, _, W2 => Kept D W W2 ∧ Ix (.exit id) xs W2
  | .goto t, _, W2 => Kept D W W2 ∧ Ix (.goto t) xs W2
  | .panic _, _, _ => False
  | .outgrown, _, _ => False

theorem below_put {W : World} {D k : Nat} {o : Obj} (h : D ≤ k) : Below D W (W.putObj k o) :=
  ⟨rfl, rfl, rfl, by simp, fun j hj => World.putObj_heap_other (by omega)⟩

set_option maxHeartbeats 1000000 in
theorem wp_range {α : Type} {P : Program} {g : Operand} {ps : Array Tmp} {assign body : Code} {Q : Exit → Act → World → Prop} {a : Act} {w : World}
    {gf : Nat} {lb : Array Value} (hg : a.eval g = .func (.func gf) #[] lb) (eg : ∀ args w, (callFunc gf args).run P w = .ok (.enter gf args) w)
    {encs : α → Array Value} {Kp St : World → World → Prop} {S Sp : List α → Prop} {Ask : List α → α → Prop} {Bd : List α → Prop}
    (hseq : SeqBy P gf lb encs Kp St S Sp Ask Bd w) (hps : ∀ x, (encs x).size = ps.size)
    (hKt : ∀ {A B C : World}, Kp A B → Kp B C → Kp A C) (hKb : ∀ A B, Below w.heap.size A B → Kp A B)
    (hSt : ∀ A B, St A B → ∀ k, w.heap.size ≤ k → k < A.heap.size → B.heap[k]? = A.heap[k]?)
    (I : List α → World → Prop) (Ix : Code → List α → World → Prop)
    (hI : ∀ s A B, I s A → St A B → I s B) (hIx : ∀ c s A B, Ix c s A → St A B → Ix c s B)
    (hIb : ∀ s A B, I s A → Below w.heap.size A B → I s B) (hIxb : ∀ c s A B, Ix c s A → Below w.heap.size A B → Ix c s B)
    (hBd : ∀ s A, I s A → Bd s) (h0 : I [] w) (a₁ : α → Act)
    (hassign : ∀ (l : Nat) (x : α) (W : World) (K : Act → World → Prop), K (a₁ x) W →
      assign.wpIn (Fence.wide.inRound l) 0 P (Exit.then K (fun _ _ _ => False)) { tmps := (ps.zip (encs x)).foldl (fun t (p, v) => t.setIfInBounds p v) a.tmps, defers := [] } W)
    (hbody : ∀ (l : Nat) (pre : List α) (x : α) (W : World), I pre W → Ask pre x → w.heap.size + 1 < W.heap.size → body.wpIn (Fence.wide.inRound l) 0 P (RdPost w.heap.size Kp I Ix (pre ++ [x]) W) (a₁ x) W)
    (hdone : ∀ (xs : List α) (W : World), S xs → I xs W → W.heap[w.heap.size]? = some (.deferred (some [])) → Q .normal { a with defers := { target := .collected w.heap.size, args := #[] } :: a.defers } W)
    (hstop : ∀ (c : Code) (pre : List α) (W : World), Sp pre → Ix c pre W → W.heap[w.heap.size]? = some (.deferred (some [])) → c.wp P Q { a with defers := { target := .collected w.heap.size, args := #[] } :: a.defers } W) :
    (Code.rangeFunc g ps assign body).wp P Q a w := by
  refine (wpIn_wide (n := 0)).1 (wpIn_rangeFunc fun fn _ => ?_)
  generalize hD : w.heap.size = D at *
  have key : ∃ rc : LoopState → Option Code → Loop, ∀ st pe, rc st pe = { state := st, pending := pe, fn := fn, tmps := a.tmps, params := ps, assign := assign, body := body, defers := D } := ⟨_, fun _ _ => rfl⟩
  obtain ⟨rc, hrc⟩ := key
  have e1 : ∀ (st : LoopState) (pe : Option Code), (rc st pe).params = ps := fun st pe => by rw [hrc]
  have bD : ∀ o1 o2, Below D w ((w.alloc o1).alloc o2) := fun o1 o2 => by
    rw [← hD]; exact ((Below.refl _ w).alloc (Nat.le_refl _) _).alloc (by simp) _
  have k1 : ∀ o1 o2, ((w.alloc o1).alloc o2).heap[D]? = some o1 := fun o1 o2 => by
    rw [← hD]; exact (Below.heap_alloc _ _ _ (by simp)).trans (World.alloc_heap_new w _)
  have k2 : ∀ o1 o2, ((w.alloc o1).alloc o2).heap[D + 1]? = some o2 := fun o1 o2 => by
    have := World.alloc_heap_new (w.alloc o1) o2
    rwa [World.size_alloc, hD] at this
  have s2 : ∀ o1 o2, ((w.alloc o1).alloc o2).heap.size = D + 2 := fun o1 o2 => by simp [hD]
  have run1 := run_enterLoop_outer (P := P) (w := w) fn a.tmps ps assign body
  rw [hD] at run1
  have K1 := k1 (.deferred (some [])) (.loop (rc .ready none))
  have K2 := k2 (.deferred (some [])) (.loop (rc .ready none))
  have B1 := bD (.deferred (some [])) (.loop (rc .ready none))
  have run2 : (Instr.enterLoop fn a.tmps ps assign body none).run P w = .ok (D + 1, [{ target := .collected D, args := #[] }]) ((w.alloc (.deferred (some []))).alloc (.loop (rc .ready none))) := by
    rw [run1, hrc]
  clear run1 k1 k2 bD s2
  generalize (w.alloc (.deferred (some []))).alloc (.loop (rc .ready none)) = W1 at *
  refine ⟨D + 1, [{ target := .collected D, args := #[] }], W1, { target := .fn (.func gf) lb, args := #[.func (.yield (D + 1)) #[] #[]] }, W1, gf,
    #[.func (.yield (D + 1)) #[] #[]] ++ lb, W1, run2, ?_, ?_, ?_, fun h => (by cases h), ?_⟩
  · simp only [resolve, hg]; simp [go_sem]
  · intro f2 hf2; trivial
  · simp [invoke, go_sem, eg]
  · have lt1 : D + 1 < W1.heap.size := (Array.getElem?_eq_some_iff.1 K2).1
    refine (hseq (D + 1)
      (fun pre W => I pre W ∧ W.heap[D]? = some (.deferred (some [])) ∧ W.heap[D + 1]? = some (.loop (rc .ready none)))
      (fun pre W => ∃ c, Ix c pre W ∧ W.heap[D]? = some (.deferred (some [])) ∧ W.heap[D + 1]? = some (.loop (rc .done (some c)))) W1 (by rw [hD]; exact B1) ?_ ?_ (fun s A h => hBd s A h.1) ?_ ⟨hIb _ _ _ h0 B1, K1, K2⟩).mono ?_
    · rintro s A B ⟨h, q1, q2⟩ hs
      exact ⟨hI s A B h hs, (hSt A B hs D (Nat.le_refl _) (Array.getElem?_eq_some_iff.1 q1).1).trans q1, (hSt A B hs (D + 1) (by omega) (Array.getElem?_eq_some_iff.1 q2).1).trans q2⟩
    · rintro s A B ⟨c, h, q1, q2⟩ hs
      exact ⟨c, hIx c s A B h hs, (hSt A B hs D (Nat.le_refl _) (Array.getElem?_eq_some_iff.1 q1).1).trans q1, (hSt A B hs (D + 1) (by omega) (Array.getElem?_eq_some_iff.1 q2).1).trans q2⟩
    · rintro pre x W ⟨h, q1, q2⟩ hlen
      have lt2 : D + 1 < W.heap.size := (Array.getElem?_eq_some_iff.1 q2).1
      have hy := run_yield (P := P) (args := encs x) q2 (by rw [e1]; exact hps x)
      rw [hrc] at hy
      refine ⟨fn, _, assign, body, hy, roundIn_of_wpIn trivial (hassign _ x W _ ⟨_, run_beginRound q2 (by rw [hrc]), ?_⟩)⟩
      have b2 : ∀ o, Below D W (W.putObj (D + 1) o) := fun o => below_put (by omega)
      have q3 : ∀ o, (W.putObj (D + 1) o).heap[D + 1]? = some o := fun o => World.putObj_heap_same lt2
      have q4 : ∀ o, (W.putObj (D + 1) o).heap[D]? = some (.deferred (some [])) := fun o => (World.putObj_heap_other (by omega)).trans q1
      refine Go.wpIn_mono (hbody _ pre x _ (hIb _ _ _ h (b2 _)) hlen (by simpa using lt2)) ?_
      have fin : ∀ (jump : Option Code) (W3 : World), Kept D (W.putObj (D + 1) (.loop { rc .ready none with state := .busy })) W3 →
          ∃ W4, (Instr.endRound (D + 1) jump).run P W3 = .ok (.bool jump.isNone) W4 ∧ Below D W3 W4 ∧ W4.heap[D]? = some (.deferred (some [])) ∧ W4.heap[D + 1]? = some (.loop (rc (if jump.isNone then .ready else .done) jump)) := by
        intro jump W3 hk
        have r2 := hk.2.trans (q3 _)
        have r1 := hk.1.trans (q4 _)
        have lt3 : D + 1 < W3.heap.size := (Array.getElem?_eq_some_iff.1 r2).1
        have hr := run_endRound (P := P) jump r2
        refine ⟨_, hr, below_put (by omega), (World.putObj_heap_other (by omega)).trans r1, ?_⟩
        rw [World.putObj_heap_same lt3, hrc, hrc]
      rintro e a3 W3 hp
      cases e with
      | normal =>
        obtain ⟨hk, hkp, hi⟩ := hp
        obtain ⟨W4, hr, hb4, r1, r2⟩ := fin none W3 hk
        exact ⟨_, W4, hr, .inl ⟨rfl, ⟨hIb _ _ _ hi hb4, r1, r2⟩, hKt (hKt (hKb _ _ (b2 _)) hkp) (hKb _ _ hb4)⟩⟩
      | ret =>
        obtain ⟨hk, hi⟩ := hp
        obtain ⟨W4, hr, hb4, r1, r2⟩ := fin (some .ret) W3 hk
        exact ⟨_, W4, hr, .inr ⟨rfl, .ret, hIxb _ _ _ _ hi hb4, r1, r2⟩⟩
      | exit id =>
        obtain ⟨hk, hi⟩ := hp
        obtain ⟨W4, hr, hb4, r1, r2⟩ := fin (some (.exit id)) W3 hk
        exact ⟨_, W4, hr, .inr ⟨rfl, .exit id, hIxb _ _ _ _ hi hb4, r1, r2⟩⟩
      | goto t =>
        obtain ⟨hk, hi⟩ := hp
        obtain ⟨W4, hr, hb4, r1, r2⟩ := fin (some (.goto t)) W3 hk
        exact ⟨_, W4, hr, .inr ⟨rfl, .goto t, hIxb _ _ _ _ hi hb4, r1, r2⟩⟩
      | panic ch => exact hp.elim
      | outgrown => exact hp.elim
    · rintro e W2 ⟨⟨v, rfl⟩, hend⟩
      rcases hend with ⟨xs, hS, hi, q1, q2⟩ | ⟨pre, hSp, c, hi, q1, q2⟩
      · have hr := run_endLoop (P := P) q2 (by rw [hrc]; simp)
        refine ⟨none, _, by rw [hrc] at hr; rw [hr], hdone xs _ hS (hIb _ _ _ hi (below_put (by omega))) ((World.putObj_heap_other (by omega)).trans q1)⟩
      · have hr := run_endLoop (P := P) q2 (by rw [hrc]; simp)
        refine ⟨some c, _, by rw [hrc] at hr; rw [hr], wpIn_wide.2 (hstop c pre _ hSp (hIxb _ _ _ _ hi (below_put (by omega))) ((World.putObj_heap_other (by omega)).trans q1))⟩
end Go.Proofs.YtppjmngnjdeigaaDoor
