/- Several texts in one, as a claim has at most 60 files: Rng RngO RngW HeldC Split PassS PassO PaM PaI Rc SplitS SpI PaJ PaS HSort Kv KeyOf Ord Sorted Cmp SortI SortC PaK PaN. -/
import Derived.Test.YtaiedpblfnaooabBase
import Derived.RangeFuncNested
import Derived.RangeFuncCalls
import Derived.RangeFuncBound
import Derived.RangeFuncLeaves
import Derived.OwnWalkIn
import Derived.TacticsInMore
import Derived.LoopNIn
import Derived.LoopIn
import Derived.Test.YtaiedpblfnaooabMarkC
import Derived.Test.YtaiedpblfnaooabQuiet
import Derived.Test.YtaiedpblfnaooabBoxes
import Derived.Test.YtaiedpblfnaooabApp2
import Derived.Test.YtaiedpblfnaooabBit
import Derived.Test.YtaiedpblfnaooabHole
import Derived.Test.YtaiedpblfnaooabDeckS
import Derived.Test.YtaiedpblfnaooabFind
import Derived.Test.YtaiedpblfnaooabField
import Derived.Test.YtaiedpblfnaooabAnsI
import Derived.ArgAppend
import Derived.Test.YtaiedpblfnaooabInts
import Derived.Deep.DeepCutAuto
import Derived.Test.YtaiedpblfnaooabDeckI
import Derived.Deep.RegionWith
import Derived.Shelf.Abstract
import Derived.Test.YtaiedpblfnaooabISort
import Derived.Test.YtaiedpblfnaooabHolesIn
import Derived.Test.YtaiedpblfnaooabHolesOf
import Derived.Test.YtaiedpblfnaooabMath
import Derived.Test.YtaiedpblfnaooabVFi
import Derived.Test.YtaiedpblfnaooabVFs
import Derived.Test.YtaiedpblfnaooabMaskOf
import Derived.Test.YtaiedpblfnaooabOth
namespace Go.Proofs.Ytaiedpblfnaooab
open Go.ChangeShapes Go.WideShapes Go.ChangeAt Go.RowKit

/-- An iterator's word: between two rounds it takes steps of the kind St alone; a round keeps what Kp says. -/
def SeqBy {α : Type} (P : Program) (gf : Nat) (lb : Array Value) (encs : α → Array Value) (Kp St : World → World → Prop) (S Sp : List α → Prop) (Ask : List α → α → Prop) (Bd : List α → Prop) (w : World) : Prop :=
  ∀ (l : Nat) (J Jx : List α → World → Prop) (W : World), Below w.heap.size w W → (∀ s A B, J s A → St A B → J s B) → (∀ s A B, Jx s A → St A B → Jx s B) → (∀ s A, J s A → Bd s) →
    (∀ pre x W1, J pre W1 → Ask pre x → YieldAt Fence.wide 0 P l (encs x) W1 fun e W2 =>
      (e = .returned (.bool true) ∧ J (pre ++ [x]) W2 ∧ Kp W1 W2) ∨ (e = .returned (.bool false) ∧ Jx (pre ++ [x]) W2)) →
    J [] W →
    CallsIn Fence.wide 0 P gf (#[.func (.yield l) #[] #[]] ++ lb) W fun e W2 => (∃ v, e = .returned v) ∧ ((∃ xs, S xs ∧ J xs W2) ∨ (∃ pre, Sp pre ∧ Jx pre W2))

/-- The loop's own two blocks lie as they lay. -/
def Kept (D : Nat) (A B : World) : Prop := B.heap[D]? = A.heap[D]? ∧ B.heap[D + 1]? = A.heap[D + 1]?
theorem Kept.refl (D : Nat) (A : World) : Kept D A A := ⟨rfl, rfl⟩
theorem Kept.trans {D : Nat} {A B C : World} (h : Kept D A B) (k : Kept D B C) : Kept D A C := ⟨k.1.trans h.1, k.2.trans h.2⟩
theorem Kept.of {D : Nat} {A B : World} (h : Below A.heap.size A B) (hd : D + 1 < A.heap.size) : Kept D A B := ⟨h.block D (by omega), h.block (D + 1) hd⟩
theorem Kept.set {D b : Nat} (A : World) (j : Nat) (v : Value) (hb : b < D) : Kept D A (A.setCell ⟨b, j, none⟩ v) :=
  ⟨Below.heap_setCell _ _ _ _ (by simp; omega), Below.heap_setCell _ _ _ _ (by simp; omega)⟩

/-- How a round's body may be left. -/
def RdPost {α : Type} (D : Nat) (Kp : World → World → Prop) (I : List α → World → Prop) (Ix : Code → List α → World → Prop) (xs : List α) (W : World) : Exit → Act → World → Prop
  | .normal, _, W2 => Kept D W W2 ∧ Kp W W2 ∧ I xs W2
  | .ret, _, W2 => Kept D W W2 ∧ Ix .ret xs W2
  | .exit id, _, W2 => Kept D W W2 ∧ Ix (.exit id) xs W2
  | .goto t, _, W2 => Kept D W W2 ∧ Ix (.goto t) xs W2
  | .panic _, _, _ => False
  | .outgrown, _, _ => False

theorem below_put {W : World} {D k : Nat} {o : Obj} (h : D ≤ k) : Below D W (W.putObj k o) :=
  ⟨rfl, rfl, rfl, by simp, fun j hj => World.putObj_heap_other (by omega)⟩

set_option maxHeartbeats 1000000 in
theorem wp_range {α : Type} {P : Program} {g : Operand} {ps : Array Tmp} {assign body : Code} {Q : Exit → Act → World → Prop} {a : Act} {w : World}
    {gf : Nat} {lb : Array Value} (hg : a.eval g = .func (.func gf) #[] lb) (eg : ∀ args w, (callFunc gf args).run P w = .ok (.enter gf args) w)
    {encs : α → Array Value} {Kp St : World → World → Prop} {S Sp : List α → Prop} {Ask : List α → α → Prop} {Bd : List α → Prop}
    (hseq : SeqBy P gf lb encs Kp St S Sp Ask Bd w) (hps : ∀ x, (encs x).size = ps.size)
    (hKt : ∀ {A B C : World}, Kp A B → Kp B C → Kp A C) (hKb : ∀ A B, Below w.heap.size A B → Kp A B)
    (hSt : ∀ A B, St A B → ∀ k, w.heap.size ≤ k → k < A.heap.size → B.heap[k]? = A.heap[k]?)
    (I : List α → World → Prop) (Ix : Code → List α → World → Prop)
    (hI : ∀ s A B, I s A → St A B → I s B) (hIx : ∀ c s A B, Ix c s A → St A B → Ix c s B)
    (hIb : ∀ s A B, I s A → Below w.heap.size A B → I s B) (hIxb : ∀ c s A B, Ix c s A → Below w.heap.size A B → Ix c s B)
    (hBd : ∀ s A, I s A → Bd s) (h0 : I [] w) (a₁ : α → Act)
    (hassign : ∀ (l : Nat) (x : α) (W : World) (K : Act → World → Prop), K (a₁ x) W →
      assign.wpIn (Fence.wide.inRound l) 0 P (Exit.then K (fun _ _ _ => False)) { tmps := (ps.zip (encs x)).foldl (fun t (p, v) => t.setIfInBounds p v) a.tmps, defers := [] } W)
    (hbody : ∀ (l : Nat) (pre : List α) (x : α) (W : World), I pre W → Ask pre x → w.heap.size + 1 < W.heap.size → body.wpIn (Fence.wide.inRound l) 0 P (RdPost w.heap.size Kp I Ix (pre ++ [x]) W) (a₁ x) W)
    (hdone : ∀ (xs : List α) (W : World), S xs → I xs W → W.heap[w.heap.size]? = some (.deferred (some [])) → Q .normal { a with defers := { target := .collected w.heap.size, args := #[] } :: a.defers } W)
    (hstop : ∀ (c : Code) (pre : List α) (W : World), Sp pre → Ix c pre W → W.heap[w.heap.size]? = some (.deferred (some [])) → c.wp P Q { a with defers := { target := .collected w.heap.size, args := #[] } :: a.defers } W) :
    (Code.rangeFunc g ps assign body).wp P Q a w := by
  refine (wpIn_wide (n := 0)).1 (wpIn_rangeFunc fun fn _ => ?_)
  generalize hD : w.heap.size = D at *
  have key : ∃ rc : LoopState → Option Code → Loop, ∀ st pe, rc st pe = { state := st, pending := pe, fn := fn, tmps := a.tmps, params := ps, assign := assign, body := body, defers := D } := ⟨_, fun _ _ => rfl⟩
  obtain ⟨rc, hrc⟩ := key
  have e1 : ∀ (st : LoopState) (pe : Option Code), (rc st pe).params = ps := fun st pe => by rw [hrc]
  have bD : ∀ o1 o2, Below D w ((w.alloc o1).alloc o2) := fun o1 o2 => by
    rw [← hD]; exact ((Below.refl _ w).alloc (Nat.le_refl _) _).alloc (by simp) _
  have k1 : ∀ o1 o2, ((w.alloc o1).alloc o2).heap[D]? = some o1 := fun o1 o2 => by
    rw [← hD]; exact (Below.heap_alloc _ _ _ (by simp)).trans (World.alloc_heap_new w _)
  have k2 : ∀ o1 o2, ((w.alloc o1).alloc o2).heap[D + 1]? = some o2 := fun o1 o2 => by
    have := World.alloc_heap_new (w.alloc o1) o2
    rwa [World.size_alloc, hD] at this
  have s2 : ∀ o1 o2, ((w.alloc o1).alloc o2).heap.size = D + 2 := fun o1 o2 => by simp [hD]
  have run1 := run_enterLoop_outer (P := P) (w := w) fn a.tmps ps assign body
  rw [hD] at run1
  have K1 := k1 (.deferred (some [])) (.loop (rc .ready none))
  have K2 := k2 (.deferred (some [])) (.loop (rc .ready none))
  have B1 := bD (.deferred (some [])) (.loop (rc .ready none))
  have run2 : (Instr.enterLoop fn a.tmps ps assign body none).run P w = .ok (D + 1, [{ target := .collected D, args := #[] }]) ((w.alloc (.deferred (some []))).alloc (.loop (rc .ready none))) := by
    rw [run1, hrc]
  clear run1 k1 k2 bD s2
  generalize (w.alloc (.deferred (some []))).alloc (.loop (rc .ready none)) = W1 at *
  refine ⟨D + 1, [{ target := .collected D, args := #[] }], W1, { target := .fn (.func gf) lb, args := #[.func (.yield (D + 1)) #[] #[]] }, W1, gf,
    #[.func (.yield (D + 1)) #[] #[]] ++ lb, W1, run2, ?_, ?_, ?_, fun h => (by cases h), ?_⟩
  · simp only [resolve, hg]; simp [go_sem]
  · intro f2 hf2; trivial
  · simp [invoke, go_sem, eg]
  · have lt1 : D + 1 < W1.heap.size := (Array.getElem?_eq_some_iff.1 K2).1
    refine (hseq (D + 1)
      (fun pre W => I pre W ∧ W.heap[D]? = some (.deferred (some [])) ∧ W.heap[D + 1]? = some (.loop (rc .ready none)))
      (fun pre W => ∃ c, Ix c pre W ∧ W.heap[D]? = some (.deferred (some [])) ∧ W.heap[D + 1]? = some (.loop (rc .done (some c)))) W1 (by rw [hD]; exact B1) ?_ ?_ (fun s A h => hBd s A h.1) ?_ ⟨hIb _ _ _ h0 B1, K1, K2⟩).mono ?_
    · rintro s A B ⟨h, q1, q2⟩ hs
      exact ⟨hI s A B h hs, (hSt A B hs D (Nat.le_refl _) (Array.getElem?_eq_some_iff.1 q1).1).trans q1, (hSt A B hs (D + 1) (by omega) (Array.getElem?_eq_some_iff.1 q2).1).trans q2⟩
    · rintro s A B ⟨c, h, q1, q2⟩ hs
      exact ⟨c, hIx c s A B h hs, (hSt A B hs D (Nat.le_refl _) (Array.getElem?_eq_some_iff.1 q1).1).trans q1, (hSt A B hs (D + 1) (by omega) (Array.getElem?_eq_some_iff.1 q2).1).trans q2⟩
    · rintro pre x W ⟨h, q1, q2⟩ hlen
      have lt2 : D + 1 < W.heap.size := (Array.getElem?_eq_some_iff.1 q2).1
      have hy := run_yield (P := P) (args := encs x) q2 (by rw [e1]; exact hps x)
      rw [hrc] at hy
      refine ⟨fn, _, assign, body, hy, roundIn_of_wpIn trivial (hassign _ x W _ ⟨_, run_beginRound q2 (by rw [hrc]), ?_⟩)⟩
      have b2 : ∀ o, Below D W (W.putObj (D + 1) o) := fun o => below_put (by omega)
      have q3 : ∀ o, (W.putObj (D + 1) o).heap[D + 1]? = some o := fun o => World.putObj_heap_same lt2
      have q4 : ∀ o, (W.putObj (D + 1) o).heap[D]? = some (.deferred (some [])) := fun o => (World.putObj_heap_other (by omega)).trans q1
      refine Go.wpIn_mono (hbody _ pre x _ (hIb _ _ _ h (b2 _)) hlen (by simpa using lt2)) ?_
      have fin : ∀ (jump : Option Code) (W3 : World), Kept D (W.putObj (D + 1) (.loop { rc .ready none with state := .busy })) W3 →
          ∃ W4, (Instr.endRound (D + 1) jump).run P W3 = .ok (.bool jump.isNone) W4 ∧ Below D W3 W4 ∧ W4.heap[D]? = some (.deferred (some [])) ∧ W4.heap[D + 1]? = some (.loop (rc (if jump.isNone then .ready else .done) jump)) := by
        intro jump W3 hk
        have r2 := hk.2.trans (q3 _)
        have r1 := hk.1.trans (q4 _)
        have lt3 : D + 1 < W3.heap.size := (Array.getElem?_eq_some_iff.1 r2).1
        have hr := run_endRound (P := P) jump r2
        refine ⟨_, hr, below_put (by omega), (World.putObj_heap_other (by omega)).trans r1, ?_⟩
        rw [World.putObj_heap_same lt3, hrc, hrc]
      rintro e a3 W3 hp
      cases e with
      | normal =>
        obtain ⟨hk, hkp, hi⟩ := hp
        obtain ⟨W4, hr, hb4, r1, r2⟩ := fin none W3 hk
        exact ⟨_, W4, hr, .inl ⟨rfl, ⟨hIb _ _ _ hi hb4, r1, r2⟩, hKt (hKt (hKb _ _ (b2 _)) hkp) (hKb _ _ hb4)⟩⟩
      | ret =>
        obtain ⟨hk, hi⟩ := hp
        obtain ⟨W4, hr, hb4, r1, r2⟩ := fin (some .ret) W3 hk
        exact ⟨_, W4, hr, .inr ⟨rfl, .ret, hIxb _ _ _ _ hi hb4, r1, r2⟩⟩
      | exit id =>
        obtain ⟨hk, hi⟩ := hp
        obtain ⟨W4, hr, hb4, r1, r2⟩ := fin (some (.exit id)) W3 hk
        exact ⟨_, W4, hr, .inr ⟨rfl, .exit id, hIxb _ _ _ _ hi hb4, r1, r2⟩⟩
      | goto t =>
        obtain ⟨hk, hi⟩ := hp
        obtain ⟨W4, hr, hb4, r1, r2⟩ := fin (some (.goto t)) W3 hk
        exact ⟨_, W4, hr, .inr ⟨rfl, .goto t, hIxb _ _ _ _ hi hb4, r1, r2⟩⟩
      | panic ch => exact hp.elim
      | outgrown => exact hp.elim
    · rintro e W2 ⟨⟨v, rfl⟩, hend⟩
      rcases hend with ⟨xs, hS, hi, q1, q2⟩ | ⟨pre, hSp, c, hi, q1, q2⟩
      · have hr := run_endLoop (P := P) q2 (by rw [hrc]; simp)
        refine ⟨none, _, by rw [hrc] at hr; rw [hr], hdone xs _ hS (hIb _ _ _ hi (below_put (by omega))) ((World.putObj_heap_other (by omega)).trans q1)⟩
      · have hr := run_endLoop (P := P) q2 (by rw [hrc]; simp)
        refine ⟨some c, _, by rw [hrc] at hr; rw [hr], wpIn_wide.2 (hstop c pre _ hSp (hIxb _ _ _ _ hi (below_put (by omega))) ((World.putObj_heap_other (by omega)).trans q1))⟩
end Go.Proofs.Ytaiedpblfnaooab

namespace Go.Proofs.Ytaiedpblfnaooab
open Go.ChangeShapes Go.WideShapes Go.ChangeAt Go.RowKit

set_option maxHeartbeats 1000000 in
theorem wp_rangeO {α : Type} {P : Program} {g : Operand} {ps : Array Tmp} {assign body : Code} {Q : Exit → Act → World → Prop} {a : Act} {w : World}
    {gf : Nat} {lb : Array Value} (hg : a.eval g = .func (.func gf) #[] lb) (eg : ∀ args w, (callFunc gf args).run P w = .ok (.enter gf args) w)
    {encs : α → Array Value} {Kp St : World → World → Prop} {S Sp : List α → Prop} {Ask : List α → α → Prop} {Bd : List α → Prop}
    (hseq : SeqBy P gf lb encs Kp St S Sp Ask Bd w) (hps : ∀ x, (encs x).size = ps.size)
    (hKt : ∀ {A B C : World}, Kp A B → Kp B C → Kp A C) (hKb : ∀ A B, Below w.heap.size A B → Kp A B)
    (hSt : ∀ A B, St A B → ∀ k, w.heap.size ≤ k → k < A.heap.size → B.heap[k]? = A.heap[k]?)
    (I : List α → World → Prop) (Ix : Code → List α → World → Prop)
    (hI : ∀ s A B, I s A → St A B → I s B) (hIx : ∀ c s A B, Ix c s A → St A B → Ix c s B)
    (hIa : ∀ s A o, w.heap.size ≤ A.heap.size → I s A → I s (A.alloc o)) (hIp : ∀ s A k o o', w.heap.size ≤ k → A.heap[k]? = some o → o.isCells = false → I s A → I s (A.putObj k o'))
    (hIxp : ∀ c s A k o o', w.heap.size ≤ k → A.heap[k]? = some o → o.isCells = false → Ix c s A → Ix c s (A.putObj k o'))
    (hBd : ∀ s A, I s A → Bd s) (h0 : I [] w) (a₁ : α → Act)
    (hassign : ∀ (l : Nat) (x : α) (W : World) (K : Act → World → Prop), K (a₁ x) W →
      assign.wpIn (Fence.wide.inRound l) 0 P (Exit.then K (fun _ _ _ => False)) { tmps := (ps.zip (encs x)).foldl (fun t (p, v) => t.setIfInBounds p v) a.tmps, defers := [] } W)
    (hbody : ∀ (l : Nat) (pre : List α) (x : α) (W : World), I pre W → Ask pre x → w.heap.size + 1 < W.heap.size → body.wpIn (Fence.wide.inRound l) 0 P (RdPost w.heap.size Kp I Ix (pre ++ [x]) W) (a₁ x) W)
    (hdone : ∀ (xs : List α) (W : World), S xs → I xs W → W.heap[w.heap.size]? = some (.deferred (some [])) → Q .normal { a with defers := { target := .collected w.heap.size, args := #[] } :: a.defers } W)
    (hstop : ∀ (c : Code) (pre : List α) (W : World), Sp pre → Ix c pre W → W.heap[w.heap.size]? = some (.deferred (some [])) → c.wp P Q { a with defers := { target := .collected w.heap.size, args := #[] } :: a.defers } W) :
    (Code.rangeFunc g ps assign body).wp P Q a w := by
  refine (wpIn_wide (n := 0)).1 (wpIn_rangeFunc fun fn _ => ?_)
  generalize hD : w.heap.size = D at *
  have key : ∃ rc : LoopState → Option Code → Loop, ∀ st pe, rc st pe = { state := st, pending := pe, fn := fn, tmps := a.tmps, params := ps, assign := assign, body := body, defers := D } := ⟨_, fun _ _ => rfl⟩
  obtain ⟨rc, hrc⟩ := key
  have e1 : ∀ (st : LoopState) (pe : Option Code), (rc st pe).params = ps := fun st pe => by rw [hrc]
  have bD : ∀ o1 o2, Below D w ((w.alloc o1).alloc o2) := fun o1 o2 => by
    rw [← hD]; exact ((Below.refl _ w).alloc (Nat.le_refl _) _).alloc (by simp) _
  have k1 : ∀ o1 o2, ((w.alloc o1).alloc o2).heap[D]? = some o1 := fun o1 o2 => by
    rw [← hD]; exact (Below.heap_alloc _ _ _ (by simp)).trans (World.alloc_heap_new w _)
  have k2 : ∀ o1 o2, ((w.alloc o1).alloc o2).heap[D + 1]? = some o2 := fun o1 o2 => by
    have := World.alloc_heap_new (w.alloc o1) o2
    rwa [World.size_alloc, hD] at this
  have s2 : ∀ o1 o2, ((w.alloc o1).alloc o2).heap.size = D + 2 := fun o1 o2 => by simp [hD]
  have I1 : I [] ((w.alloc (.deferred (some []))).alloc (.loop (rc .ready none))) := hIa _ _ _ (by simp; omega) (hIa _ _ _ (by omega) h0)
  have run1 := run_enterLoop_outer (P := P) (w := w) fn a.tmps ps assign body
  rw [hD] at run1
  have K1 := k1 (.deferred (some [])) (.loop (rc .ready none))
  have K2 := k2 (.deferred (some [])) (.loop (rc .ready none))
  have B1 := bD (.deferred (some [])) (.loop (rc .ready none))
  have run2 : (Instr.enterLoop fn a.tmps ps assign body none).run P w = .ok (D + 1, [{ target := .collected D, args := #[] }]) ((w.alloc (.deferred (some []))).alloc (.loop (rc .ready none))) := by
    rw [run1, hrc]
  clear run1 k1 k2 bD s2
  generalize (w.alloc (.deferred (some []))).alloc (.loop (rc .ready none)) = W1 at *
  refine ⟨D + 1, [{ target := .collected D, args := #[] }], W1, { target := .fn (.func gf) lb, args := #[.func (.yield (D + 1)) #[] #[]] }, W1, gf,
    #[.func (.yield (D + 1)) #[] #[]] ++ lb, W1, run2, ?_, ?_, ?_, fun h => (by cases h), ?_⟩
  · simp only [resolve, hg]; simp [go_sem]
  · intro f2 hf2; trivial
  · simp [invoke, go_sem, eg]
  · have lt1 : D + 1 < W1.heap.size := (Array.getElem?_eq_some_iff.1 K2).1
    refine (hseq (D + 1)
      (fun pre W => I pre W ∧ W.heap[D]? = some (.deferred (some [])) ∧ W.heap[D + 1]? = some (.loop (rc .ready none)))
      (fun pre W => ∃ c, Ix c pre W ∧ W.heap[D]? = some (.deferred (some [])) ∧ W.heap[D + 1]? = some (.loop (rc .done (some c)))) W1 (by rw [hD]; exact B1) ?_ ?_ (fun s A h => hBd s A h.1) ?_ ⟨I1, K1, K2⟩).mono ?_
    · rintro s A B ⟨h, q1, q2⟩ hs
      exact ⟨hI s A B h hs, (hSt A B hs D (Nat.le_refl _) (Array.getElem?_eq_some_iff.1 q1).1).trans q1, (hSt A B hs (D + 1) (by omega) (Array.getElem?_eq_some_iff.1 q2).1).trans q2⟩
    · rintro s A B ⟨c, h, q1, q2⟩ hs
      exact ⟨c, hIx c s A B h hs, (hSt A B hs D (Nat.le_refl _) (Array.getElem?_eq_some_iff.1 q1).1).trans q1, (hSt A B hs (D + 1) (by omega) (Array.getElem?_eq_some_iff.1 q2).1).trans q2⟩
    · rintro pre x W ⟨h, q1, q2⟩ hlen
      have lt2 : D + 1 < W.heap.size := (Array.getElem?_eq_some_iff.1 q2).1
      have hy := run_yield (P := P) (args := encs x) q2 (by rw [e1]; exact hps x)
      rw [hrc] at hy
      refine ⟨fn, _, assign, body, hy, roundIn_of_wpIn trivial (hassign _ x W _ ⟨_, run_beginRound q2 (by rw [hrc]), ?_⟩)⟩
      have b2 : ∀ o, Below D W (W.putObj (D + 1) o) := fun o => below_put (by omega)
      have q3 : ∀ o, (W.putObj (D + 1) o).heap[D + 1]? = some o := fun o => World.putObj_heap_same lt2
      have q4 : ∀ o, (W.putObj (D + 1) o).heap[D]? = some (.deferred (some [])) := fun o => (World.putObj_heap_other (by omega)).trans q1
      refine Go.wpIn_mono (hbody _ pre x _ (hIp _ _ _ _ _ (by omega) q2 rfl h) hlen (by simpa using lt2)) ?_
      have fin : ∀ (jump : Option Code) (W3 : World), Kept D (W.putObj (D + 1) (.loop { rc .ready none with state := .busy })) W3 →
          ∃ W4, (Instr.endRound (D + 1) jump).run P W3 = .ok (.bool jump.isNone) W4 ∧ Below D W3 W4 ∧ ((∀ s, I s W3 → I s W4) ∧ ∀ c s, Ix c s W3 → Ix c s W4) ∧ W4.heap[D]? = some (.deferred (some [])) ∧ W4.heap[D + 1]? = some (.loop (rc (if jump.isNone then .ready else .done) jump)) := by
        intro jump W3 hk
        have r2 := hk.2.trans (q3 _)
        have r1 := hk.1.trans (q4 _)
        have lt3 : D + 1 < W3.heap.size := (Array.getElem?_eq_some_iff.1 r2).1
        have hr := run_endRound (P := P) jump r2
        refine ⟨_, hr, below_put (by omega), ⟨fun s h => hIp _ _ _ _ _ (by omega) r2 rfl h, fun c s h => hIxp _ _ _ _ _ _ (by omega) r2 rfl h⟩, (World.putObj_heap_other (by omega)).trans r1, ?_⟩
        rw [World.putObj_heap_same lt3, hrc, hrc]
      rintro e a3 W3 hp
      cases e with
      | normal =>
        obtain ⟨hk, hkp, hi⟩ := hp
        obtain ⟨W4, hr, hb4, ⟨hi4, hx4⟩, r1, r2⟩ := fin none W3 hk
        exact ⟨_, W4, hr, .inl ⟨rfl, ⟨hi4 _ hi, r1, r2⟩, hKt (hKt (hKb _ _ (b2 _)) hkp) (hKb _ _ hb4)⟩⟩
      | ret =>
        obtain ⟨hk, hi⟩ := hp
        obtain ⟨W4, hr, hb4, ⟨hi4, hx4⟩, r1, r2⟩ := fin (some .ret) W3 hk
        exact ⟨_, W4, hr, .inr ⟨rfl, .ret, hx4 _ _ hi, r1, r2⟩⟩
      | exit id =>
        obtain ⟨hk, hi⟩ := hp
        obtain ⟨W4, hr, hb4, ⟨hi4, hx4⟩, r1, r2⟩ := fin (some (.exit id)) W3 hk
        exact ⟨_, W4, hr, .inr ⟨rfl, .exit id, hx4 _ _ hi, r1, r2⟩⟩
      | goto t =>
        obtain ⟨hk, hi⟩ := hp
        obtain ⟨W4, hr, hb4, ⟨hi4, hx4⟩, r1, r2⟩ := fin (some (.goto t)) W3 hk
        exact ⟨_, W4, hr, .inr ⟨rfl, .goto t, hx4 _ _ hi, r1, r2⟩⟩
      | panic ch => exact hp.elim
      | outgrown => exact hp.elim
    · rintro e W2 ⟨⟨v, rfl⟩, hend⟩
      rcases hend with ⟨xs, hS, hi, q1, q2⟩ | ⟨pre, hSp, c, hi, q1, q2⟩
      · have hr := run_endLoop (P := P) q2 (by rw [hrc]; simp)
        refine ⟨none, _, by rw [hrc] at hr; rw [hr], hdone xs _ hS (hIp _ _ _ _ _ (by omega) q2 rfl hi) ((World.putObj_heap_other (by omega)).trans q1)⟩
      · have hr := run_endLoop (P := P) q2 (by rw [hrc]; simp)
        refine ⟨some c, _, by rw [hrc] at hr; rw [hr], wpIn_wide.2 (hstop c pre _ hSp (hIxp _ _ _ _ _ _ (by omega) q2 rfl hi) ((World.putObj_heap_other (by omega)).trans q1))⟩

set_option maxHeartbeats 1000000 in
theorem wp_range_panics {P : Program} {g : Operand} {ps : Array Tmp} {assign body : Code} {Q : Exit → Act → World → Prop} {a : Act} {w : World} {R : Ending → Prop}
    {gf : Nat} {lb : Array Value} (hg : a.eval g = .func (.func gf) #[] lb) (eg : ∀ args w, (callFunc gf args).run P w = .ok (.enter gf args) w)
    (hR : ∀ e, R e → ∃ ch, e = .panicked ch)
    (hcall : ∀ l W, Below w.heap.size w W → CallsIn Fence.wide 0 P gf (#[.func (.yield l) #[] #[]] ++ lb) W fun e W2 => R e ∧ Below W.heap.size W W2)
    (hout : ∀ ch W, R (.panicked ch) → Below w.heap.size w W → W.heap[w.heap.size]? = some (.deferred (some [])) → Q (.panic ch) { a with defers := { target := .collected w.heap.size, args := #[] } :: a.defers } W) :
    (Code.rangeFunc g ps assign body).wp P Q a w := by
  refine (wpIn_wide (n := 0)).1 (wpIn_rangeFunc fun fn _ => ?_)
  generalize hD : w.heap.size = D at *
  have key : ∃ rc : LoopState → Option Code → Loop, ∀ st pe, rc st pe = { state := st, pending := pe, fn := fn, tmps := a.tmps, params := ps, assign := assign, body := body, defers := D } := ⟨_, fun _ _ => rfl⟩
  obtain ⟨rc, hrc⟩ := key
  have B1 : Below D w ((w.alloc (.deferred (some []))).alloc (.loop (rc .ready none))) := by
    rw [← hD]; exact ((Below.refl _ w).alloc (Nat.le_refl _) _).alloc (by simp) _
  have K1 : ((w.alloc (.deferred (some []))).alloc (.loop (rc .ready none))).heap[D]? = some (.deferred (some [])) := by
    rw [← hD]; exact (Below.heap_alloc _ _ _ (by simp)).trans (World.alloc_heap_new w _)
  have lt : D < ((w.alloc (.deferred (some []))).alloc (.loop (rc .ready none))).heap.size := by simp; omega
  have run1 := run_enterLoop_outer (P := P) (w := w) fn a.tmps ps assign body
  rw [hD] at run1
  have run2 : (Instr.enterLoop fn a.tmps ps assign body none).run P w = .ok (D + 1, [{ target := .collected D, args := #[] }]) ((w.alloc (.deferred (some []))).alloc (.loop (rc .ready none))) := by
    rw [run1, hrc]
  clear run1
  generalize (w.alloc (.deferred (some []))).alloc (.loop (rc .ready none)) = W1 at *
  refine ⟨D + 1, [{ target := .collected D, args := #[] }], W1, { target := .fn (.func gf) lb, args := #[.func (.yield (D + 1)) #[] #[]] }, W1, gf,
    #[.func (.yield (D + 1)) #[] #[]] ++ lb, W1, run2, ?_, ?_, ?_, fun h => (by cases h), ?_⟩
  · simp only [resolve, hg]; simp [go_sem]
  · intro f2 hf2; trivial
  · simp [invoke, go_sem, eg]
  · refine (hcall (D + 1) W1 B1).mono ?_
    rintro e W2 ⟨hr, hb⟩
    obtain ⟨ch, rfl⟩ := hR e hr
    exact hout ch W2 hr (B1.trans (hb.mono (hD ▸ B1.size))) ((hb.block D lt).trans K1)
end Go.Proofs.Ytaiedpblfnaooab

namespace Go.Proofs.Ytaiedpblfnaooab
open Go.ChangeShapes Go.WideShapes Go.ChangeAt Go.RowKit

/-- An iterator's word, as SeqBy; what is told of a thing may speak of the world in which it is told. -/
def SeqByW {α : Type} (P : Program) (gf : Nat) (lb : Array Value) (encs : α → Array Value) (Kp St : World → World → Prop) (S Sp : List α → Prop) (Ask : List α → α → World → Prop) (Bd : List α → Prop) (w : World) : Prop :=
  ∀ (l : Nat) (J Jx : List α → World → Prop) (W : World), Below w.heap.size w W → (∀ s A B, J s A → St A B → J s B) → (∀ s A B, Jx s A → St A B → Jx s B) → (∀ s A, J s A → Bd s) →
    (∀ pre x W1, J pre W1 → Ask pre x W1 → YieldAt Fence.wide 0 P l (encs x) W1 fun e W2 =>
      (e = .returned (.bool true) ∧ J (pre ++ [x]) W2 ∧ Kp W1 W2) ∨ (e = .returned (.bool false) ∧ Jx (pre ++ [x]) W2)) →
    J [] W →
    CallsIn Fence.wide 0 P gf (#[.func (.yield l) #[] #[]] ++ lb) W fun e W2 => (∃ v, e = .returned v) ∧ ((∃ xs, S xs ∧ J xs W2) ∨ (∃ pre, Sp pre ∧ Jx pre W2))

set_option maxHeartbeats 1000000 in
theorem wp_rangeW {α : Type} {P : Program} {g : Operand} {ps : Array Tmp} {assign body : Code} {Q : Exit → Act → World → Prop} {a : Act} {w : World}
    {gf : Nat} {lb : Array Value} (hg : a.eval g = .func (.func gf) #[] lb) (eg : ∀ args w, (callFunc gf args).run P w = .ok (.enter gf args) w)
    {encs : α → Array Value} {Kp St : World → World → Prop} {S Sp : List α → Prop} {Ask : List α → α → World → Prop} {Bd : List α → Prop}
    (hseq : SeqByW P gf lb encs Kp St S Sp Ask Bd w) (hps : ∀ x, (encs x).size = ps.size)
    (hKt : ∀ {A B C : World}, Kp A B → Kp B C → Kp A C) (hKp : ∀ A k o o', w.heap.size ≤ k → A.heap[k]? = some o → o.isCells = false → Kp A (A.putObj k o'))
    (hAp : ∀ s x A k o o', w.heap.size ≤ k → A.heap[k]? = some o → o.isCells = false → Ask s x A → Ask s x (A.putObj k o'))
    (hSt : ∀ A B, St A B → ∀ k, w.heap.size ≤ k → k < A.heap.size → B.heap[k]? = A.heap[k]?)
    (I : List α → World → Prop) (Ix : Code → List α → World → Prop)
    (hI : ∀ s A B, I s A → St A B → I s B) (hIx : ∀ c s A B, Ix c s A → St A B → Ix c s B)
    (hIa : ∀ s A o, w.heap.size ≤ A.heap.size → I s A → I s (A.alloc o)) (hIp : ∀ s A k o o', w.heap.size ≤ k → A.heap[k]? = some o → o.isCells = false → I s A → I s (A.putObj k o'))
    (hIxp : ∀ c s A k o o', w.heap.size ≤ k → A.heap[k]? = some o → o.isCells = false → Ix c s A → Ix c s (A.putObj k o'))
    (hBd : ∀ s A, I s A → Bd s) (h0 : I [] w) (a₁ : α → Act)
    (hassign : ∀ (l : Nat) (x : α) (W : World) (K : Act → World → Prop), K (a₁ x) W →
      assign.wpIn (Fence.wide.inRound l) 0 P (Exit.then K (fun _ _ _ => False)) { tmps := (ps.zip (encs x)).foldl (fun t (p, v) => t.setIfInBounds p v) a.tmps, defers := [] } W)
    (hbody : ∀ (l : Nat) (pre : List α) (x : α) (W : World), I pre W → Ask pre x W → w.heap.size + 1 < W.heap.size → body.wpIn (Fence.wide.inRound l) 0 P (RdPost w.heap.size Kp I Ix (pre ++ [x]) W) (a₁ x) W)
    (hdone : ∀ (xs : List α) (W : World), S xs → I xs W → W.heap[w.heap.size]? = some (.deferred (some [])) → Q .normal { a with defers := { target := .collected w.heap.size, args := #[] } :: a.defers } W)
    (hstop : ∀ (c : Code) (pre : List α) (W : World), Sp pre → Ix c pre W → W.heap[w.heap.size]? = some (.deferred (some [])) → c.wp P Q { a with defers := { target := .collected w.heap.size, args := #[] } :: a.defers } W) :
    (Code.rangeFunc g ps assign body).wp P Q a w := by
  refine (wpIn_wide (n := 0)).1 (wpIn_rangeFunc fun fn _ => ?_)
  generalize hD : w.heap.size = D at *
  have key : ∃ rc : LoopState → Option Code → Loop, ∀ st pe, rc st pe = { state := st, pending := pe, fn := fn, tmps := a.tmps, params := ps, assign := assign, body := body, defers := D } := ⟨_, fun _ _ => rfl⟩
  obtain ⟨rc, hrc⟩ := key
  have e1 : ∀ (st : LoopState) (pe : Option Code), (rc st pe).params = ps := fun st pe => by rw [hrc]
  have bD : ∀ o1 o2, Below D w ((w.alloc o1).alloc o2) := fun o1 o2 => by
    rw [← hD]; exact ((Below.refl _ w).alloc (Nat.le_refl _) _).alloc (by simp) _
  have k1 : ∀ o1 o2, ((w.alloc o1).alloc o2).heap[D]? = some o1 := fun o1 o2 => by
    rw [← hD]; exact (Below.heap_alloc _ _ _ (by simp)).trans (World.alloc_heap_new w _)
  have k2 : ∀ o1 o2, ((w.alloc o1).alloc o2).heap[D + 1]? = some o2 := fun o1 o2 => by
    have := World.alloc_heap_new (w.alloc o1) o2
    rwa [World.size_alloc, hD] at this
  have s2 : ∀ o1 o2, ((w.alloc o1).alloc o2).heap.size = D + 2 := fun o1 o2 => by simp [hD]
  have I1 : I [] ((w.alloc (.deferred (some []))).alloc (.loop (rc .ready none))) := hIa _ _ _ (by simp; omega) (hIa _ _ _ (by omega) h0)
  have run1 := run_enterLoop_outer (P := P) (w := w) fn a.tmps ps assign body
  rw [hD] at run1
  have K1 := k1 (.deferred (some [])) (.loop (rc .ready none))
  have K2 := k2 (.deferred (some [])) (.loop (rc .ready none))
  have B1 := bD (.deferred (some [])) (.loop (rc .ready none))
  have run2 : (Instr.enterLoop fn a.tmps ps assign body none).run P w = .ok (D + 1, [{ target := .collected D, args := #[] }]) ((w.alloc (.deferred (some []))).alloc (.loop (rc .ready none))) := by
    rw [run1, hrc]
  clear run1 k1 k2 bD s2
  generalize (w.alloc (.deferred (some []))).alloc (.loop (rc .ready none)) = W1 at *
  refine ⟨D + 1, [{ target := .collected D, args := #[] }], W1, { target := .fn (.func gf) lb, args := #[.func (.yield (D + 1)) #[] #[]] }, W1, gf,
    #[.func (.yield (D + 1)) #[] #[]] ++ lb, W1, run2, ?_, ?_, ?_, fun h => (by cases h), ?_⟩
  · simp only [resolve, hg]; simp [go_sem]
  · intro f2 hf2; trivial
  · simp [invoke, go_sem, eg]
  · have lt1 : D + 1 < W1.heap.size := (Array.getElem?_eq_some_iff.1 K2).1
    refine (hseq (D + 1)
      (fun pre W => I pre W ∧ W.heap[D]? = some (.deferred (some [])) ∧ W.heap[D + 1]? = some (.loop (rc .ready none)))
      (fun pre W => ∃ c, Ix c pre W ∧ W.heap[D]? = some (.deferred (some [])) ∧ W.heap[D + 1]? = some (.loop (rc .done (some c)))) W1 (by rw [hD]; exact B1) ?_ ?_ (fun s A h => hBd s A h.1) ?_ ⟨I1, K1, K2⟩).mono ?_
    · rintro s A B ⟨h, q1, q2⟩ hs
      exact ⟨hI s A B h hs, (hSt A B hs D (Nat.le_refl _) (Array.getElem?_eq_some_iff.1 q1).1).trans q1, (hSt A B hs (D + 1) (by omega) (Array.getElem?_eq_some_iff.1 q2).1).trans q2⟩
    · rintro s A B ⟨c, h, q1, q2⟩ hs
      exact ⟨c, hIx c s A B h hs, (hSt A B hs D (Nat.le_refl _) (Array.getElem?_eq_some_iff.1 q1).1).trans q1, (hSt A B hs (D + 1) (by omega) (Array.getElem?_eq_some_iff.1 q2).1).trans q2⟩
    · rintro pre x W ⟨h, q1, q2⟩ hlen
      have lt2 : D + 1 < W.heap.size := (Array.getElem?_eq_some_iff.1 q2).1
      have hy := run_yield (P := P) (args := encs x) q2 (by rw [e1]; exact hps x)
      rw [hrc] at hy
      refine ⟨fn, _, assign, body, hy, roundIn_of_wpIn trivial (hassign _ x W _ ⟨_, run_beginRound q2 (by rw [hrc]), ?_⟩)⟩
      have b2 : ∀ o, Below D W (W.putObj (D + 1) o) := fun o => below_put (by omega)
      have q3 : ∀ o, (W.putObj (D + 1) o).heap[D + 1]? = some o := fun o => World.putObj_heap_same lt2
      have q4 : ∀ o, (W.putObj (D + 1) o).heap[D]? = some (.deferred (some [])) := fun o => (World.putObj_heap_other (by omega)).trans q1
      refine Go.wpIn_mono (hbody _ pre x _ (hIp _ _ _ _ _ (by omega) q2 rfl h) (hAp _ _ _ _ _ _ (by omega) q2 rfl hlen) (by simpa using lt2)) ?_
      have fin : ∀ (jump : Option Code) (W3 : World), Kept D (W.putObj (D + 1) (.loop { rc .ready none with state := .busy })) W3 →
          ∃ W4, (Instr.endRound (D + 1) jump).run P W3 = .ok (.bool jump.isNone) W4 ∧ Kp W3 W4 ∧ ((∀ s, I s W3 → I s W4) ∧ ∀ c s, Ix c s W3 → Ix c s W4) ∧ W4.heap[D]? = some (.deferred (some [])) ∧ W4.heap[D + 1]? = some (.loop (rc (if jump.isNone then .ready else .done) jump)) := by
        intro jump W3 hk
        have r2 := hk.2.trans (q3 _)
        have r1 := hk.1.trans (q4 _)
        have lt3 : D + 1 < W3.heap.size := (Array.getElem?_eq_some_iff.1 r2).1
        have hr := run_endRound (P := P) jump r2
        refine ⟨_, hr, hKp _ _ _ _ (by omega) r2 rfl, ⟨fun s h => hIp _ _ _ _ _ (by omega) r2 rfl h, fun c s h => hIxp _ _ _ _ _ _ (by omega) r2 rfl h⟩, (World.putObj_heap_other (by omega)).trans r1, ?_⟩
        rw [World.putObj_heap_same lt3, hrc, hrc]
      rintro e a3 W3 hp
      cases e with
      | normal =>
        obtain ⟨hk, hkp, hi⟩ := hp
        obtain ⟨W4, hr, hb4, ⟨hi4, hx4⟩, r1, r2⟩ := fin none W3 hk
        exact ⟨_, W4, hr, .inl ⟨rfl, ⟨hi4 _ hi, r1, r2⟩, hKt (hKt (hKp _ _ _ _ (by omega) q2 rfl) hkp) hb4⟩⟩
      | ret =>
        obtain ⟨hk, hi⟩ := hp
        obtain ⟨W4, hr, hb4, ⟨hi4, hx4⟩, r1, r2⟩ := fin (some .ret) W3 hk
        exact ⟨_, W4, hr, .inr ⟨rfl, .ret, hx4 _ _ hi, r1, r2⟩⟩
      | exit id =>
        obtain ⟨hk, hi⟩ := hp
        obtain ⟨W4, hr, hb4, ⟨hi4, hx4⟩, r1, r2⟩ := fin (some (.exit id)) W3 hk
        exact ⟨_, W4, hr, .inr ⟨rfl, .exit id, hx4 _ _ hi, r1, r2⟩⟩
      | goto t =>
        obtain ⟨hk, hi⟩ := hp
        obtain ⟨W4, hr, hb4, ⟨hi4, hx4⟩, r1, r2⟩ := fin (some (.goto t)) W3 hk
        exact ⟨_, W4, hr, .inr ⟨rfl, .goto t, hx4 _ _ hi, r1, r2⟩⟩
      | panic ch => exact hp.elim
      | outgrown => exact hp.elim
    · rintro e W2 ⟨⟨v, rfl⟩, hend⟩
      rcases hend with ⟨xs, hS, hi, q1, q2⟩ | ⟨pre, hSp, c, hi, q1, q2⟩
      · have hr := run_endLoop (P := P) q2 (by rw [hrc]; simp)
        refine ⟨none, _, by rw [hrc] at hr; rw [hr], hdone xs _ hS (hIp _ _ _ _ _ (by omega) q2 rfl hi) ((World.putObj_heap_other (by omega)).trans q1)⟩
      · have hr := run_endLoop (P := P) q2 (by rw [hrc]; simp)
        refine ⟨some c, _, by rw [hrc] at hr; rw [hr], wpIn_wide.2 (hstop c pre _ hSp (hIxp _ _ _ _ _ _ (by omega) q2 rfl hi) ((World.putObj_heap_other (by omega)).trans q1))⟩

end Go.Proofs.Ytaiedpblfnaooab

namespace Go.Proofs.Ytaiedpblfnaooab
open Go.ChangeShapes Go.WideShapes Go.ChangeAt Go.RowKit

set_option maxRecDepth 100000 in
set_option maxHeartbeats 3200000 in
theorem heldCards_any (a : Option Addr) (ds : List Cd) (c k : Nat) (w : World) (h : CellsC w a ds) (hm : Marked k ds.length ds) (hk : k + 3 * ds.length ≤ 4000000) :
    Calls Try.prog 28 #[.slice a ds.length c, .int .i64 (k : Int)] w fun e w' => e = .returned (.int .i64 ((k + 3 * ds.length : Nat) : Int)) ∧ Below w.heap.size w w' := by
  have H := Lib.hid h
  have M := Lib.hid hm
  clear h hm
  have hbw := cell_bw
  go_enter Try.func28, Try.ntmps28
  go_wp2
  go_loopw [1, 5] (fun q i wr => ∃ j q0 : Nat, j ≤ ds.length ∧ i = .int .i64 j ∧ q = .int .i64 (q0 : Int) ∧ q0 = k + 3 * j ∧ Below w.heap.size w wr) (fun _ i _ => ds.length - (intOf i).toNat)
  case atStart => exact ⟨0, k, Nat.zero_le _, rfl, rfl, by omega, Below.refl _ _⟩
  case round =>
    obtain ⟨j, q0, hj, rfl, rfl, hq, hB⟩ := hrel
    have Q := Lib.hid hq
    have BB := Lib.hid hB
    by_cases hkl : j < ds.length
    · have hd : decide ((j : Int) < (ds.length : Int)) = true := by simpa using hkl
      have qb : q0 ≤ 4000000 := by omega
      have i1 : (0 : Int) ≤ (j : Int) := by omega
      have i2 : (j : Int) < (ds.length : Int) := by omega
      obtain ⟨b, o, rfl, hb, c0, c1, c2⟩ := H.out j hkl
      have e := M.out j hkl
      rw [← hq] at e
      rw [e] at c0 c1 c2
      have d0 := (hB.cell (p := ⟨b, o + j * 3, none⟩) hb).trans c0
      have d1 := (hB.cell (p := ⟨b, o + j * 3 + 1, none⟩) hb).trans c1
      have d2 := (hB.cell (p := ⟨b, o + j * 3 + 2, none⟩) hb).trans c2
      simp only [mkC] at d0 d1 d2
      have y : b < wr.heap.size := Nat.lt_of_lt_of_le hb hB.size
      have K := Lib.hid fun W => markText_is q0 qb W
      have x1 : IntKind.i64.wrap ((q0 : Int) + 1) = (q0 : Int) + 1 := IntWalk.i64_in _ (by omega)
      have x2 : IntKind.i64.wrap ((q0 : Int) + 1 + 1) = (q0 : Int) + 1 + 1 := IntWalk.i64_in _ (by omega)
      have x3 : IntKind.i64.wrap ((q0 : Int) + 1 + 1 + 1) = (q0 : Int) + 1 + 1 + 1 := IntWalk.i64_in _ (by omega)
      have x4 : IntKind.u64.wrap ((q0 : Int) + 1) = (q0 : Int) + 1 := IntWalk.u64_in _ (by omega)
      have x5 : IntKind.u64.wrap ((q0 : Int) + 1 + 1) = (q0 : Int) + 1 + 1 := IntWalk.u64_in _ (by omega)
      have n1 : ((q0 : Int) + 1 != (q0 : Int) + 1) = false := by simp
      have n2 : ((q0 : Int) + 1 + 1 != (q0 : Int) + 1 + 1) = false := by simp
      clear hq hB c0 c1 c2 e
      generalize mtext q0 = s at *
      have n3 : (s.toList != s.toList) = false := by simp
      go_wp2_with fail
      refine region_bw (by kernel_rfl) (by kernel_rfl) ?_
      repeat (go_big_quiet_step (first | (go_at_call 78; exact calls_bw (K.out _))))
      refine wpQuiet_nil ?_; intro wq hq; replace hq := below_of_bw hq; obtain ⟨qc, qf, qz⟩ := bcell hq
      have B2 := Lib.hid (BB.out.trans (hq.mono BB.out.size))
      have t1 := (Below.cell hq (p := ⟨b, o + j * 3 + 1, none⟩) y).trans d1
      have t2 := (Below.cell hq (p := ⟨b, o + j * 3 + 2, none⟩) y).trans d2
      clear d0 d1 d2 hq qc qf qz hbw
      go_wp2_with fail
      refine wp_loop_rounds 3 ?_
      rw [rounds_succ]; go_wp2
      rw [rounds_succ]; go_wp2
      rw [rounds_succ]; go_wp2
      exact ⟨⟨j + 1, q0 + 3, hkl, by rw [Int.natCast_succ], by congr 1, by have := Q.out; omega, B2.out⟩, by (simp [intOf]) <;> omega⟩
    · have e : j = ds.length := by omega
      subst e
      have hd : decide ((ds.length : Int) < (ds.length : Int)) = false := by simp
      have hq2 := hq
      subst hq2
      clear hq hB
      go_wp2
      go_ret
      exact ⟨rfl, BB.out⟩
end Go.Proofs.Ytaiedpblfnaooab

namespace Go.Proofs.Ytaiedpblfnaooab
open Go.ChangeShapes Go.WideShapes Go.ChangeAt Go.RowKit

def dropTo (h : Int) (cs : List Cd) (k : Nat) : List Cd := (cs.take k).filter fun c => hasB c.a c.b h
def stayTo (h : Int) (cs : List Cd) (k : Nat) : List Cd := (cs.take k).filter fun c => !hasB c.a c.b h
theorem take_next {cs : List Cd} {k : Nat} (hk : k < cs.length) : cs.take (k + 1) = cs.take k ++ [cdAt cs k] := by
  rw [List.take_add_one, List.getElem?_eq_getElem hk]
  unfold cdAt
  rw [List.getD, List.getElem?_eq_getElem hk]
  rfl
theorem drop_yes {h : Int} {cs : List Cd} {k : Nat} (hk : k < cs.length) (e : hasB (cdAt cs k).a (cdAt cs k).b h = true) : dropTo h cs (k + 1) = dropTo h cs k ++ [cdAt cs k] ∧ stayTo h cs (k + 1) = stayTo h cs k := by
  unfold dropTo stayTo
  rw [take_next hk, List.filter_append, List.filter_append]
  simp [e]
theorem drop_no {h : Int} {cs : List Cd} {k : Nat} (hk : k < cs.length) (e : hasB (cdAt cs k).a (cdAt cs k).b h = false) : dropTo h cs (k + 1) = dropTo h cs k ∧ stayTo h cs (k + 1) = stayTo h cs k ++ [cdAt cs k] := by
  unfold dropTo stayTo
  rw [take_next hk, List.filter_append, List.filter_append]
  simp [e]
theorem dropTo_len (h : Int) (cs : List Cd) (k : Nat) : (dropTo h cs k).length ≤ k := Nat.le_trans (List.length_filter_le _ _) (by rw [List.length_take]; omega)
theorem stayTo_len (h : Int) (cs : List Cd) (k : Nat) : (stayTo h cs k).length ≤ k := Nat.le_trans (List.length_filter_le _ _) (by rw [List.length_take]; omega)

/-- A slice that is not nil, over cards of the call's own. -/
def Deck1 (B : Nat) (cs : List Cd) (v : Value) (w : World) : Prop := OwnCards B cs v w ∧ ∃ g c, v = .slice (some ⟨g, 0, none⟩) cs.length c
theorem deck1_none {w : World} {n B : Nat} {t : TypeId} (ht : t = 116) (hn : n = w.heap.size) (hB : B ≤ w.heap.size) : Deck1 B [] (.slice (some ⟨n, 0, none⟩) 0 0) (w.alloc (.cells #[] t)) := by
  subst hn ht
  exact ⟨World.ownsRow_made w #[] 0 hB (Nat.zero_le _) rfl, _, _, rfl⟩
theorem deck1_push {B : Nat} {cs : List Cd} {x : Cd} {v : Value} {w : World} (h : w.ownsRow B 116 3 v (cs.length + 1) (flatC cs ++ [.string x.s, .int .u64 x.a, .int .u64 x.b])) : Deck1 B (cs ++ [x]) v w := by
  have e : flatC (cs ++ [x]) = flatC cs ++ [.string x.s, .int .u64 x.a, .int .u64 x.b] := by rw [flatC_app]; rfl
  have l : (cs ++ [x]).length = cs.length + 1 := by simp
  have o : OwnCards B (cs ++ [x]) v w := by unfold OwnCards; rw [e, l]; exact h
  refine ⟨o, ?_⟩
  rcases h.2 with ⟨_, hz⟩ | ⟨g, cap, _, hv, _⟩
  · omega
  · exact ⟨g, cap, by rw [l]; exact hv⟩
theorem deck1_kept {B : Nat} {cs : List Cd} {v : Value} {w w' : World} (h : Deck1 B cs v w) (hb : Below w.heap.size w w') : Deck1 B cs v w' := ⟨ownCards_kept h.1 hb, h.2⟩
theorem row_grown {w w' : World} {B e k n : Nat} {v : Value} {r : Option Nat} {xs : List Value} (h : w.ownsRow B e k v n xs) (hg : w.grownBy w' r) (hne : ∀ j, v.ownBlock = some j → r ≠ some j) : w'.ownsRow B e k v n xs := by
  obtain ⟨h1, h2⟩ := h
  refine ⟨h1, ?_⟩
  rcases h2 with hn | ⟨b, cap, cur, rfl, hB, hb, rest⟩
  · exact .inl hn
  · exact .inr ⟨b, cap, cur, rfl, hB, (hg.block b (Array.getElem?_eq_some_iff.1 hb).1 (fun e => hne b rfl e.symm)).trans hb, rest⟩
theorem new3 (w : World) (x y z : Value) (t : TypeId) : ∀ j u, [x, y, z][j]? = some u → (w.alloc (.cells #[x, y, z] t)).cell? ((⟨w.heap.size, 0, none⟩ : Addr).add j) = some u := by
  intro j u h
  match j, h with
  | 0, h => simp at h; subst h; simp [Addr.add]
  | 1, h => simp at h; subst h; simp [Addr.add]
  | 2, h => simp at h; subst h; simp [Addr.add]
/-- Two slices lie in blocks of their own. -/
def Apart (v u : Value) : Prop := ∀ k, v.ownBlock = some k → u.ownBlock ≠ some k
theorem Apart.symm {v u : Value} (h : Apart v u) : Apart u v := fun k hk hv => h k hv hk
/-- Two decks, and a number. -/
def TwoR (xs ys : List Cd) (w : World) (e : Ending) (w' : World) : Prop := ∃ v u, e = .returned (.tuple #[v, u]) ∧ Deck1 w.heap.size xs v w' ∧ Deck1 w.heap.size ys u w' ∧ Apart v u ∧ Below w.heap.size w w'

set_option maxRecDepth 100000 in
set_option maxHeartbeats 3200000 in
theorem sSplit_any (ad : Option Addr) (cs : List Cd) (c : Nat) (h : Int) (h0 : 0 ≤ h) (h1 : h ≤ 95) (w : World) (hc : CardsIn w ad cs) (hn : cs.length ≤ 80) :
    Calls Try.prog 128 #[.slice ad cs.length c, .int .i64 h] w (TwoR (stayTo h cs cs.length) (dropTo h cs cs.length) w) := by
  obtain ⟨i0, hi, hz0, hz1, hz2⟩ := info_parts info_card
  have C := Lib.hid hc
  clear hc
  go_enter Try.func128, Try.ntmps128
  go_wp2
  go_loopw [6, 7, 8] (fun v u i wr => ∃ j : Nat, j ≤ cs.length ∧ i = .int .i64 j ∧ Deck1 w.heap.size (stayTo h cs j) v wr ∧ Deck1 w.heap.size (dropTo h cs j) u wr ∧ Apart v u ∧ Below w.heap.size w wr) (fun _ _ i _ => cs.length - (intOf i).toNat)
  case atStart => exact ⟨0, Nat.zero_le _, rfl, deck1_kept (deck1_none rfl rfl (Nat.le_refl _)) (below_new (Below.refl _ _) _), deck1_none rfl (by simp) (by simp), fun k hk hv => by simp [Value.ownBlock] at hk hv; omega, below_new (below_new (Below.refl _ _) _) _⟩
  case round =>
    obtain ⟨j, hj, rfl, hS, hD, hA, hB⟩ := hrel
    obtain ⟨gs, ks, rfl⟩ := hS.2
    obtain ⟨gd, kd, rfl⟩ := hD.2
    have SS := Lib.hid hS
    have DD := Lib.hid hD
    have AA := Lib.hid hA
    have BB := Lib.hid hB
    clear hS hD hA
    by_cases hjl : j < cs.length
    · have hd : decide ((j : Int) < (cs.length : Int)) = true := by simpa using hjl
      obtain ⟨⟨_, fa, fb⟩, b1, o1, rfl, hb1, p0, p1, p2⟩ := C.out j hjl
      have i1 : (0 : Int) ≤ (j : Int) := by omega
      have i2 : (j : Int) < (cs.length : Int) := by omega
      have K := fun W => sHas_any (cdAt cs j).a (cdAt cs j).b h fa fb h0 h1 W
      have yes := Lib.hid fun e => drop_yes (h := h) hjl e
      have no := Lib.hid fun e => drop_no (h := h) hjl e
      have e0 := (hB.cell (p := ⟨b1, o1 + j * 3, none⟩) hb1).trans p0
      have e1 := (hB.cell (p := ⟨b1, o1 + j * 3 + 1, none⟩) hb1).trans p1
      have e2 := (hB.cell (p := ⟨b1, o1 + j * 3 + 2, none⟩) hb1).trans p2
      have ls := stayTo_len h cs j
      have ld := dropTo_len h cs j
      clear hB p0 p1 p2 fa fb
      have yb : b1 < wr.heap.size := Nat.lt_of_lt_of_le hb1 BB.out.size
      cases hx : hasB (cdAt cs j).a (cdAt cs j).b h
      · rw [hx] at K
        have Y := Lib.hid (no.out hx)
        have K := Lib.hid K
        clear yes no hx
        generalize stayTo h cs j = xs at *
        generalize dropTo h cs j = ys at *
        generalize cdAt cs j = x at *
        obtain ⟨s, xa, xb⟩ := x
        simp only at e0 e1 e2 K Y
        go_wp2_with (first
          | (go_at_call 135; refine (K.out _).mono ?_; rintro e w2 ⟨rfl, hB2⟩; have S2 := Lib.hid (deck1_kept SS.out hB2); have D2 := Lib.hid (deck1_kept DD.out hB2); have B2 := Lib.hid (BB.out.trans (Below.mono hB2 BB.out.size)); have f0 := (hB2.cell (p := ⟨b1, o1 + j * 3, none⟩) yb).trans e0; have f1 := (hB2.cell (p := ⟨b1, o1 + j * 3 + 1, none⟩) yb).trans e1; have f2 := (hB2.cell (p := ⟨b1, o1 + j * 3 + 2, none⟩) yb).trans e2; have s2 := B2.out.size; clear hB2)
          | (at_builtin; refine wpList_append_two rfl _ _ 35 rfl w.heap.size 116 i0 (.agg #[.string ByteArray.empty, .int .u64 0, .int .u64 0]) 3 32 Try.underlying35 hi hz0 hz1 hz2 rfl (by decide) _ _ _ rfl (World.ownsRow.alloc S2.out.1 _) ⟨w2.heap.size, 0, none⟩ 1 1 [.string s, .int .u64 xa, .int .u64 xb] rfl rfl (new3 _ _ _ _ _) (fun x hx => by simp at hx; rcases hx with rfl | rfl | rfl <;> rfl) (by unfold maxLen; omega) (by omega) (by simp; omega) ?_; intro v' w4 hown hgrow hblk; have P := Lib.hid (deck1_push (x := ⟨s, xa, xb⟩) hown); have G := Lib.hid hgrow; have K4 := Lib.hid hblk; clear hown hgrow hblk))
        have T := Lib.hid (⟨row_grown (World.ownsRow.alloc D2.out.1 _) G.out (AA.out.symm), D2.out.2⟩ : Deck1 w.heap.size ys _ w4)
        have N : Apart v' (.slice (some ⟨gd, 0, none⟩) ys.length kd) := fun k hu hk => by
          rcases K4.out k hu with e | e
          · exact AA.out k e hk
          · have := (World.ownsRow.lt D2.out.1 k hk).2; simp at e; omega
        exact ⟨⟨j + 1, hjl, by rw [Int.natCast_succ], by rw [Y.out.2]; exact P.out, by rw [Y.out.1]; exact T.out, N, Below.grown (B2.out.alloc s2 _) G.out (by simp; omega) (fun k hk => (World.ownsRow.lt S2.out.1 k hk).1)⟩, by (simp [intOf]) <;> omega⟩
      · rw [hx] at K
        have Y := Lib.hid (yes.out hx)
        have K := Lib.hid K
        clear yes no hx
        generalize stayTo h cs j = xs at *
        generalize dropTo h cs j = ys at *
        generalize cdAt cs j = x at *
        obtain ⟨s, xa, xb⟩ := x
        simp only at e0 e1 e2 K Y
        go_wp2_with (first
          | (go_at_call 135; refine (K.out _).mono ?_; rintro e w2 ⟨rfl, hB2⟩; have S2 := Lib.hid (deck1_kept SS.out hB2); have D2 := Lib.hid (deck1_kept DD.out hB2); have B2 := Lib.hid (BB.out.trans (Below.mono hB2 BB.out.size)); have f0 := (hB2.cell (p := ⟨b1, o1 + j * 3, none⟩) yb).trans e0; have f1 := (hB2.cell (p := ⟨b1, o1 + j * 3 + 1, none⟩) yb).trans e1; have f2 := (hB2.cell (p := ⟨b1, o1 + j * 3 + 2, none⟩) yb).trans e2; have s2 := B2.out.size; clear hB2)
          | (at_builtin; refine wpList_append_two rfl _ _ 35 rfl w.heap.size 116 i0 (.agg #[.string ByteArray.empty, .int .u64 0, .int .u64 0]) 3 32 Try.underlying35 hi hz0 hz1 hz2 rfl (by decide) _ _ _ rfl (World.ownsRow.alloc D2.out.1 _) ⟨w2.heap.size, 0, none⟩ 1 1 [.string s, .int .u64 xa, .int .u64 xb] rfl rfl (new3 _ _ _ _ _) (fun x hx => by simp at hx; rcases hx with rfl | rfl | rfl <;> rfl) (by unfold maxLen; omega) (by omega) (by simp; omega) ?_; intro v' w4 hown hgrow hblk; have P := Lib.hid (deck1_push (x := ⟨s, xa, xb⟩) hown); have G := Lib.hid hgrow; have K4 := Lib.hid hblk; clear hown hgrow hblk))
        have T := Lib.hid (⟨row_grown (World.ownsRow.alloc S2.out.1 _) G.out (AA.out), S2.out.2⟩ : Deck1 w.heap.size xs _ w4)
        have N : Apart (.slice (some ⟨gs, 0, none⟩) xs.length ks) v' := fun k hk hu => by
          rcases K4.out k hu with e | e
          · exact AA.out k hk e
          · have := (World.ownsRow.lt S2.out.1 k hk).2; simp at e; omega
        exact ⟨⟨j + 1, hjl, by rw [Int.natCast_succ], by rw [Y.out.2]; exact T.out, by rw [Y.out.1]; exact P.out, N, Below.grown (B2.out.alloc s2 _) G.out (by simp; omega) (fun k hk => (World.ownsRow.lt D2.out.1 k hk).1)⟩, by (simp [intOf]) <;> omega⟩
    · have e : j = cs.length := by omega
      subst e
      have hd : decide ((cs.length : Int) < (cs.length : Int)) = false := by simp
      clear hB
      go_wp2
      go_ret2
      exact ⟨_, _, rfl, SS.out, DD.out, AA.out, BB.out⟩
end Go.Proofs.Ytaiedpblfnaooab

namespace Go.Proofs.Ytaiedpblfnaooab
open Go.ChangeShapes Go.WideShapes Go.ChangeAt Go.RowKit

def isHo (n : Int) : Bool := decide (0 ≤ n ∧ n ≤ 95)
theorem iHoleP {n : Int} {x : Bool} (h : isHo n = x) : Hid (∀ w : World, Calls Try.prog 130 #[.int .i64 n] w fun e w' => e = .returned (.bool x) ∧ w = w') := Lib.hid fun w => by
  subst h
  unfold isHo
  by_cases h0 : 0 ≤ n
  · have d0 : decide (0 ≤ n) = true := decide_eq_true h0
    by_cases h1 : n ≤ 95
    · have d1 : decide (n < 96) = true := decide_eq_true (by omega)
      rw [decide_eq_true ⟨h0, h1⟩]
      go_enter Try.func130, Try.ntmps130
      go_wp2
      go_returns
      exact ⟨rfl, rfl⟩
    · have d1 : decide (n < 96) = false := decide_eq_false (by omega)
      rw [decide_eq_false (fun q => h1 q.2)]
      go_enter Try.func130, Try.ntmps130
      go_wp2
      go_returns
      exact ⟨rfl, rfl⟩
  · have d0 : decide (0 ≤ n) = false := decide_eq_false h0
    rw [decide_eq_false (fun q => h0 q.1)]
    go_enter Try.func130, Try.ntmps130
    go_wp2
    go_returns
    exact ⟨rfl, rfl⟩
theorem sHoleP {n : Int} {x : Bool} (h : isHo n = x) : Hid (∀ w : World, Calls Try.prog 71 #[.int .i64 n] w fun e w' => e = .returned (.bool x) ∧ w = w') := Lib.hid fun w => by
  have hx : inB n 0 95 = x := by rw [← h]; unfold inB isHo; by_cases h0 : 0 ≤ n <;> by_cases h1 : n ≤ 95 <;> simp [h0, h1]
  have I := Lib.hid fun W => sIn_any n 0 95 W
  rw [hx] at I
  clear h hx
  go_enter Try.func71, Try.ntmps71
  go_wp2_with (go_at_call 118; refine (I.out _).mono ?_; rintro e w1 ⟨rfl, rfl⟩)
  go_returns
  exact ⟨rfl, rfl⟩

/-- The code of a deck and a hole. -/
def psC (ok : Bool) (h : Int) : Int := if ok then (if isHo h then 0 else 2) else 1
theorem ps_1 (h : Int) : psC false h = 1 := rfl
theorem ps_2 {h : Int} (e : isHo h = false) : psC true h = 2 := by unfold psC; rw [e]; rfl
theorem ps_0 {h : Int} (e : isHo h = true) : psC true h = 0 := by unfold psC; rw [e]; rfl
theorem isHo_in {h : Int} (e : isHo h = true) : 0 ≤ h ∧ h ≤ 95 := of_decide_eq_true e
/-- A deck, a number, a code. -/
def PsR (xs : List Cd) (n c : Int) (w : World) (e : Ending) (w' : World) : Prop := ∃ v, e = .returned (.tuple #[v, .int .i64 n, .int .i64 c]) ∧ OwnCards w.heap.size xs v w' ∧ Below w.heap.size w w'
def psL (h : Int) (cs : List Cd) (c : Int) : List Cd := if c = 0 then stayTo h cs cs.length ++ dropTo h cs cs.length else []
def psN (h : Int) (cs : List Cd) (c : Int) : Int := if c = 0 then (dropTo h cs cs.length).length else 0
theorem psL_no {h : Int} {cs : List Cd} {c : Int} (e : c ≠ 0) : psL h cs c = [] ∧ psN h cs c = 0 := ⟨if_neg e, if_neg e⟩
theorem psL_yes (h : Int) (cs : List Cd) : psL h cs 0 = stayTo h cs cs.length ++ dropTo h cs cs.length ∧ psN h cs 0 = (dropTo h cs cs.length).length := ⟨rfl, rfl⟩
theorem flatC_one : ∀ (cs : List Cd), ∀ u ∈ flatC cs, u.oneCell' = true
  | [], u, h => by cases h
  | c :: cs, u, h => by
    simp only [flatC, List.mem_cons] at h
    rcases h with rfl | rfl | rfl | h
    · rfl
    · rfl
    · rfl
    · exact flatC_one cs u h
theorem own_join {B : Nat} {xs ys : List Cd} {v : Value} {w : World} (h : w.ownsRow B 116 3 v (xs.length + ys.length) (flatC xs ++ flatC ys)) : OwnCards B (xs ++ ys) v w := by unfold OwnCards; rw [flatC_app, List.length_append]; exact h
theorem own_nilC {w : World} {B : Nat} {t : TypeId} (ht : t = 116) (hB : B ≤ w.heap.size) : OwnCards B [] (.slice (some ⟨w.heap.size, 0, none⟩) 0 0) (w.alloc (.cells #[] t)) := by
  subst ht
  exact World.ownsRow_made w #[] 0 hB (Nat.zero_le _) rfl


end Go.Proofs.Ytaiedpblfnaooab

namespace Go.Proofs.Ytaiedpblfnaooab
open Go.ChangeShapes Go.WideShapes Go.ChangeAt Go.RowKit

theorem qd_bit (a b h : Int) (ha : U64 a) (hb : U64 b) (h0 : 0 ≤ h) (h1 : h ≤ 95) : qdrop (b0 h) (b1 h) 0 0 a b = hasB a b h := by
  unfold qdrop allIn meetZ
  rw [within_bit a b h ha hb h0 h1, and_zero_left a ha, and_zero_left b hb]
  simp

theorem wpList_append_at {P : Program} {w : World} {ops : Array Oper} {rest : List Oper} {o : Oper} {a : Act} {Q : Exit → Act → World → Prop} (hgd : o.guard = none) (s x : Operand) (t : TypeId)
    (ho : o.op = .call { callee := .builtin .append, args := #[s, x], argTypes := #[t, t] }) (e : TypeId) (i : TypeInfo) (size : Nat) (ht : P.underlying t = some (.slice e)) (hi : P.info? e = some i) (hz : i.size = size)
    (b off n cap : Nat) (hs : a.eval s = .slice (some ⟨b, off, none⟩) n cap) (ad : Addr) (m c : Nat) (news : List Value) (hx : a.eval x = .slice (some ad) m c) (hl : news.length = m * size) (hnews : ∀ j u, news[j]? = some u → w.cell? (ad.add j) = some u) (h1 : ∀ u ∈ news, u.oneCell' = true)
    (hroom : n + m ≤ cap) (o' : Nat) (ho' : off + n * size = o') (hc : ∀ j, j < news.length → (w.cell? ⟨b, o' + j, none⟩).isSome = true ∧ w.frozen? ⟨b, o' + j, none⟩ = false)
    (h : wpList P ops Q rest (a.put o.dst (.slice (some ⟨b, off, none⟩) (n + m) cap)) (w.setCells b o' news)) : wpList P ops Q (o :: rest) a w := by
  subst hz
  subst ho'
  refine wpList_plain hgd fun K hK => ?_
  have hrun := run_append_room_cells (P := P) w t o.type e i ht hi b off n cap ad m c news hl hnews h1 hroom (fun j hj => (hc j hj).1) (fun j hj => (hc j hj).2)
  unfold Oper.wp
  simp [execOp, ho, resolve, invoke, builtin, hs, hx, hrun, Result.andThen]
  exact hK _ _ h
theorem spare3 {B g n cap i : Nat} {L : List Value} {w : World} (h : w.ownsRow B 116 3 (.slice (some ⟨g, 0, none⟩) n cap) n L) (hi : i < n) (o : Obj) : ∀ j, j < 3 → ((w.alloc o).cell? ⟨g, i * 3 + j, none⟩).isSome = true ∧ (w.alloc o).frozen? ⟨g, i * 3 + j, none⟩ = false := fun j hj => by
  have h2 := World.ownsRow.alloc h o
  refine ⟨?_, h2.frozenAt _⟩
  rw [h2.cellAt (i * 3 + j) (by omega), List.getElem?_eq_getElem (by rw [h.1]; omega)]
  rfl

theorem heap_put {g : Nat} (w : World) (o : Nat) (x y z : Value) (n : Nat) (hne : n ≠ g) : (w.setCells g o [x, y, z]).heap[n]? = w.heap[n]? := (Below.heap_setCell _ _ _ _ hne).trans ((Below.heap_setCell _ _ _ _ hne).trans (Below.heap_setCell _ _ _ _ hne))
theorem len_both (h : Int) (cs : List Cd) : ∀ j, j ≤ cs.length → (stayTo h cs j).length + (dropTo h cs j).length = j
  | 0, _ => rfl
  | j + 1, hj => by
    have ih := len_both h cs j (by omega)
    cases e : hasB (cdAt cs j).a (cdAt cs j).b h
    · rw [(drop_no (by omega) e).1, (drop_no (by omega) e).2, List.length_append]; simp; omega
    · rw [(drop_yes (by omega) e).1, (drop_yes (by omega) e).2, List.length_append]; simp; omega
theorem stay_mono (h : Int) (cs : List Cd) {j k : Nat} (hj : j ≤ k) : (stayTo h cs j).length ≤ (stayTo h cs k).length := by
  unfold stayTo
  have e : cs.take j = (cs.take k).take j := by rw [List.take_take, Nat.min_eq_left hj]
  rw [e]
  exact ((List.take_sublist j (cs.take k)).filter _).length_le
theorem drop_mono (h : Int) (cs : List Cd) {j k : Nat} (hj : j ≤ k) : (dropTo h cs j).length ≤ (dropTo h cs k).length := by
  unfold dropTo
  have e : cs.take j = (cs.take k).take j := by rw [List.take_take, Nat.min_eq_left hj]
  rw [e]
  exact ((List.take_sublist j (cs.take k)).filter _).length_le
/-- The block with the first part of both decks in it. -/
def mixTo (xs ys : List Cd) (ns nd : Nat) : List Cd := xs ++ (List.replicate (ns - xs.length) default ++ (ys ++ List.replicate (nd - ys.length) default))
theorem mix_len {xs ys : List Cd} {ns nd : Nat} (h1 : xs.length ≤ ns) (h2 : ys.length ≤ nd) : (mixTo xs ys ns nd).length = ns + nd := by unfold mixTo; simp; omega
theorem mix_front {xs ys : List Cd} {ns nd : Nat} (x : Cd) (h1 : xs.length < ns) : (mixTo xs ys ns nd).set xs.length x = mixTo (xs ++ [x]) ys ns nd := by
  unfold mixTo
  rw [List.set_append_right _ _ (Nat.le_refl _), Nat.sub_self, show ns - xs.length = (ns - (xs ++ [x]).length) + 1 by simp; omega, List.replicate_succ, List.cons_append, List.set_cons_zero]
  simp
theorem mix_back {xs ys : List Cd} {ns nd : Nat} (x : Cd) (h0 : xs.length ≤ ns) (h1 : ys.length < nd) : (mixTo xs ys ns nd).set (ns + ys.length) x = mixTo xs (ys ++ [x]) ns nd := by
  unfold mixTo
  rw [List.set_append_right _ _ (by omega), List.set_append_right _ _ (by simp; omega), List.set_append_right _ _ (by simp; omega), show ns + ys.length - xs.length - (List.replicate (ns - xs.length) (default : Cd)).length - ys.length = 0 by simp; omega, show nd - ys.length = (nd - (ys ++ [x]).length) + 1 by simp; omega, List.replicate_succ, List.set_cons_zero]
  simp
theorem mix_start (ns nd : Nat) : mixTo [] [] ns nd = List.replicate (ns + nd) default := by
  unfold mixTo; simp
theorem mix_end {xs ys : List Cd} : mixTo xs ys xs.length ys.length = xs ++ ys := by unfold mixTo; simp
theorem flat_def (n : Nat) : (madeCells #[.string ByteArray.empty, .int .u64 0, .int .u64 0] (n * 3)).toList = flatC (List.replicate n default) := by
  have e := rowC_zero (List.replicate n default)
  rw [List.length_replicate] at e
  rw [e]
  apply List.ext_getElem?
  intro i
  by_cases hi : i < n * 3
  · rw [rowC_get _ _ _ (by simpa using hi), if_neg (Nat.not_lt_zero _)]
    have g := flatC_get (List.replicate n default) (i / 3) (by simp; omega)
    have d : cdAt (List.replicate n default) (i / 3) = default := by unfold cdAt; rw [List.getD, List.getElem?_replicate]; split <;> rfl
    rw [d] at g
    rcases (show i % 3 = 0 ∨ i % 3 = 1 ∨ i % 3 = 2 by omega) with r | r | r
    · rw [show i = i / 3 * 3 by omega, g.1]; simp; rfl
    · rw [show i = i / 3 * 3 + 1 by omega, g.2.1, show (i / 3 * 3 + 1) % 3 = 1 by omega]; rfl
    · rw [show i = i / 3 * 3 + 2 by omega, g.2.2, show (i / 3 * 3 + 2) % 3 = 2 by omega]; rfl
  · rw [List.getElem?_eq_none (by rw [rowC_len]; simpa using Nat.le_of_not_lt hi), List.getElem?_eq_none (by rw [flatC_len]; simpa using Nat.le_of_not_lt hi)]
/-- Three cells of a block of the call's own are written at once. -/
theorem own_put {B g n cap : Nat} {L : List Cd} {w : World} (h : w.ownsRow B 116 3 (.slice (some ⟨g, 0, none⟩) n cap) n (flatC L)) (i : Nat) (x : Cd) : (w.setCells g (i * 3) [.string x.s, .int .u64 x.a, .int .u64 x.b]).ownsRow B 116 3 (.slice (some ⟨g, 0, none⟩) n cap) n (flatC (L.set i x)) := by
  have s0 := h.stored (i * 3) (.string x.s)
  have s1 := s0.1.stored (i * 3 + 1) (.int .u64 x.a)
  have s2 := s1.1.stored (i * 3 + 2) (.int .u64 x.b)
  rw [← flatC_set]
  exact s2.1

set_option maxRecDepth 100000 in
set_option maxHeartbeats 3200000 in
theorem iPassOnce_any (ad : Option Addr) (cs : List Cd) (c : Nat) (h : Int) (h0 : 0 ≤ h) (h1 : h ≤ 95) (w : World) (hc : CardsIn w ad cs) (hn : cs.length ≤ 80) :
    Calls Try.prog 163 #[.slice ad cs.length c, .int .i64 h] w fun e w' => ∃ g, e = .returned (.tuple #[.slice (some ⟨g, 0, none⟩) cs.length cs.length, .int .i64 ((stayTo h cs cs.length).length : Int)]) ∧ OwnCards w.heap.size (stayTo h cs cs.length ++ dropTo h cs cs.length) (.slice (some ⟨g, 0, none⟩) cs.length cs.length) w' ∧ Below w.heap.size w w' := by
  obtain ⟨i0, hi, hz0, hz1, hz2⟩ := info_parts info_card
  have hmf : ∀ (fn : Fn) (first cap : Array Value) (w : World), (Instr.makeFunc fn first cap).run Try.prog w = .ok (.func fn first cap) w := fun _ _ _ _ => rfl
  have C := Lib.hid hc
  have ON := Lib.hid fun W => iOne_any h h0 h1 W
  have DF := Lib.hid fun W => iDropsFor_x (b0 h) (b1 h) 0 0 W
  have DR := Lib.hid fun (x : Cd) (hx : x.fits) (b : Nat) (W : World) (hW : W.heap[b]? = some (.cells #[.int .u64 (b0 h), .int .u64 (b1 h), .int .u64 0, .int .u64 0] 82 (0, 0))) => (iDrop_any (b0 h) (b1 h) 0 0 x.a x.b b 0 W (by simpa using cell_of_block hW 0) (by simpa using cell_of_block hW 1) (by simpa using cell_of_block hW 2) (by simpa using cell_of_block hW 3)).mono fun e w' hh => (⟨hh.1.trans (by rw [qd_bit x.a x.b h hx.2.1 hx.2.2 h0 h1]), hh.2⟩ : e = .returned (.bool (hasB x.a x.b h)) ∧ Below W.heap.size W w')
  clear hc
  generalize b0 h = B0 at *
  generalize b1 h = B1 at *
  go_enter Try.func163, Try.ntmps163
  go_wp2_with (first
    | (go_at_call 131; refine (ON.out _).mono ?_; rintro e w1 ⟨rfl, hB⟩; have A1 := Lib.hid hB; clear hB)
    | (go_at_call 171; refine (DF.out _).mono ?_; rintro e w2 ⟨rfl, hE⟩; subst hE; have Q2 := Lib.hid (block_alloc w1 (.cells #[.int .u64 B0, .int .u64 B1, .int .u64 0, .int .u64 0] 82)); have A2 := Lib.hid (below_new A1.out (.cells #[.int .u64 B0, .int .u64 B1, .int .u64 0, .int .u64 0] 82))))
  generalize w1.heap.size = bq at *
  generalize w1.alloc (.cells #[.int .u64 B0, .int .u64 B1, .int .u64 0, .int .u64 0] 82) = w2 at *
  go_loopw [7, 21] (fun st i wr => ∃ j : Nat, j ≤ cs.length ∧ i = .int .i64 j ∧ st = .int .i64 ((stayTo h cs j).length : Int) ∧ wr.heap[bq]? = some (.cells #[.int .u64 B0, .int .u64 B1, .int .u64 0, .int .u64 0] 82 (0, 0)) ∧ Below w.heap.size w wr) (fun _ i _ => cs.length - (intOf i).toNat)
  case atStart => exact ⟨0, Nat.zero_le _, rfl, rfl, Q2.out, A2.out⟩
  case round =>
    obtain ⟨j, hj, rfl, rfl, hQ, hB⟩ := hrel
    have QQ := Lib.hid hQ
    have BB := Lib.hid hB
    clear hQ
    by_cases hjl : j < cs.length
    · have hd : decide ((j : Int) < (cs.length : Int)) = true := by simpa using hjl
      obtain ⟨hf, b1, o1, rfl, hb1, p0, p1, p2⟩ := C.out j hjl
      have d0 := (hB.cell (p := ⟨b1, o1 + j * 3, none⟩) hb1).trans p0
      have d1 := (hB.cell (p := ⟨b1, o1 + j * 3 + 1, none⟩) hb1).trans p1
      have d2 := (hB.cell (p := ⟨b1, o1 + j * 3 + 2, none⟩) hb1).trans p2
      have i1 : (0 : Int) ≤ (j : Int) := by omega
      have i2 : (j : Int) < (cs.length : Int) := by omega
      have ls := stayTo_len h cs j
      have v1 : IntKind.i64.wrap (((stayTo h cs j).length : Int) + 1) = ((stayTo h cs j).length : Int) + 1 := IntWalk.i64_in _ (by omega)
      have D := DR.out (cdAt cs j) hf
      have yes := Lib.hid fun e => (drop_yes (h := h) hjl e).2
      have no := Lib.hid fun e => (drop_no (h := h) hjl e).2
      clear hB p0 p1 p2 hf
      cases hx : hasB (cdAt cs j).a (cdAt cs j).b h
      · rw [hx] at D
        have Y := Lib.hid (no.out hx)
        have D := Lib.hid D
        clear yes no hx
        generalize stayTo h cs j = xs at *
        generalize cdAt cs j = x at *
        obtain ⟨s, xa, xb⟩ := x
        simp only at d0 d1 d2 D Y
        go_wp2_with (go_at_call 174; refine (D.out _ _ (Ab.block (below_new (Below.refl _ _) _) QQ.out)).mono ?_; rintro e w3 ⟨rfl, hB⟩; have A3 := Lib.hid (Ab.trans (below_new (Below.refl wr.heap.size wr) _) hB); clear hB)
        exact ⟨⟨j + 1, hjl, by rw [Int.natCast_succ], by rw [Y.out]; simp, Ab.block A3.out QQ.out, BB.out.trans (Below.mono A3.out BB.out.size)⟩, by (simp [intOf]) <;> omega⟩
      · rw [hx] at D
        have Y := Lib.hid (yes.out hx)
        have D := Lib.hid D
        clear yes no hx
        generalize stayTo h cs j = xs at *
        generalize cdAt cs j = x at *
        obtain ⟨s, xa, xb⟩ := x
        simp only at d0 d1 d2 D Y
        go_wp2_with (go_at_call 174; refine (D.out _ _ (Ab.block (below_new (Below.refl _ _) _) QQ.out)).mono ?_; rintro e w3 ⟨rfl, hB⟩; have A3 := Lib.hid (Ab.trans (below_new (Below.refl wr.heap.size wr) _) hB); clear hB)
        exact ⟨⟨j + 1, hjl, by rw [Int.natCast_succ], by rw [Y.out], Ab.block A3.out QQ.out, BB.out.trans (Below.mono A3.out BB.out.size)⟩, by (simp [intOf]) <;> omega⟩
    · have e : j = cs.length := by omega
      subst e
      have hd : decide ((cs.length : Int) < (cs.length : Int)) = false := by simp
      have ls := stayTo_len h cs cs.length
      clear hB
      generalize hns : (stayTo h cs cs.length).length = ns at *
      go_upto_region 10 with (at_make; refine wpList_make_full _ rfl _ _ 35 rfl wr.heap.size 116 i0 (.agg #[.string ByteArray.empty, .int .u64 0, .int .u64 0]) 3 Try.underlying35 hi hz0 hz1 _ _ _ _ cs.length rfl rfl rfl rfl (by rw [hz2]; omega) (by unfold maxLen; omega) (Nat.le_refl _) ?_; intro w4 hown hgrow; have M := Lib.hid hown; have G := Lib.hid hgrow; clear hown hgrow)
      have B4 := Lib.hid (Below.grown (Below.refl wr.heap.size wr) G.out (Nat.le_refl _) (fun j hj => by cases hj))
      have Q4 := Lib.hid (Ab.block B4.out QQ.out)
      have n1 : (0 : Int) ≤ (ns : Int) := by omega
      have n2 : (ns : Int) ≤ (cs.length : Int) := by omega
      have hbw := cell_bw
      refine region_bw (by kernel_rfl) (by kernel_rfl) ?_
      repeat (go_big_quiet_step (fail))
      refine wpQuiet_nil ?_; intro wq hq; replace hq := below_of_bw hq; obtain ⟨qc, qf, qz⟩ := bcell hq
      have tot := len_both h cs cs.length (Nat.le_refl _)
      rw [hns] at tot
      obtain ⟨nd, hnd⟩ : ∃ nd, (dropTo h cs cs.length).length = nd := ⟨_, rfl⟩
      rw [hnd] at tot
      have NS := Lib.hid hns
      have ND := Lib.hid hnd
      have R0 : wq.ownsRow wr.heap.size 116 3 (.slice (some ⟨wr.heap.size, 0, none⟩) cs.length cs.length) cs.length (flatC (mixTo [] [] ns nd)) := by
        rw [mix_start, tot, ← flat_def]
        exact ownsRow_below M.out hq
      have R5 := Lib.hid R0
      have B5 := Lib.hid ((BB.out.trans (Below.mono B4.out BB.out.size)).trans (Below.mono hq (BB.out.trans (Below.mono B4.out BB.out.size)).size))
      have Q5 := Lib.hid (Ab.block hq Q4.out)
      have hbq : bq < wr.heap.size := lt_of_block QQ.out
      have hg0 : w.heap.size ≤ wr.heap.size := BB.out.size
      have hba : ns < cs.length → (if cs.length = ns then some (⟨wr.heap.size, 0, none⟩ : Addr) else some ⟨wr.heap.size, ns * 3, none⟩) = some ⟨wr.heap.size, ns * 3, none⟩ := fun e => if_neg (by omega)
      have HBA := Lib.hid hba
      clear hns hnd R0 M G B4 Q4 hba hq qc qf qz hbw n1 n2 QQ BB
      generalize (if cs.length = ns then some (⟨wr.heap.size, 0, none⟩ : Addr) else some ⟨wr.heap.size, ns * 3, none⟩) = ba0 at *
      generalize wr.heap.size = g at *
      go_wp2
      go_loopw [11, 12, 47] (fun f b i W => ∃ j : Nat, j ≤ cs.length ∧ i = .int .i64 j ∧ f = .slice (some ⟨g, 0, none⟩) (stayTo h cs j).length ns ∧ (∃ ba, b = .slice ba (dropTo h cs j).length (cs.length - ns) ∧ (ns < cs.length → ba = some ⟨g, ns * 3, none⟩)) ∧ W.ownsRow g 116 3 (.slice (some ⟨g, 0, none⟩) cs.length cs.length) cs.length (flatC (mixTo (stayTo h cs j) (dropTo h cs j) ns nd)) ∧ W.heap[bq]? = some (.cells #[.int .u64 B0, .int .u64 B1, .int .u64 0, .int .u64 0] 82 (0, 0)) ∧ Below w.heap.size w W) (fun _ _ i _ => cs.length - (intOf i).toNat)
      case atStart => exact ⟨0, Nat.zero_le _, rfl, rfl, ⟨ba0, rfl, HBA.out⟩, R5.out, Q5.out, B5.out⟩
      case round =>
        obtain ⟨j, hj, rfl, rfl, ⟨ba, rfl, hba⟩, hR, hQ, hB⟩ := hrel
        have QQ := Lib.hid hQ
        have BB := Lib.hid hB
        have RR := Lib.hid hR
        clear hQ hR
        by_cases hjl : j < cs.length
        · have hd : decide ((j : Int) < (cs.length : Int)) = true := by simpa using hjl
          obtain ⟨hf, b1, o1, rfl, hb1, p0, p1, p2⟩ := C.out j hjl
          have d0 := (hB.cell (p := ⟨b1, o1 + j * 3, none⟩) hb1).trans p0
          have d1 := (hB.cell (p := ⟨b1, o1 + j * 3 + 1, none⟩) hb1).trans p1
          have d2 := (hB.cell (p := ⟨b1, o1 + j * 3 + 2, none⟩) hb1).trans p2
          have i1 : (0 : Int) ≤ (j : Int) := by omega
          have i2 : (j : Int) < (cs.length : Int) := by omega
          have m1 := stay_mono h cs (show j + 1 ≤ cs.length by omega)
          have m2 := drop_mono h cs (show j + 1 ≤ cs.length by omega)
          have s1 := stay_mono h cs (show j ≤ cs.length by omega)
          have t1 := drop_mono h cs (show j ≤ cs.length by omega)
          rw [NS.out] at m1 s1
          rw [ND.out] at m2 t1
          have s2 : (stayTo h cs j).length ≤ ns := s1
          have D := DR.out (cdAt cs j) hf
          have yes := Lib.hid fun e => drop_yes (h := h) hjl e
          have no := Lib.hid fun e => drop_no (h := h) hjl e
          clear hB p0 p1 p2 hf
          cases hx : hasB (cdAt cs j).a (cdAt cs j).b h
          · rw [hx] at D
            have Y := Lib.hid (no.out hx)
            have D := Lib.hid D
            have hlt : (stayTo h cs j).length < ns := by rw [(no.out hx).2, List.length_append] at m1; simp at m1; omega
            skip
            clear yes no hx m1 m2 s1 t1
            generalize stayTo h cs j = xs at *
            generalize dropTo h cs j = ys at *
            generalize cdAt cs j = x at *
            obtain ⟨s, xa, xb⟩ := x
            simp only at d0 d1 d2 D Y
            go_wp2_with (first
              | (go_at_call 174; refine (D.out _ _ (Ab.block (below_new (Below.refl _ _) _) QQ.out)).mono ?_; rintro e w3 ⟨rfl, hB⟩; have A3 := Lib.hid (Ab.trans (below_new (Below.refl wr.heap.size wr) _) hB); have N3 := cell_of_block (Ab.block hB (block_alloc wr _)); have q3 := lt_of_block (Ab.block hB (block_alloc wr _)); have R3 := Lib.hid (ownsRow_below RR.out A3.out); have B3 := Lib.hid (BB.out.trans (Below.mono A3.out BB.out.size)); have Q3 := Lib.hid (Ab.block A3.out QQ.out); clear hB)
              | (at_builtin; refine wpList_append_at rfl _ _ 35 rfl 116 i0 3 Try.underlying35 hi hz1 g 0 xs.length ns rfl ⟨w3.heap.size, 0, none⟩ 1 1 [.string s, .int .u64 xa, .int .u64 xb] rfl rfl (new3 _ _ _ _ _) (fun x hx => by simp at hx; rcases hx with rfl | rfl | rfl <;> rfl) (by omega) (xs.length * 3) (by omega) (spare3 R3.out (by omega) _) ?_))
            have P := own_put (World.ownsRow.alloc R3.out (.cells #[.string s, .int .u64 xa, .int .u64 xb] 116)) xs.length ⟨s, xa, xb⟩
            rw [mix_front _ hlt] at P
            have L3 := lt_of_block Q3.out
            exact ⟨⟨j + 1, hjl, by rw [Int.natCast_succ], by rw [Y.out.2, List.length_append]; rfl, ⟨ba, by rw [Y.out.1], hba⟩, by rw [Y.out.1, Y.out.2]; exact P, (heap_put _ _ _ _ _ _ (Nat.ne_of_lt hbq)).trans ((Below.heap_alloc _ _ _ L3).trans Q3.out), (((below_new B3.out _).setCell hg0 _).setCell hg0 _).setCell hg0 _⟩, by (simp [intOf]) <;> omega⟩
          · rw [hx] at D
            have Y := Lib.hid (yes.out hx)
            have D := Lib.hid D
            have hlt : (dropTo h cs j).length < nd := by rw [(yes.out hx).1, List.length_append] at m2; simp at m2; omega
            obtain rfl := hba (by omega)
            clear yes no hx m1 m2 s1 t1
            generalize stayTo h cs j = xs at *
            generalize dropTo h cs j = ys at *
            generalize cdAt cs j = x at *
            obtain ⟨s, xa, xb⟩ := x
            simp only at d0 d1 d2 D Y
            go_wp2_with (first
              | (go_at_call 174; refine (D.out _ _ (Ab.block (below_new (Below.refl _ _) _) QQ.out)).mono ?_; rintro e w3 ⟨rfl, hB⟩; have A3 := Lib.hid (Ab.trans (below_new (Below.refl wr.heap.size wr) _) hB); have N3 := cell_of_block (Ab.block hB (block_alloc wr _)); have q3 := lt_of_block (Ab.block hB (block_alloc wr _)); have R3 := Lib.hid (ownsRow_below RR.out A3.out); have B3 := Lib.hid (BB.out.trans (Below.mono A3.out BB.out.size)); have Q3 := Lib.hid (Ab.block A3.out QQ.out); clear hB)
              | (at_builtin; refine wpList_append_at rfl _ _ 35 rfl 116 i0 3 Try.underlying35 hi hz1 g (ns * 3) ys.length (cs.length - ns) rfl ⟨w3.heap.size, 0, none⟩ 1 1 [.string s, .int .u64 xa, .int .u64 xb] rfl rfl (new3 _ _ _ _ _) (fun x hx => by simp at hx; rcases hx with rfl | rfl | rfl <;> rfl) (by omega) ((ns + ys.length) * 3) (by omega) (spare3 R3.out (by omega) _) ?_))
            have P := own_put (World.ownsRow.alloc R3.out (.cells #[.string s, .int .u64 xa, .int .u64 xb] 116)) (ns + ys.length) ⟨s, xa, xb⟩
            rw [mix_back _ s2 hlt] at P
            have L3 := lt_of_block Q3.out
            exact ⟨⟨j + 1, hjl, by rw [Int.natCast_succ], by rw [Y.out.2], ⟨_, by rw [Y.out.1, List.length_append]; rfl, fun _ => rfl⟩, by rw [Y.out.1, Y.out.2]; exact P, (heap_put _ _ _ _ _ _ (Nat.ne_of_lt hbq)).trans ((Below.heap_alloc _ _ _ L3).trans Q3.out), (((below_new B3.out _).setCell hg0 _).setCell hg0 _).setCell hg0 _⟩, by (simp [intOf]) <;> omega⟩
        · have e : j = cs.length := by omega
          subst e
          have hd : decide ((cs.length : Int) < (cs.length : Int)) = false := by simp
          clear hB
          have R9 := RR.out
          rw [← NS.out, ← ND.out, mix_end] at R9
          have L9 : cs.length = (stayTo h cs cs.length ++ dropTo h cs cs.length).length := by rw [List.length_append, NS.out, ND.out, tot]
          have O9 : OwnCards w.heap.size (stayTo h cs cs.length ++ dropTo h cs cs.length) (.slice (some ⟨g, 0, none⟩) cs.length cs.length) wr := by
            refine ownCards_weaken (B := g) ?_ hg0
            unfold OwnCards
            rw [← L9]
            exact R9
          have O9 := Lib.hid O9
          clear R9 L9
          go_wp2
          go_ret2
          exact ⟨g, by rw [NS.out]; rfl, O9.out, BB.out⟩
end Go.Proofs.Ytaiedpblfnaooab

namespace Go.Proofs.Ytaiedpblfnaooab
open Go.ChangeShapes Go.WideShapes Go.ChangeAt Go.RowKit
attribute [local go_sem] Oper.semAt_some

/-- The deck behind one pass. -/
def onePass (h : Int) (cs : List Cd) : List Cd := stayTo h cs cs.length ++ dropTo h cs cs.length
/-- The deck behind the first k passes. -/
def pmTo (cs : List Cd) (hs : List Int) : Nat → List Cd
  | 0 => cs
  | k + 1 => onePass (hs.getD k 0) (pmTo cs hs k)
theorem onePass_len (h : Int) (cs : List Cd) : (onePass h cs).length = cs.length := by
  unfold onePass
  rw [List.length_append]
  exact len_both h cs cs.length (Nat.le_refl _)
theorem pmTo_len (cs : List Cd) (hs : List Int) : ∀ k, (pmTo cs hs k).length = cs.length
  | 0 => rfl
  | k + 1 => (onePass_len _ _).trans (pmTo_len cs hs k)
theorem mem_onePass {h : Int} {cs : List Cd} {x : Cd} (hx : x ∈ onePass h cs) : x ∈ cs := by
  unfold onePass stayTo dropTo at hx
  rw [List.take_length] at hx
  rcases List.mem_append.1 hx with hx | hx <;> exact (List.mem_filter.1 hx).1
theorem mem_pmTo {cs : List Cd} {hs : List Int} {x : Cd} : ∀ k, x ∈ pmTo cs hs k → x ∈ cs
  | 0, h => h
  | k + 1, h => mem_pmTo k (mem_onePass h)
theorem pm_fits {cs : List Cd} (hs : List Int) (hf : ∀ i, i < cs.length → (cdAt cs i).fits) (k : Nat) : ∀ i, i < (pmTo cs hs k).length → (cdAt (pmTo cs hs k) i).fits := fun i hi => by
  have hm : cdAt (pmTo cs hs k) i ∈ pmTo cs hs k := by
    unfold cdAt
    rw [List.getD, List.getElem?_eq_getElem hi]
    exact List.getElem_mem hi
  obtain ⟨j, hj, he⟩ := List.mem_iff_getElem.1 (mem_pmTo k hm)
  have := hf j hj
  unfold cdAt at this
  rw [List.getD, List.getElem?_eq_getElem hj] at this
  rw [← he]
  exact this

theorem cells_of {w : World} {b o : Nat} {v : Value} (h : w.cell? ⟨b, o, none⟩ = some v) : ∃ c t r, w.heap[b]? = some (.cells c t r) := by
  unfold World.cell? at h
  cases e : w.heap[b]? with
  | none => simp [e] at h
  | some x => cases x <;> simp [e] at h <;> exact ⟨_, _, _, rfl⟩
theorem cell_sameW {A B : World} {b o : Nat} (h : B.heap[b]? = A.heap[b]?) : B.cell? ⟨b, o, none⟩ = A.cell? ⟨b, o, none⟩ := by unfold World.cell?; simp only [h]
/-- What a round keeps: all cells but those of one block. -/
def KpL (b : Nat) (A B : World) : Prop := A.heap.size ≤ B.heap.size ∧ ∀ k c t r, A.heap[k]? = some (.cells c t r) → k ≠ b → B.heap[k]? = A.heap[k]?
theorem KpL.trans {b : Nat} {A B C : World} (h : KpL b A B) (k : KpL b B C) : KpL b A C := ⟨Nat.le_trans h.1 k.1, fun j c t r hj hne => by
  have e := h.2 j c t r hj hne
  exact (k.2 j c t r (e.trans hj) hne).trans e⟩
theorem KpL.put {b : Nat} (A : World) (k : Nat) (o o' : Obj) (hk : A.heap[k]? = some o) (ho : o.isCells = false) : KpL b A (A.putObj k o') := ⟨by simp, fun j c t r hj _ => by
  refine World.putObj_heap_other ?_
  rintro rfl
  rw [hk] at hj
  cases hj
  cases ho⟩
theorem KpL.cell {b k o : Nat} {v : Value} {A B : World} (h : KpL b A B) (hc : A.cell? ⟨k, o, none⟩ = some v) (hne : k ≠ b) : B.cell? ⟨k, o, none⟩ = some v := by
  obtain ⟨c, t, r, hb⟩ := cells_of hc
  exact (cell_sameW (h.2 k c t r hb hne)).trans hc
theorem KpL.cards {b : Nat} {a : Option Addr} {cs : List Cd} {A B : World} (h : KpL b A B) (hc : CardsIn A a cs) (hne : ∀ k o, a = some ⟨k, o, none⟩ → k ≠ b) : CardsIn B a cs := fun i hi => by
  obtain ⟨hf, k, o, ha, hlt, h0, h1, h2⟩ := hc i hi
  have q := hne k o ha
  exact ⟨hf, k, o, ha, Nat.lt_of_lt_of_le hlt h.1, h.cell h0 q, h.cell h1 q, h.cell h2 q⟩
theorem KpL.ints {b : Nat} {a : Option Addr} {zs : List Int} {A B : World} (h : KpL b A B) (hc : IntsIn A a zs) (hne : ∀ k o, a = some ⟨k, o, none⟩ → k ≠ b) : IntsIn B a zs := fun i hi => by
  obtain ⟨k, o, ha, hlt, h0⟩ := hc i hi
  exact ⟨k, o, ha, Nat.lt_of_lt_of_le hlt h.1, h.cell h0 (hne k o ha)⟩
theorem KpL.of_below {b : Nat} {A B : World} (h : Below A.heap.size A B) : KpL b A B := ⟨h.size, fun k _ _ _ hk _ => h.block k (Array.getElem?_eq_some_iff.1 hk).1⟩
theorem KpL.set {b : Nat} (A : World) (j : Nat) (v : Value) : KpL b A (A.setCell ⟨b, j, none⟩ v) := ⟨by simp, fun k _ _ _ _ hne => Below.heap_setCell _ _ _ _ hne⟩
end Go.Proofs.Ytaiedpblfnaooab

namespace Go.Proofs.Ytaiedpblfnaooab
open Go.ChangeShapes Go.WideShapes Go.ChangeAt Go.RowKit
attribute [local go_sem] Oper.semAt_some

/-- What is told of the deck behind a pass. -/
def AskP (B : Nat) (cs : List Cd) (hs : List Int) (pre : List Nat) (g : Nat) (W : World) : Prop := pre.length < hs.length ∧ OwnCards B (pmTo cs hs (pre.length + 1)) (.slice (some ⟨g, 0, none⟩) cs.length cs.length) W

set_option maxRecDepth 100000 in
set_option maxHeartbeats 2000000 in
theorem passes_by (d1 d2 b : Nat) (ad hd : Option Addr) (cs : List Cd) (hs : List Int) (c ch : Nat) (w : World) (l1 : d1 < w.heap.size) (l2 : d2 < w.heap.size) (c1 : w.cell? ⟨d1, 0, none⟩ = some (.slice ad cs.length c)) (c2 : w.cell? ⟨d2, 0, none⟩ = some (.slice hd hs.length ch))
    (hC : CardsIn w ad cs) (hH : IntsIn w hd hs) (nb : cs.length ≤ 80) (nh : hs.length ≤ 1048576) (ok : ∀ i, i < hs.length → 0 ≤ hs.getD i 0 ∧ hs.getD i 0 ≤ 95) (ab : ∀ k o, ad = some ⟨k, o, none⟩ → k ≠ b) (hb : ∀ k o, hd = some ⟨k, o, none⟩ → k ≠ b) (bl : b < w.heap.size) :
    SeqByW Try.prog 162 #[.pointer (some ⟨d1, 0, none⟩), .pointer (some ⟨d2, 0, none⟩)] (fun g : Nat => #[.slice (some ⟨g, 0, none⟩) cs.length cs.length]) (KpL b) (fun A B => Below A.heap.size A B)
      (fun xs => xs.length = hs.length) (fun _ => True) (AskP w.heap.size cs hs) (fun _ => True) w := by
  intro l J Jx W hW hJ hJx _ hY h0
  have C1 := (hW.cell (p := ⟨d1, 0, none⟩) l1).trans c1
  have C2 := (hW.cell (p := ⟨d2, 0, none⟩) l2).trans c2
  have L1 : d1 < W.heap.size := Nat.lt_of_lt_of_le l1 hW.size
  have L2 : d2 < W.heap.size := Nat.lt_of_lt_of_le l2 hW.size
  have E1 := Lib.hid (cardsIn_below hC hW)
  have I1 := Lib.hid (intsIn_below hH hW)
  have SZ := Lib.hid (show w.heap.size ≤ W.heap.size from hW.size)
  have FT := Lib.hid (pm_fits hs fun i hi => (hC i hi).1)
  have OK := Lib.hid ok
  have NB := Lib.hid nb
  have AB := Lib.hid ab
  have HB := Lib.hid hb
  have HY := Lib.hid hY
  have HJ := Lib.hid hJ
  have J0 := Lib.hid h0
  clear hW hC hH c1 c2 l1 l2 ok nb ab hb hY hJ h0
  refine callsIn_of_wp Try.func162 rfl trivial ?_ rfl
  simp only [Try.ntmps162, List.size_toArray, List.length_cons, List.length_nil, Nat.reduceAdd, Nat.reduceSub, Array.replicate_succ, Array.replicate_zero, List.push_toArray, List.append_toArray, List.nil_append, List.cons_append]
  gi_wp2
  gi_loopw [4, 10] (fun now i wr => ∃ (k : Nat) (pre : List Nat) (a : Option Addr) (cc : Nat), k ≤ hs.length ∧ i = .int .i64 k ∧ now = .slice a cs.length cc ∧ pre.length = k ∧ J pre wr ∧ CardsIn wr a (pmTo cs hs k) ∧ (∀ m o, a = some ⟨m, o, none⟩ → m ≠ b) ∧ IntsIn wr hd hs ∧ w.heap.size ≤ wr.heap.size) (fun _ i _ => hs.length - (intOf i).toNat)
  case atStart => exact ⟨0, [], ad, c, Nat.zero_le _, rfl, rfl, rfl, J0.out, E1.out, AB.out, I1.out, SZ.out⟩
  case round =>
    obtain ⟨k, pre, a, cc, hk, rfl, rfl, hp, hJp, hCk, hab, hI, hz⟩ := hrel
    have JP := Lib.hid hJp
    have PL := Lib.hid hp
    have CK := Lib.hid hCk
    have AK := Lib.hid hab
    have IK := Lib.hid hI
    have ZK := Lib.hid hz
    clear hJp hp hCk hab hI hz E1 I1 SZ J0 AB C1 C2
    by_cases hkl : k < hs.length
    · have hdd : decide ((k : Int) < (hs.length : Int)) = true := by simpa using hkl
      obtain ⟨b1, o1, rfl, hb1, p0⟩ := IK.out k hkl
      have i1 : (0 : Int) ≤ (k : Int) := by omega
      have i2 : (k : Int) < (hs.length : Int) := by omega
      have P := iPassOnce_any a (pmTo cs hs k) cc (hs.getD k 0) (OK.out k hkl).1 (OK.out k hkl).2 wr CK.out (by rw [pmTo_len]; exact NB.out)
      rw [show stayTo (hs.getD k 0) (pmTo cs hs k) (pmTo cs hs k).length ++ dropTo (hs.getD k 0) (pmTo cs hs k) (pmTo cs hs k).length = pmTo cs hs (k + 1) from rfl] at P
      generalize ((stayTo (hs.getD k 0) (pmTo cs hs k) (pmTo cs hs k).length).length : Int) = st at P
      rw [pmTo_len] at P
      have P := Lib.hid P
      generalize hs.getD k 0 = h at *
      gi_wp2_with (refine ⟨trivial, rfl, ?_⟩; gi_at_call 163; refine (callsIn_wide.2 P.out).mono ?_; rintro e w9 ⟨g, rfl, hO, hB⟩; have O9 := Lib.hid hO; have B9 := Lib.hid hB; have J9 := HJ.out _ _ _ JP.out hB; have gl := (World.ownsRow.lt hO g rfl).1; have gb : g ≠ b := (by have := ZK.out; omega); obtain ⟨fn, tmps, assign, body, hy, hR⟩ := HY.out pre g w9 J9 ⟨by rw [PL.out]; exact hkl, by rw [PL.out]; exact ownCards_weaken hO ZK.out⟩; have hy2 : (Instr.yield l #[.slice (some ⟨g, 0, none⟩) cs.length cs.length]).run Try.prog w9 = _ := hy; clear hB hO hy J9 gl)
      refine ⟨rfl, hR.mono ?_⟩
      rintro e W2 (⟨rfl, hJ2, hk2⟩ | ⟨rfl, hJ2⟩)
      · have E2 : Hid (CardsIn W2 (some ⟨g, 0, none⟩) (pmTo cs hs (k + 1))) := Lib.hid (by
          obtain ⟨a9, c9, hv, hc9⟩ := ownCards_in O9.out
          injection hv with e1 _ _
          subst e1
          exact hk2.cards (cardsIn_of hc9 (FT.out (k + 1))) (fun m o e => by cases e; exact gb))
        have I2 := Lib.hid (hk2.ints (intsIn_below IK.out B9.out) HB.out)
        have Z2 := Lib.hid (Nat.le_trans ZK.out (Nat.le_trans B9.out.size hk2.1))
        have J2 := Lib.hid hJ2
        have x1 : IntKind.i64.wrap ((k : Int) + 1) = (k : Int) + 1 := IntWalk.i64_in _ (by omega)
        clear hk2 hJ2
        gi_wp2
        exact ⟨⟨k + 1, pre ++ [g], some ⟨g, 0, none⟩, cs.length, hkl, by rw [Int.natCast_succ], rfl, by rw [List.length_append, PL.out]; rfl, J2.out, E2.out, fun m o e => (by cases e; exact gb), I2.out, Z2.out⟩, by (simp [intOf]) <;> omega⟩
      · have J2 := Lib.hid hJ2
        clear hJ2
        gi_wp2
        first | go_end0 | refine bodyPost_ret (results_none rfl _ _ _) rfl ?_
        exact ⟨⟨_, rfl⟩, .inr ⟨_, trivial, J2.out⟩⟩
    · have e : k = hs.length := by omega
      subst e
      have hdd : decide ((hs.length : Int) < (hs.length : Int)) = false := by simp
      gi_wp2
      first | go_end0 | refine bodyPost_ret (results_none rfl _ _ _) rfl ?_
      exact ⟨⟨_, rfl⟩, .inl ⟨pre, PL.out, JP.out⟩⟩
end Go.Proofs.Ytaiedpblfnaooab

namespace Go.Proofs.Ytaiedpblfnaooab
open Go.ChangeShapes Go.WideShapes Go.ChangeAt Go.RowKit

/-- Cards at the front of a block of the call's own. -/
def RC (B : Nat) (xs : List Cd) (v : Value) (w : World) : Prop := (v = .slice none 0 0 ∧ xs = []) ∨ ∃ g c cs cap, v = .slice (some ⟨g, 0, none⟩) xs.length c ∧ B ≤ g ∧ xs.length ≤ cs.length ∧ cs.take xs.length = xs ∧ OwnCards B cs (.slice (some ⟨g, 0, none⟩) cs.length cap) w
theorem rc_own {B : Nat} {xs : List Cd} {v : Value} {w : World} (h : OwnCards B xs v w) : RC B xs v w := by
  have h0 := h
  rcases h.2 with ⟨rfl, hn⟩ | ⟨g, cap, cur, rfl, hb, _⟩
  · exact .inl ⟨rfl, List.length_eq_zero_iff.1 hn⟩
  · exact .inr ⟨g, cap, xs, cap, rfl, hb, Nat.le_refl _, List.take_of_length_le (Nat.le_refl _), h0⟩
theorem cd_take {cs : List Cd} {m i : Nat} (h : i < m) : cdAt (cs.take m) i = cdAt cs i := by
  unfold cdAt; rw [List.getD, List.getD, List.getElem?_take, if_pos h]
theorem rc_in {B : Nat} {xs : List Cd} {v : Value} {w : World} (h : RC B xs v w) : ∃ a c, v = .slice a xs.length c ∧ CellsC w a xs := by
  rcases h with ⟨rfl, rfl⟩ | ⟨g, c, cs, cap, rfl, _, hl, ht, ho⟩
  · exact ⟨none, 0, rfl, fun i hi => absurd hi (Nat.not_lt_zero _)⟩
  · refine ⟨_, c, rfl, fun i hi => ?_⟩
    obtain ⟨a, c', hv, hc⟩ := ownCards_in ho
    cases hv
    obtain ⟨b, off, ha, hb, h0, h1, h2⟩ := hc i (Nat.lt_of_lt_of_le hi hl)
    have e : cdAt xs i = cdAt cs i := by rw [← ht]; exact cd_take hi
    exact ⟨b, off, ha, hb, by rw [e]; exact h0, by rw [e]; exact h1, by rw [e]; exact h2⟩
theorem rc_kept {B : Nat} {xs : List Cd} {v : Value} {w w' : World} {row : Option Nat} (h : RC B xs v w) (hg : w.grownBy w' row) (hne : v.ownBlock = none ∨ v.ownBlock ≠ row) : RC B xs v w' := by
  rcases h with h | ⟨g, c, cs, cap, rfl, hb, hl, ht, ho⟩
  · exact .inl h
  · exact .inr ⟨g, c, cs, cap, rfl, hb, hl, ht, World.ownsRow.kept ho hg hne⟩
theorem rc_below {B : Nat} {xs : List Cd} {v : Value} {w w' : World} (h : RC B xs v w) (hb : Below w.heap.size w w') : RC B xs v w' := by
  rcases h with h | ⟨g, c, cs, cap, rfl, hg, hl, ht, ho⟩
  · exact .inl h
  · exact .inr ⟨g, c, cs, cap, rfl, hg, hl, ht, ownCards_kept ho hb⟩
theorem rc_oth {B g : Nat} {xs : List Cd} {v : Value} {w w' : World} (h : RC B xs v w) (hb : Oth g w w') (hg : g < B) : RC B xs v w' := by
  rcases h with h | ⟨g', c, cs, cap, rfl, hg', hl, ht, ho⟩
  · exact .inl h
  · exact .inr ⟨g', c, cs, cap, rfl, hg', hl, ht, ownCards_oth ho hb hg⟩
theorem rc_less {B C : Nat} {xs : List Cd} {v : Value} {w : World} (h : RC B xs v w) (hc : C ≤ B) : RC C xs v w := by
  rcases h with h | ⟨g, c, cs, cap, rfl, hg, hl, ht, ho⟩
  · exact .inl h
  · exact .inr ⟨g, c, cs, cap, rfl, Nat.le_trans hc hg, hl, ht, ownCards_weaken ho hc⟩
theorem rc_lt {B : Nat} {xs : List Cd} {v : Value} {w : World} (h : RC B xs v w) : ∀ j, v.ownBlock = some j → B ≤ j := by
  rcases h with ⟨rfl, _⟩ | ⟨g, c, cs, cap, rfl, hg, _⟩
  · intro j hj; cases hj
  · intro j hj; cases hj; exact hg

set_option maxRecDepth 100000 in
set_option maxHeartbeats 3200000 in
theorem markFront_any (B g cap c n : Nat) (cs : List Cd) (k : Nat) (w : World) (O : OwnCards B cs (.slice (some ⟨g, 0, none⟩) cs.length cap) w) (hm : n ≤ cs.length) (hk : k + 3 * n ≤ 4000000) :
    Calls Try.prog 26 #[.slice (some ⟨g, 0, none⟩) n c, .int .i64 (k : Int)] w fun e w' => e = .returned (.int .i64 ((k + 3 * n : Nat) : Int)) ∧ (∃ ds, ds.length = cs.length ∧ Marked k n ds ∧ OwnCards B ds (.slice (some ⟨g, 0, none⟩) ds.length cap) w') ∧ Oth g w w' := by
  have OW := Lib.hid O
  clear O
  obtain ⟨N, hn⟩ : ∃ N, cs.length = N := ⟨_, rfl⟩
  have NM := Lib.hid (show n ≤ N by omega)
  rw [hn]
  have NN := Lib.hid hn
  clear hn hm
  go_enter Try.func26, Try.ntmps26
  go_wp2
  go_loopw [1, 5] (fun q i wr => ∃ (j q0 : Nat) (ds : List Cd), j ≤ n ∧ i = .int .i64 j ∧ q = .int .i64 (q0 : Int) ∧ q0 = k + 3 * j ∧ ds.length = N ∧ Marked k j ds ∧ OwnCards B ds (.slice (some ⟨g, 0, none⟩) ds.length cap) wr ∧ Oth g w wr) (fun _ i _ => n - (intOf i).toNat)
  case atStart => exact ⟨0, k, cs, Nat.zero_le _, rfl, rfl, by omega, NN.out, fun l hl => absurd hl (Nat.not_lt_zero _), OW.out, Oth.refl _ _⟩
  case round =>
    obtain ⟨j, q0, ds, hj, rfl, rfl, hq, hds, hM, hO, hB⟩ := hrel
    have Q := Lib.hid hq
    have DS := Lib.hid hds
    have MM := Lib.hid hM
    have OO := Lib.hid hO
    have BB := Lib.hid hB
    have gl : g < wr.heap.size := (World.ownsRow.lt hO g rfl).2
    by_cases hkl : j < n
    · have hd : decide ((j : Int) < (n : Int)) = true := by simpa using hkl
      have qb : q0 ≤ 4000000 := by omega
      have i1 : (0 : Int) ≤ (j : Int) := by omega
      have i2 : (j : Int) < (n : Int) := by omega
      have hjd : j < ds.length := by have := NM.out; omega
      have g3 := flatC_get ds j hjd
      have r0 := (World.ownsRow.cellAt hO (j * 3) (by omega)).trans g3.1
      have r1 := (World.ownsRow.cellAt hO (j * 3 + 1) (by omega)).trans g3.2.1
      have r2 := (World.ownsRow.cellAt hO (j * 3 + 2) (by omega)).trans g3.2.2
      have FZ := Lib.hid (fun j => World.ownsRow.frozenAt hO j)
      have R0 := Lib.hid r0
      have R1 := Lib.hid r1
      have R2 := Lib.hid r2
      have JD := Lib.hid hjd
      have K := Lib.hid fun W => markText_is q0 qb W
      have NX := Lib.hid (marked_next hM hjd)
      have ST := Lib.hid (flatC_set ds j (mkC (k + 3 * j)))
      have QM := Lib.hid (show mkC (k + 3 * j) = ⟨mtext q0, (q0 : Int) + 1, (q0 : Int) + 1 + 1⟩ by rw [← hq]; rfl)
      have x1 : IntKind.i64.wrap ((q0 : Int) + 1) = (q0 : Int) + 1 := IntWalk.i64_in _ (by omega)
      have x2 : IntKind.i64.wrap ((q0 : Int) + 1 + 1) = (q0 : Int) + 1 + 1 := IntWalk.i64_in _ (by omega)
      have x3 : IntKind.i64.wrap ((q0 : Int) + 1 + 1 + 1) = (q0 : Int) + 1 + 1 + 1 := IntWalk.i64_in _ (by omega)
      have x4 : IntKind.u64.wrap ((q0 : Int) + 1) = (q0 : Int) + 1 := IntWalk.u64_in _ (by omega)
      have x5 : IntKind.u64.wrap ((q0 : Int) + 1 + 1) = (q0 : Int) + 1 + 1 := IntWalk.u64_in _ (by omega)
      clear hq hds hM hO hB r0 r1 r2 g3 hjd
      generalize mtext q0 = s at *
      go_wp2_with (go_at_call 78; refine (K.out _).mono ?_; rintro e w2 ⟨rfl, hB⟩; have t0 := (hB.cell (p := ⟨g, j * 3, none⟩) gl).trans R0.out; have t1 := (hB.cell (p := ⟨g, j * 3 + 1, none⟩) gl).trans R1.out; have t2 := (hB.cell (p := ⟨g, j * 3 + 2, none⟩) gl).trans R2.out; have u : ∀ j, w2.frozen? ⟨g, j, none⟩ = false := (fun j => (hB.frozen (p := ⟨g, j, none⟩) gl).trans (FZ.out j)); have O2 := Lib.hid (ownCards_kept OO.out hB); have B2 := Lib.hid (BB.out.trans (Oth.of hB)); clear hB)
      refine wp_loop_rounds 3 ?_
      rw [rounds_succ]; go_wp2
      rw [rounds_succ]; go_wp2
      rw [rounds_succ]; go_wp2
      have s0 := World.ownsRow.stored O2.out (j * 3) (.string s)
      have s1 := s0.1.stored (j * 3 + 1) (.int .u64 ((q0 : Int) + 1))
      have s2 := s1.1.stored (j * 3 + 2) (.int .u64 ((q0 : Int) + 1 + 1))
      have o := s2.1
      have st := ST.out
      rw [QM.out] at st
      simp only at st
      rw [st, ← QM.out] at o
      refine ⟨⟨j + 1, q0 + 3, ds.set j (mkC (k + 3 * j)), hkl, by rw [Int.natCast_succ], by congr 1, by have := Q.out; omega, by rw [List.length_set]; exact DS.out, NX.out, ?_, ((B2.out.set _ _).set _ _).set _ _⟩, by (simp [intOf]) <;> omega⟩
      unfold OwnCards
      rw [List.length_set]
      exact o
    · have e : j = n := by omega
      subst e
      have hd : decide ((j : Int) < (j : Int)) = false := by simp
      clear hds hM hO hB
      have hq2 := hq
      subst hq2
      clear hq
      go_wp2
      go_ret
      exact ⟨rfl, ⟨ds, DS.out, MM.out, OO.out⟩, BB.out⟩

theorem markRC_any (B : Nat) (xs : List Cd) (v : Value) (k : Nat) (w : World) (h : RC B xs v w) (hk : k + 3 * xs.length ≤ 4000000) :
    Calls Try.prog 26 #[v, .int .i64 (k : Int)] w fun e w' => e = .returned (.int .i64 ((k + 3 * xs.length : Nat) : Int)) ∧ (∃ ds, ds.length = xs.length ∧ Marked k ds.length ds ∧ RC B ds v w') ∧ w.grownBy w' v.ownBlock := by
  rcases h with ⟨rfl, rfl⟩ | ⟨g, c, cs, cap, rfl, hg, hl, ht, ho⟩
  · go_enter Try.func26, Try.ntmps26
    go_wp2
    refine wp_loop_rounds 1 ?_
    rw [rounds_succ]; go_wp2
    go_ret
    exact ⟨rfl, ⟨[], rfl, fun l hl => absurd hl (Nat.not_lt_zero _), .inl ⟨rfl, rfl⟩⟩, ⟨rfl, rfl, rfl, Nat.le_refl _, fun _ _ _ => rfl⟩⟩
  · refine (markFront_any B g cap c xs.length cs k w ho hl hk).mono ?_
    rintro e w' ⟨rfl, ⟨ds, hd, hM, hO⟩, hB⟩
    have e : (ds.take xs.length).length = xs.length := by rw [List.length_take]; omega
    refine ⟨rfl, ⟨ds.take xs.length, e, fun l hl' => ?_, .inr ⟨g, c, ds, cap, by rw [e], hg, by rw [e, hd]; exact hl, by rw [e], hO⟩⟩, ⟨hB.os, hB.tape, hB.output, hB.size, fun j hj hne => hB.block j (by intro e; subst e; exact hne rfl) hj⟩⟩
    rw [e] at hl'
    rw [cd_take hl']
    exact hM l hl'
end Go.Proofs.Ytaiedpblfnaooab

namespace Go.Proofs.Ytaiedpblfnaooab
open Go.ChangeShapes Go.WideShapes Go.ChangeAt Go.RowKit

/-- Two decks, a code. -/
def SpR (xs ys : List Cd) (c : Int) (w : World) (e : Ending) (w' : World) : Prop := ∃ v u, e = .returned (.tuple #[v, u, .int .i64 c]) ∧ OwnCards w.heap.size xs v w' ∧ OwnCards w.heap.size ys u w' ∧ Apart v u ∧ Below w.heap.size w w'
def spS (h : Int) (cs : List Cd) (c : Int) : List Cd := if c = 0 then stayTo h cs cs.length else []
def spD (h : Int) (cs : List Cd) (c : Int) : List Cd := if c = 0 then dropTo h cs cs.length else []
theorem sp_no {h : Int} {cs : List Cd} {c : Int} (e : c ≠ 0) : spS h cs c = [] ∧ spD h cs c = [] := ⟨if_neg e, if_neg e⟩
theorem sp_yes (h : Int) (cs : List Cd) : spS h cs 0 = stayTo h cs cs.length ∧ spD h cs 0 = dropTo h cs cs.length := ⟨rfl, rfl⟩

end Go.Proofs.Ytaiedpblfnaooab

namespace Go.Proofs.Ytaiedpblfnaooab
open Go.ChangeShapes Go.WideShapes Go.ChangeAt Go.RowKit

theorem flatC_cells {w : World} {g o : Nat} {cs : List Cd} (h : CellsC w (some ⟨g, o, none⟩) cs) (ob : Obj) : ∀ j u, (flatC cs)[j]? = some u → (w.alloc ob).cell? ((⟨g, o, none⟩ : Addr).add j) = some u := by
  intro j u hu
  have hj : j < cs.length * 3 := by rw [← flatC_len]; exact (List.getElem?_eq_some_iff.1 hu).1
  obtain ⟨b, off, ha, hb, h0, h1, h2⟩ := h (j / 3) (by omega)
  cases ha
  have g3 := flatC_get cs (j / 3) (by omega)
  have ea : (⟨g, o, none⟩ : Addr).add j = ⟨g, o + j, none⟩ := by unfold Addr.add; split <;> simp_all
  rw [ea, World.cell?_alloc_past (hn := hb)]
  rcases (show j % 3 = 0 ∨ j % 3 = 1 ∨ j % 3 = 2 by omega) with e | e | e
  · have : j / 3 * 3 = j := by omega
    rw [this] at h0 g3; rw [g3.1] at hu; rw [← hu]; exact h0
  · have : j / 3 * 3 + 1 = j := by omega
    rw [Nat.add_assoc, this] at h1; rw [this] at g3; rw [g3.2.1] at hu; rw [← hu]; exact h1
  · have : j / 3 * 3 + 2 = j := by omega
    rw [Nat.add_assoc, this] at h2; rw [this] at g3; rw [g3.2.2] at hu; rw [← hu]; exact h2

set_option maxRecDepth 100000 in
set_option maxHeartbeats 1600000 in
theorem iCloneC_any (g o : Nat) (cs : List Cd) (c : Nat) (w : World) (hc : CellsC w (some ⟨g, o, none⟩) cs) (hn : cs.length ≤ 1048576) :
    Calls Try.prog 132 #[.slice (some ⟨g, o, none⟩) cs.length c] w fun e w' => ∃ v, e = .returned v ∧ OwnCards w.heap.size cs v w' ∧ Below w.heap.size w w' := by
  obtain ⟨i0, hi, hz0, hz1, hz2⟩ := info_parts info_card
  have q : ∀ (w : World) (a : Option Addr) (n c : Nat), (binOp .eql 35 (.slice a n c) (.slice none 0 0)).run Try.prog w = .ok (.bool a.isNone) w := fun w a n c => Lib.run_eql_slice_nil w _ _ a n c 0 0 Try.underlying35
  have F := Lib.hid (flatC_cells hc (.cells #[] 116))
  clear hc
  go_enter Try.func132, Try.ntmps132
  go_wp2_with (at_builtin; go_loud (refine wpList_append_own _ rfl _ _ 35 rfl w.heap.size 116 i0 (.agg #[.string ByteArray.empty, .int .u64 0, .int .u64 0]) 3 32 Try.underlying35 hi hz0 hz1 hz2 rfl (by decide) _ _ _ rfl (World.ownsRow_made w #[] 0 (Nat.le_refl _) (Nat.zero_le _) rfl) ⟨g, o, none⟩ cs.length c (flatC cs) rfl (flatC_len cs) F.out (flatC_one cs) (by unfold maxLen; omega) (by omega) (by simp) ?_; intro v' w1 hown hgrow _; have P := Lib.hid hown; have G := Lib.hid (Below.grown ((Below.refl w.heap.size w).alloc (Nat.le_refl _) _) hgrow (by simp) (fun j hj => by cases hj; exact Nat.le_refl _)); clear hown hgrow))
  go_ret
  have PO := P.out
  rw [Nat.zero_add, List.nil_append] at PO
  exact ⟨_, rfl, PO, G.out⟩
/-- Two decks, a code. -/
def SqR (xs ys : List Cd) (c : Int) (w : World) (e : Ending) (w' : World) : Prop := ∃ v u, e = .returned (.tuple #[v, u, .int .i64 c]) ∧ RC w.heap.size xs v w' ∧ RC w.heap.size ys u w' ∧ Apart v u ∧ Below w.heap.size w w'
theorem sq_nil (c : Int) {w w1 : World} (hB : Below w.heap.size w w1) : SqR [] [] c w (.returned (.tuple #[.slice none 0 0, .slice none 0 0, .int .i64 c])) w1 := ⟨_, _, rfl, .inl ⟨rfl, rfl⟩, .inl ⟨rfl, rfl⟩, fun k hk => (by cases hk), hB⟩
theorem cells_tail {w : World} {g : Nat} {xs ys : List Cd} (h : CellsC w (some ⟨g, 0, none⟩) (xs ++ ys)) : CellsC w (some ⟨g, xs.length * 3, none⟩) ys := fun i hi => by
  obtain ⟨b, off, ha, hb, h0, h1, h2⟩ := h (xs.length + i) (by rw [List.length_append]; omega)
  cases ha
  have e : cdAt (xs ++ ys) (xs.length + i) = cdAt ys i := by unfold cdAt; rw [List.getD, List.getD, List.getElem?_append_right (by omega), Nat.add_sub_cancel_left]
  have o : 0 + (xs.length + i) * 3 = xs.length * 3 + i * 3 := by omega
  rw [e, o] at h0 h1 h2
  exact ⟨g, xs.length * 3, rfl, hb, h0, h1, h2⟩

end Go.Proofs.Ytaiedpblfnaooab

namespace Go.Proofs.Ytaiedpblfnaooab
open Go.ChangeShapes Go.WideShapes Go.ChangeAt Go.RowKit
attribute [local go_sem] Oper.semAt_some

theorem passesF_any (ad hd : Option Addr) (n c m d : Nat) (w : World) :
    Calls Try.prog 133 #[.slice ad n c, .slice hd m d] w fun e w' => e = .returned (.func (.func 162) #[] #[.pointer (some ⟨w.heap.size, 0, none⟩), .pointer (some ⟨w.heap.size + 1, 0, none⟩)]) ∧ w'.cell? ⟨w.heap.size, 0, none⟩ = some (.slice ad n c) ∧ w'.cell? ⟨w.heap.size + 1, 0, none⟩ = some (.slice hd m d) ∧ w'.heap.size = w.heap.size + 2 ∧ Below w.heap.size w w' := by
  have hmf : ∀ (fn : Fn) (first cap : Array Value) (w : World), (Instr.makeFunc fn first cap).run Try.prog w = .ok (.func fn first cap) w := fun _ _ _ _ => rfl
  go_enter Try.func133, Try.ntmps133
  go_wp2
  go_returns
  exact ⟨rfl, (box2_0 ..).trans rfl, (box2_1 ..).trans rfl, by simp, (by repeat' (first | (with_reducible exact Below.refl _ _) | (with_reducible assumption) | (with_reducible refine below_drewN ?_ _) | (with_reducible refine Below.drew ?_) | (with_reducible refine below_new ?_ _) | (with_reducible refine below_next ?_ (by with_reducible assumption)) | (with_reducible refine Below.setCell ?_ ?_ _) | go_size))⟩

theorem ownCards_heap {B : Nat} {cs : List Cd} {v : Value} {w w' : World} (h : OwnCards B cs v w) (hk : ∀ k c t r, w.heap[k]? = some (.cells c t r) → B ≤ k → w'.heap[k]? = w.heap[k]?) : OwnCards B cs v w' := by
  obtain ⟨h1, h2⟩ := h
  refine ⟨h1, ?_⟩
  rcases h2 with hn | ⟨b, cap, cur, rfl, hB, hh, rest⟩
  · exact .inl hn
  · exact .inr ⟨b, cap, cur, rfl, hB, (hk _ _ _ _ hh hB).trans hh, rest⟩
theorem put_cells {A : World} {k : Nat} {o o' : Obj} (hk : A.heap[k]? = some o) (ho : o.isCells = false) : ∀ (j : Nat) (c : Array Value) (t : TypeId) (r : Nat × Nat), A.heap[j]? = some (Obj.cells c t r) → (A.putObj k o').heap[j]? = A.heap[j]? := fun j c t r hj => by
  refine World.putObj_heap_other ?_
  rintro rfl
  rw [hk] at hj
  cases hj
  cases ho
/-- The state of the loop: the box holds the deck behind the passes so far. -/
def LastAt (w : World) (D L : Nat) (cs : List Cd) (hs : List Int) (pre : List Nat) (W : World) : Prop := ∃ v, W.cell? ⟨L, 0, none⟩ = some v ∧ W.frozen? ⟨L, 0, none⟩ = false ∧ OwnCards w.heap.size (pmTo cs hs pre.length) v W ∧ Below w.heap.size w W ∧ D ≤ W.heap.size
theorem LastAt.ab {w : World} {D L : Nat} {cs : List Cd} {hs : List Int} {pre : List Nat} {A B : World} (h : LastAt w D L cs hs pre A) (hb : Below A.heap.size A B) (hL : L < D) : LastAt w D L cs hs pre B := by
  obtain ⟨v, h1, h2, h3, h4, h5⟩ := h
  exact ⟨v, (hb.cell (p := ⟨L, 0, none⟩) (by show L < A.heap.size; omega)).trans h1, (hb.frozen (p := ⟨L, 0, none⟩) (by show L < A.heap.size; omega)).trans h2, ownCards_kept h3 hb, h4.trans (hb.mono h4.size), Nat.le_trans h5 hb.size⟩
theorem LastAt.put {w : World} {D L : Nat} {cs : List Cd} {hs : List Int} {pre : List Nat} {A : World} {k : Nat} {o o' : Obj} (h : LastAt w D L cs hs pre A) (hL : L < D) (hw : w.heap.size ≤ D) (hD : D ≤ k) (hk : A.heap[k]? = some o) (ho : o.isCells = false) : LastAt w D L cs hs pre (A.putObj k o') := by
  obtain ⟨v, h1, h2, h3, h4, h5⟩ := h
  have e : (A.putObj k o').heap[L]? = A.heap[L]? := World.putObj_heap_other (by omega)
  exact ⟨v, (cell_sameW e).trans h1, (by unfold World.frozen? at h2 ⊢; simp only [e]; exact h2), ownCards_heap h3 (fun j c t r hj _ => put_cells hk ho j c t r hj), h4.trans (below_put (by omega)), by simpa using h5⟩

/-- What passAll hands back. -/
def PaR (cs : List Cd) (hs : List Int) (w : World) (e : Ending) (w' : World) : Prop := ∃ v, e = .returned v ∧ OwnCards w.heap.size (pmTo cs hs hs.length) v w' ∧ Below w.heap.size w w'

set_option maxRecDepth 100000 in
set_option maxHeartbeats 2000000 in
theorem iPassAll_any (g : Nat) (cs : List Cd) (hs : List Int) (c ch : Nat) (hd : Option Addr) (w : World) (hg : g < w.heap.size) (hC : CardsIn w (some ⟨g, 0, none⟩) cs) (hH : IntsIn w hd hs) (hlt : ∀ k o, hd = some ⟨k, o, none⟩ → k < w.heap.size) (nb : cs.length ≤ 80) (nh : hs.length ≤ 1048576) (ok : ∀ i, i < hs.length → 0 ≤ hs.getD i 0 ∧ hs.getD i 0 ≤ 95) :
    Calls Try.prog 76 #[.slice (some ⟨g, 0, none⟩) cs.length c, .slice hd hs.length ch] w (PaR cs hs w) := by
  have K := Lib.hid (iCloneC_any g 0 cs c w (fun i hi => (hC i hi).2) (by omega))
  have V := Lib.hid fun W => passesF_any (some ⟨g, 0, none⟩) hd cs.length c hs.length ch W
  have C := Lib.hid hC
  have H := Lib.hid hH
  have HL := Lib.hid hlt
  have G := Lib.hid hg
  have OK := Lib.hid ok
  clear hC hH hlt ok hg
  refine (callsIn_wide (n := 0)).1 (callsIn_of_wp_marks Try.func76 rfl trivial ?_ rfl)
  simp only [Try.ntmps76, List.size_toArray, List.length_cons, List.length_nil, Nat.reduceAdd, Nat.reduceSub, Array.replicate_succ, Array.replicate_zero, List.push_toArray, List.append_toArray, List.nil_append, List.cons_append]
  refine wpIn_wide.2 ?_
  go_wp2_with (first
    | (go_at_call 132; refine K.out.mono ?_; rintro e w1 ⟨v, rfl, hO, hB⟩; obtain ⟨a1, cc1, rfl, _⟩ := ownCards_in hO; have O1 := Lib.hid hO; have B1 := Lib.hid hB; clear hO hB)
    | (go_at_call 133; refine (V.out _).mono ?_; rintro e w2 ⟨rfl, p1, p2, hz, hB⟩; have P1 := Lib.hid p1; have P2 := Lib.hid p2; have BB := Lib.hid hB; clear p1 p2 hB))
  have e9 : (w1.alloc (.cells #[.slice a1 cs.length cc1] 35)).heap.size = w1.heap.size + 1 := by simp
  rw [e9] at hz P1 P2
  have hz4 : w1.heap.size + 3 ≤ w2.heap.size := Nat.le_of_eq hz.symm
  clear hz
  have B2 := (below_new (Below.refl w1.heap.size w1) (.cells #[.slice a1 cs.length cc1] 35)).trans (BB.out.mono (by rw [e9]; omega))
  have BW := Lib.hid (B1.out.trans (B2.mono B1.out.size))
  have K0 := (BB.out.block w1.heap.size (by rw [e9]; omega)).trans (block_alloc w1 (.cells #[.slice a1 cs.length cc1] 35))
  have lw : w.heap.size ≤ w1.heap.size := B1.out.size
  have Q := Lib.hid (passes_by (w1.heap.size + 1) (w1.heap.size + 1 + 1) w1.heap.size (some ⟨g, 0, none⟩) hd cs hs c ch w2 (by omega) (by omega) P1.out P2.out (cardsIn_below C.out BW.out) (intsIn_below H.out BW.out) nb nh OK.out (fun k o e => by cases e; have := G.out; omega) (fun k o e => by have := HL.out k o e; omega) (by omega))
  have I0 := Lib.hid (show LastAt w w2.heap.size w1.heap.size cs hs [] w2 from ⟨_, (cell_of_block K0 0).trans rfl, free_of_block K0 0, ownCards_kept O1.out B2, BW.out, Nat.le_refl _⟩)
  have hL : w1.heap.size < w2.heap.size := by omega
  have hwD : w.heap.size ≤ w2.heap.size := by omega
  clear P1 P2 BB K V B2 K0 O1 C H
  refine wp_rangeW rfl (enters_of Try.func162 (by kernel_rfl) rfl) Q.out (fun _ => rfl) KpL.trans
    (fun A k o o' _ hk ho => KpL.put A k o o' hk ho)
    (fun s x A k o o' _ hk ho h => ⟨h.1, ownCards_heap h.2 (fun j c t r hj _ => put_cells hk ho j c t r hj)⟩)
    (fun A B hAB k _ hk2 => hAB.block k hk2)
    (LastAt w w2.heap.size w1.heap.size cs hs)
    (fun _ _ _ => False)
    (fun s A B h hs => h.ab hs hL) (fun c s A B h _ => h) (fun s A o _ h => h.ab (below_new (Below.refl _ _) _) hL) (fun s A k o o' hk he ho h => h.put hL hwD hk he ho) (fun c s A k o o' _ _ _ h => h) (fun _ _ _ => trivial) I0.out
    (fun q => { tmps := #[.slice (some ⟨g, 0, none⟩) cs.length c, .slice hd hs.length ch, undef, undef, .slice none 0 0, .pointer (some ⟨w1.heap.size, 0, none⟩), .slice (some ⟨q, 0, none⟩) cs.length cs.length, .slice (some ⟨g, 0, none⟩) cs.length c, .slice a1 cs.length cc1, .slice (some ⟨g, 0, none⟩) cs.length c, .slice hd hs.length ch, .func (.func 162) #[] #[.pointer (some ⟨w1.heap.size + 1, 0, none⟩), .pointer (some ⟨w1.heap.size + 1 + 1, 0, none⟩)], .slice (some ⟨q, 0, none⟩) cs.length cs.length, undef, undef], defers := [] }) ?assign ?body ?done ?stop
  case assign =>
    intro l x W K hK
    gi_wp2
    first | exact hK | (go_simp; exact hK) | (simp; exact hK)
  case body =>
    rintro l pre x W ⟨v, h1, h2, h3, h4, h5⟩ ⟨hp, hO⟩ hlt
    have y1 : w1.heap.size < W.heap.size := by omega
    have s1 : (W.cell? ⟨w1.heap.size, 0, none⟩).isSome = true := by rw [h1]; rfl
    have O2 := Lib.hid hO
    clear hO
    gi_wp2
    refine ⟨Kept.set _ 0 _ (by omega), KpL.set _ _ _, ⟨_, World.cell?_setCell_same' _ _ _ s1, by simpa using h2, ?_, h4.setCell (p := ⟨w1.heap.size, 0, none⟩) lw _, by simpa using h5⟩⟩
    rw [List.length_append]
    exact ownCards_weaken (ownCards_heap O2.out (fun k c t r _ hk => Below.heap_setCell _ _ _ _ (by show k ≠ w1.heap.size; omega))) hwD
  case done =>
    rintro xs W hx ⟨v, h1, h2, h3, h4, h5⟩ hK
    rw [hx] at h3
    have O3 := Lib.hid h3
    clear h3
    go_wp2
    refine ⟨by simp, .inl ⟨_, _, rfl, run_takeDeferred hK, ?_⟩⟩
    have hne := put_cells (o' := .deferred none) hK rfl
    refine ⟨v, ?_, v, rfl, ownCards_heap O3.out (fun k c t r hj _ => hne k c t r hj), h4.trans (below_put (by omega))⟩
    simp [results, Try.results76, go_sem]
  case stop =>
    rintro c pre W _ h _
    exact h.elim
end Go.Proofs.Ytaiedpblfnaooab

namespace Go.Proofs.Ytaiedpblfnaooab
open Go.ChangeShapes Go.WideShapes Go.ChangeAt Go.RowKit

theorem nxt_pm (cs : List Cd) (hs : List Int) (k : Nat) : stayTo (hs.getD k 0) (pmTo cs hs k) cs.length ++ dropTo (hs.getD k 0) (pmTo cs hs k) cs.length = pmTo cs hs (k + 1) := by
  show _ = onePass (hs.getD k 0) (pmTo cs hs k)
  unfold onePass
  rw [pmTo_len]

set_option maxRecDepth 100000 in
set_option maxHeartbeats 3200000 in
theorem sMany_any (g0 : Nat) (cs : List Cd) (hs : List Int) (c ch : Nat) (hd : Option Addr) (w : World) (hC : CardsIn w (some ⟨g0, 0, none⟩) cs) (hH : IntsIn w hd hs) (nb : cs.length ≤ 80) (nh : hs.length ≤ 1048576) (ok : ∀ i, i < hs.length → 0 ≤ hs.getD i 0 ∧ hs.getD i 0 ≤ 95) :
    Calls Try.prog 72 #[.slice (some ⟨g0, 0, none⟩) cs.length c, .slice hd hs.length ch] w (PaR cs hs w) := by
  obtain ⟨i0, hi, hz0, hz1, hz2⟩ := info_parts info_card
  have F := Lib.hid (flatC_cells (fun i hi => (hC i hi).2) (.cells #[] 116))
  have FT := Lib.hid (pm_fits hs fun i hi => (hC i hi).1)
  have H := Lib.hid hH
  have OK := Lib.hid ok
  clear hC hH ok
  go_enter Try.func72, Try.ntmps72
  go_wp2_with (at_builtin; refine wpList_append_own _ rfl _ _ 35 rfl w.heap.size 116 i0 (.agg #[.string ByteArray.empty, .int .u64 0, .int .u64 0]) 3 32 Try.underlying35 hi hz0 hz1 hz2 rfl (by decide) _ _ _ rfl (World.ownsRow_made w #[] 0 (Nat.le_refl _) (Nat.zero_le _) rfl) ⟨g0, 0, none⟩ cs.length c (flatC cs) rfl (flatC_len cs) F.out (flatC_one cs) (by unfold maxLen; omega) (by omega) (by simp) ?_; intro v1 w1 hown hgrow _; have P1 := Lib.hid hown; have G1 := Lib.hid (Below.grown ((Below.refl w.heap.size w).alloc (Nat.le_refl _) _) hgrow (by simp) (fun j hj => by cases hj; exact Nat.le_refl _)); clear hown hgrow)
  have O1 := P1.out
  rw [Nat.zero_add, List.nil_append] at O1
  have O1 := Lib.hid (show OwnCards w.heap.size cs v1 w1 from O1)
  clear P1 F
  go_loopw [5, 6] (fun v i wr => ∃ k : Nat, k ≤ hs.length ∧ i = .int .i64 k ∧ OwnCards w.heap.size (pmTo cs hs k) v wr ∧ Below w.heap.size w wr) (fun _ i _ => hs.length - (intOf i).toNat)
  case atStart => exact ⟨0, Nat.zero_le _, rfl, O1.out, G1.out⟩
  case round =>
    obtain ⟨k, hk, rfl, hO, hB⟩ := hrel
    have BB := Lib.hid hB
    have OO := Lib.hid hO
    clear O1 G1
    by_cases hkl : k < hs.length
    · have hdd : decide ((k : Int) < (hs.length : Int)) = true := by simpa using hkl
      obtain ⟨b1, o1, rfl, hb1, p0⟩ := H.out k hkl
      have d0 := (hB.cell (p := ⟨b1, o1 + k, none⟩) hb1).trans p0
      have y1 : b1 < wr.heap.size := Nat.lt_of_lt_of_le hb1 hB.size
      have i1 : (0 : Int) ≤ (k : Int) := by omega
      have i2 : (k : Int) < (hs.length : Int) := by omega
      obtain ⟨a, cc, rfl, hcl⟩ := ownCards_in hO
      have S := sSplit_any a (pmTo cs hs k) cc (hs.getD k 0) (OK.out k hkl).1 (OK.out k hkl).2 wr (cardsIn_of hcl (FT.out k)) (by rw [pmTo_len]; exact nb)
      rw [pmTo_len] at S ⊢
      have NX := Lib.hid (nxt_pm cs hs k)
      have ls := stayTo_len (hs.getD k 0) (pmTo cs hs k) cs.length
      have ld := dropTo_len (hs.getD k 0) (pmTo cs hs k) cs.length
      have S := Lib.hid S
      generalize stayTo (hs.getD k 0) (pmTo cs hs k) cs.length = xs at *
      generalize dropTo (hs.getD k 0) (pmTo cs hs k) cs.length = ys at *
      generalize hs.getD k 0 = h at *
      clear hB hO p0 hcl OO
      go_wp2_with (first
        | (go_at_call 128; refine S.out.mono ?_; rintro e w2 ⟨v, u, rfl, hS, hD, _, hB⟩; obtain ⟨gs, ks, rfl⟩ := hS.2; obtain ⟨gd, kd, rfl⟩ := hD.2; have S2 := Lib.hid hS.1; have D2 := Lib.hid hD.1; have B2 := Lib.hid hB; have s2 := hB.size; clear hS hD hB)
        | (at_builtin; refine wpList_append_own _ rfl _ _ 35 rfl wr.heap.size 116 i0 (.agg #[.string ByteArray.empty, .int .u64 0, .int .u64 0]) 3 32 Try.underlying35 hi hz0 hz1 hz2 rfl (by decide) _ _ _ rfl S2.out ⟨gd, 0, none⟩ ys.length kd (flatC ys) rfl (flatC_len ys) (World.ownsRow.cells D2.out (g := gd) rfl) (flatC_one ys) (by unfold maxLen; omega) (by omega) s2 ?_; intro v' w4 hown hgrow _; have P := Lib.hid hown; have G := Lib.hid hgrow; clear hown hgrow))
      exact ⟨⟨k + 1, hkl, by rw [Int.natCast_succ], NX.out ▸ ownCards_weaken (own_join P.out) BB.out.size, BB.out.trans (Below.mono (Below.grown B2.out G.out s2 (fun k hk => (World.ownsRow.lt S2.out k hk).1)) BB.out.size)⟩, by (simp [intOf]) <;> omega⟩
    · have e : k = hs.length := by omega
      subst e
      have hdd : decide ((hs.length : Int) < (hs.length : Int)) = false := by simp
      clear hB hO
      go_wp2
      go_ret
      exact ⟨_, rfl, OO.out, BB.out⟩
end Go.Proofs.Ytaiedpblfnaooab

namespace Go.Proofs.Ytaiedpblfnaooab
open Go.ChangeShapes Go.WideShapes Go.ChangeAt Go.RowKit

theorem fld_ok {s : ByteArray} {k st sz : Int} (h : fieldOk s k st sz = true) : (k = 0 ∨ k = 1 ∨ k = 2 ∨ k = 3) ∧ 0 ≤ st ∧ st ≤ 95 ∧ 1 ≤ sz ∧ sz ≤ mostZ k := by
  obtain ⟨_, k0, k3, t0, z0, zm, tw⟩ := field_inv h
  have hk : k = 0 ∨ k = 1 ∨ k = 2 ∨ k = 3 := by omega
  refine ⟨hk, t0, ?_, z0, zm⟩
  rcases hk with rfl | rfl | rfl | rfl <;> simp [widthZ] at tw <;> omega

theorem iSortOk (s : ByteArray) (k st sz : Int) (h : fieldOk s k st sz = true) (w : World) :
    Calls Try.prog 80 #[.agg #[.string s, .int .i8 k, .int .i16 st, .int .i16 sz]] w (SlcR (srt k st sz) w) := by
  obtain ⟨hk, t0, t1, z0, zm⟩ := fld_ok h
  clear h
  rcases hk with rfl | rfl | rfl | rfl
  · rw [mostZ_0] at zm; rw [srt_0]; exact iSort_0 s st sz _ (by omega) t0 t1 z0 zm (by omega) w
  · rw [mostZ_1] at zm; rw [srt_1]; exact iSort_1 s st sz _ (by omega) t0 t1 z0 (by omega) (by omega) w
  · rw [mostZ_2] at zm; rw [srt_2]; exact iSort_2 s st sz _ (by omega) t0 t1 z0 (by omega) (by omega) w
  · rw [mostZ_3] at zm; rw [srt_3]; exact iSort_3 s st sz _ (by omega) t0 t1 z0 (by omega) (by omega) w

theorem sSortOk (s : ByteArray) (k st sz : Int) (h : fieldOk s k st sz = true) (g o : Nat) (w : World) (h1 : w.cell? ⟨g, o + 1, none⟩ = some (.int .i8 k)) (h2 : w.cell? ⟨g, o + 2, none⟩ = some (.int .i16 st)) (h3 : w.cell? ⟨g, o + 3, none⟩ = some (.int .i16 sz)) :
    Calls Try.prog 79 #[.pointer (some ⟨g, o, none⟩)] w (SlcR (srt k st sz) w) := by
  obtain ⟨hk, t0, t1, z0, zm⟩ := fld_ok h
  clear h
  rcases hk with rfl | rfl | rfl | rfl
  · rw [mostZ_0] at zm; rw [srt_0]; exact sSort_0 st sz _ (by omega) t0 t1 z0 zm (by omega) g o w h1 h2 h3
  · rw [mostZ_1] at zm; rw [srt_1]; exact sSort_1 st sz _ (by omega) t0 t1 z0 (by omega) (by omega) g o w h1 h2 h3
  · rw [mostZ_2] at zm; rw [srt_2]; exact sSort_2 st sz _ (by omega) t0 t1 z0 (by omega) (by omega) g o w h1 h2 h3
  · rw [mostZ_3] at zm; rw [srt_3]; exact sSort_3 st sz _ (by omega) t0 t1 z0 (by omega) (by omega) g o w h1 h2 h3

def hsL (s : ByteArray) (k st sz : Int) : List Int := if fieldOk s k st sz then srt k st sz else []
theorem hsL_yes {s : ByteArray} {k st sz : Int} (h : fieldOk s k st sz = true) : hsL s k st sz = srt k st sz := by unfold hsL; rw [if_pos h]
theorem hsL_no {s : ByteArray} {k st sz : Int} (h : fieldOk s k st sz = false) : hsL s k st sz = [] := by unfold hsL; rw [h]; rfl
theorem hs_len (s : ByteArray) (k st sz : Int) : (hsL s k st sz).length ≤ 96 := by
  unfold hsL
  split
  · obtain ⟨hk, t0, t1, z0, zm⟩ := fld_ok (by assumption)
    rcases hk with rfl | rfl | rfl | rfl
    · rw [mostZ_0] at zm; rw [srt_0, marks_len]; omega
    · rw [mostZ_1] at zm; rw [srt_1, dsc_len]; omega
    · rw [mostZ_2] at zm; rw [srt_2, dsc_len]; omega
    · rw [mostZ_3] at zm; rw [srt_3, dsc_len]; omega
  · simp
theorem fC_no : fC false = 1 := rfl
theorem fC_yes : fC true = 0 := rfl

set_option maxHeartbeats 1600000 in
theorem iHSort_any (s : ByteArray) (k st sz : Int) (hs : s.size ≤ maxLen) (hk : I8 k) (ht : I16 st) (hz : I16 sz) (w : World) :
    Calls Try.prog 30 #[.agg #[.string s, .int .i8 k, .int .i16 st, .int .i16 sz]] w (HolR (hsL s k st sz) (fC (fieldOk s k st sz)) w) := by
  have V := Lib.hid fun W => iVF_any s k st sz hs hk ht hz W
  cases h : fieldOk s k st sz
  · have f := Lib.hid (hsL_no h)
    rw [h] at V
    clear h hs hk ht hz
    go_enter Try.func30, Try.ntmps30
    go_wp2_with (go_at_call 67; refine (V.out _).mono ?_; rintro e w1 ⟨rfl, hB⟩; have c := Lib.hid hB; clear hB)
    go_ret2
    exact HolR.mk fC_no (by rw [f.out]; exact own_nil _ _) (by have h := c.out; ((repeat' (first | (with_reducible exact Below.refl _ _) | (with_reducible assumption) | (with_reducible refine below_drewN ?_ _) | (with_reducible refine Below.drew ?_) | (with_reducible refine below_new ?_ _) | (with_reducible refine below_next ?_ (by with_reducible assumption)) | (with_reducible refine Below.setCell ?_ ?_ _) | go_size)); done))
  · have f := Lib.hid (hsL_yes h)
    have S := Lib.hid fun W => iSortOk s k st sz h W
    rw [h] at V
    clear h hs hk ht hz
    go_enter Try.func30, Try.ntmps30
    go_wp2_with (first
      | (go_at_call 67; refine (V.out _).mono ?_; rintro e w1 ⟨rfl, hB⟩; obtain ⟨hc, hf, hz⟩ := bcell hB; have bb : Below w.heap.size w w1 := (by repeat' (first | (with_reducible exact Below.refl _ _) | (with_reducible assumption) | (with_reducible refine below_drewN ?_ _) | (with_reducible refine Below.drew ?_) | (with_reducible refine below_new ?_ _) | (with_reducible refine below_next ?_ (by with_reducible assumption)) | (with_reducible refine Below.setCell ?_ ?_ _) | go_size)); have B1 := Lib.hid bb; clear bb)
      | (go_at_call 80; refine (S.out _).mono ?_; rintro e w2 ⟨v, rfl, hO, hB2⟩; have O := Lib.hid hO; have B2 := Lib.hid hB2; clear hO hB2))
    go_ret2
    exact HolR.mk fC_yes (by rw [f.out]; exact own_weaken O.out B1.out.size) (below_next B1.out B2.out)

set_option maxHeartbeats 1600000 in
theorem sHSort_any (s : ByteArray) (k st sz : Int) (hs : s.size ≤ maxLen) (ht : I16 st) (hz : I16 sz) (w : World) :
    Calls Try.prog 29 #[.agg #[.string s, .int .i8 k, .int .i16 st, .int .i16 sz]] w (HolR (hsL s k st sz) (fC (fieldOk s k st sz)) w) := by
  have V := Lib.hid fun W h0 h1 h2 h3 => sVF_any s k st sz hs ht hz w.heap.size 0 W h0 h1 h2 h3
  cases h : fieldOk s k st sz
  · have f := Lib.hid (hsL_no h)
    rw [h] at V
    clear h hs ht hz
    go_enter Try.func29, Try.ntmps29
    go_wp2_with (go_at_call 65; refine Calls.mono (V.out _ ?_ ?_ ?_ ?_) ?_; simp; simp; simp; simp; rintro e w1 ⟨rfl, hB⟩; have bb : Below w.heap.size w w1 := (by repeat' (first | (with_reducible exact Below.refl _ _) | (with_reducible assumption) | (with_reducible refine below_drewN ?_ _) | (with_reducible refine Below.drew ?_) | (with_reducible refine below_new ?_ _) | (with_reducible refine below_next ?_ (by with_reducible assumption)) | (with_reducible refine Below.setCell ?_ ?_ _) | go_size)); have B1 := Lib.hid bb; clear hB bb)
    go_ret2
    exact HolR.mk fC_no (by rw [f.out]; exact own_none rfl B1.out.size) (B1.out.alloc B1.out.size _)
  · have f := Lib.hid (hsL_yes h)
    have S := Lib.hid fun W h1 h2 h3 => sSortOk s k st sz h w.heap.size 0 W h1 h2 h3
    rw [h] at V
    clear h hs ht hz
    go_enter Try.func29, Try.ntmps29
    go_wp2_with (first
      | (go_at_call 65; refine Calls.mono (V.out _ ?_ ?_ ?_ ?_) ?_; simp; simp; simp; simp; rintro e w1 ⟨rfl, hB⟩; have bb : Below w.heap.size w w1 := (by repeat' (first | (with_reducible exact Below.refl _ _) | (with_reducible assumption) | (with_reducible refine below_drewN ?_ _) | (with_reducible refine Below.drew ?_) | (with_reducible refine below_new ?_ _) | (with_reducible refine below_next ?_ (by with_reducible assumption)) | (with_reducible refine Below.setCell ?_ ?_ _) | go_size)); have c1 : w1.cell? ⟨w.heap.size, 0 + 1, none⟩ = some (.int .i8 k) := (hB.cell (by first | omega | (simp; done) | (simp; omega))).trans (by simp); have c2 : w1.cell? ⟨w.heap.size, 0 + 2, none⟩ = some (.int .i16 st) := (hB.cell (by first | omega | (simp; done) | (simp; omega))).trans (by simp); have c3 : w1.cell? ⟨w.heap.size, 0 + 3, none⟩ = some (.int .i16 sz) := (hB.cell (by first | omega | (simp; done) | (simp; omega))).trans (by simp); have B1 := Lib.hid bb; have C1 := Lib.hid c1; have C2 := Lib.hid c2; have C3 := Lib.hid c3; clear hB bb c1 c2 c3)
      | (go_at_call 79; refine Calls.mono (S.out _ C1.out C2.out C3.out) ?_; rintro e w2 ⟨v, rfl, hO, hB2⟩; have O := Lib.hid hO; have B2 := Lib.hid hB2; clear hO hB2))
    go_ret2
    exact HolR.mk fC_yes (by rw [f.out]; exact own_weaken O.out B1.out.size) (below_next B1.out B2.out)
end Go.Proofs.Ytaiedpblfnaooab

namespace Go.Proofs.Ytaiedpblfnaooab
open Go.ChangeShapes Go.WideShapes Go.ChangeAt Go.RowKit

def kv (f : Int → Bool) : List Int → Nat
  | [] => 0
  | z :: zs => (if f z then 1 else 0) + 2 * kv f zs
theorem kv_lt (f : Int → Bool) : ∀ zs : List Int, kv f zs < 2 ^ zs.length
  | [] => by simp [kv]
  | z :: zs => by
    have := kv_lt f zs
    rw [kv, List.length_cons, Nat.pow_succ]
    split <;> omega
theorem kv_snoc (f : Int → Bool) (x : Int) : ∀ zs : List Int, kv f (zs ++ [x]) = kv f zs + (if f x then 2 ^ zs.length else 0)
  | [] => by simp [kv]
  | z :: zs => by
    rw [List.cons_append, kv, kv_snoc f x zs, kv, List.length_cons, Nat.pow_succ]
    split <;> split <;> omega
theorem kv_drop (f : Int → Bool) (zs : List Int) (i : Nat) (h : i < zs.length) : kv f (zs.drop i) = (if f (zs.getD i 0) then 1 else 0) + 2 * kv f (zs.drop (i + 1)) := by
  rw [List.drop_eq_getElem_cons h, kv]; simp [List.getD, h]
theorem kv_take (f : Int → Bool) (zs : List Int) (i : Nat) (h : i < zs.length) : kv f (zs.take (i + 1)) = kv f (zs.take i) + (if f (zs.getD i 0) then 2 ^ i else 0) := by
  rw [List.take_succ_eq_append_getElem h, kv_snoc]; simp [List.getD, h, Nat.min_eq_left (Nat.le_of_lt h)]
theorem kv_small (f : Int → Bool) (zs : List Int) (h : zs.length ≤ 24) : kv f zs < 16777216 := by
  have := kv_lt f zs
  have h2 : 2 ^ zs.length ≤ 2 ^ 24 := Nat.pow_le_pow_right (by decide) h
  omega
theorem srt_in {s : ByteArray} {k st sz : Int} (h : fieldOk s k st sz = true) : (srt k st sz).length ≤ 24 ∧ ∀ i, i < (srt k st sz).length → 0 ≤ (srt k st sz).getD i 0 ∧ (srt k st sz).getD i 0 ≤ 95 := by
  obtain ⟨_, k0, k3, t0, z0, zm, tw⟩ := field_inv h
  have hk : k = 0 ∨ k = 1 ∨ k = 2 ∨ k = 3 := by omega
  have mg : ∀ n : Nat, st + (n : Int) ≤ 96 → ∀ i, i < (marks st n).length → 0 ≤ (marks st n).getD i 0 ∧ (marks st n).getD i 0 ≤ 95 := fun n hn i hi => by
    rw [marks_len] at hi; rw [marks_get st n i hi]; omega
  have dg : ∀ n : Nat, st + (n : Int) ≤ 96 → ∀ i, i < (dsc st n n).length → 0 ≤ (dsc st n n).getD i 0 ∧ (dsc st n n).getD i 0 ≤ 95 := fun n hn i hi => by
    rw [dsc_len] at hi
    have e : (dsc st n n).getD i 0 = st + (n : Int) - 1 - (i : Int) := by unfold dsc; simp [List.getD, hi]
    rw [e]; omega
  rcases hk with rfl | rfl | rfl | rfl
  · rw [mostZ_0] at zm; rw [widthZ_0] at tw; rw [srt_0]; exact ⟨by rw [marks_len]; omega, mg _ (by omega)⟩
  · rw [mostZ_1] at zm; rw [widthZ_1] at tw; rw [srt_1]; exact ⟨by rw [dsc_len]; omega, dg _ (by omega)⟩
  · rw [mostZ_2] at zm; rw [widthZ_2] at tw; rw [srt_2]; exact ⟨by rw [dsc_len]; omega, dg _ (by omega)⟩
  · rw [mostZ_3] at zm; rw [widthZ_3] at tw; rw [srt_3]; exact ⟨by rw [dsc_len]; omega, dg _ (by omega)⟩
end Go.Proofs.Ytaiedpblfnaooab

namespace Go.Proofs.Ytaiedpblfnaooab
open Go.ChangeShapes Go.WideShapes Go.ChangeAt Go.RowKit

theorem or_pow (x i : Nat) (h : x < 2 ^ i) (hi : i ≤ 24) : bits .or .i64 (x : Int) ((2 ^ i : Nat) : Int) = ((x + 2 ^ i : Nat) : Int) := by
  have h2 : (2 : Nat) ^ i ≤ 2 ^ 24 := Nat.pow_le_pow_right (by decide) hi
  show IntKind.i64.wrap ((BitVec.ofInt 64 (x : Int) ||| BitVec.ofInt 64 ((2 ^ i : Nat) : Int)).toNat : Int) = _
  have h3 : (BitVec.ofInt 64 (x : Int)).toNat = x := by
    rw [BitVec.ofInt_natCast, BitVec.toNat_ofNat]; exact Nat.mod_eq_of_lt (by omega)
  have h4 : (BitVec.ofInt 64 ((2 ^ i : Nat) : Int)).toNat = 2 ^ i := by
    rw [BitVec.ofInt_natCast, BitVec.toNat_ofNat]; exact Nat.mod_eq_of_lt (by omega)
  have h5 := Nat.two_pow_add_eq_or_of_lt h 1
  rw [Nat.mul_one] at h5
  rw [BitVec.toNat_or, h3, h4, Nat.or_comm, ← h5, Nat.add_comm]
  exact IntWalk.i64_in _ (by omega)

set_option maxHeartbeats 1600000 in
theorem sKey_any (s : ByteArray) (k st sz : Int) (h : fieldOk s k st sz = true) (a b : Int) (ha : U64 a) (hb : U64 b) (g o : Nat) (w : World) (h1 : w.cell? ⟨g, o + 1, none⟩ = some (.int .i8 k)) (h2 : w.cell? ⟨g, o + 2, none⟩ = some (.int .i16 st)) (h3 : w.cell? ⟨g, o + 3, none⟩ = some (.int .i16 sz)) :
    Calls Try.prog 82 #[.pointer (some ⟨g, o, none⟩), .agg #[.int .u64 a, .int .u64 b]] w fun e w' => e = .returned (.int .i64 (kv (hasB a b) (srt k st sz) : Nat)) ∧ Below w.heap.size w w' := by
  have hg := World.block_lt_of_cell? _ _ h1
  have S := Lib.hid fun W c1 c2 c3 => sSortOk s k st sz h g o W c1 c2 c3
  obtain ⟨hl, hr⟩ := srt_in h
  have R := Lib.hid hr
  have H := Lib.hid fun (z : Int) (q0 : 0 ≤ z) (q1 : z ≤ 95) W => sHas_any a b z ha hb q0 q1 W
  clear h hr ha hb
  generalize srt k st sz = zs at *
  have G1 := Lib.hid (show ∀ x, (w.alloc x).cell? ⟨g, o + 1, none⟩ = some (.int .i8 k) from fun x => (World.cell?_alloc_past (hn := hg) ..).trans h1)
  have G2 := Lib.hid (show ∀ x, (w.alloc x).cell? ⟨g, o + 2, none⟩ = some (.int .i16 st) from fun x => (World.cell?_alloc_past (hn := hg) ..).trans h2)
  have G3 := Lib.hid (show ∀ x, (w.alloc x).cell? ⟨g, o + 3, none⟩ = some (.int .i16 sz) from fun x => (World.cell?_alloc_past (hn := hg) ..).trans h3)
  have hbw := cell_bw
  clear h1 h2 h3
  go_enter Try.func82, Try.ntmps82
  go_wp2_with (go_at_call 79; refine Calls.mono (S.out _ (G1.out _) (G2.out _) (G3.out _)) ?_; rintro e w1 ⟨v, rfl, hO, hB⟩; obtain ⟨ad, cp, rfl, hi⟩ := ownInts_in hO; have II := Lib.hid hi; have c0 : w1.cell? ⟨w.heap.size, 0, none⟩ = some (.int .u64 a) := (hB.cell (by simp)).trans (by simp); have c1 : w1.cell? ⟨w.heap.size, 1, none⟩ = some (.int .u64 b) := (hB.cell (by simp)).trans (by simp); have s1 : w.heap.size < w1.heap.size := (by have := hB.size; simp at this; omega); have b1 : Below w.heap.size w w1 := (by repeat' (first | (with_reducible exact Below.refl _ _) | (with_reducible assumption) | (with_reducible refine below_drewN ?_ _) | (with_reducible refine Below.drew ?_) | (with_reducible refine below_new ?_ _) | (with_reducible refine below_next ?_ (by with_reducible assumption)) | (with_reducible refine Below.setCell ?_ ?_ _) | go_size)); have B1 := Lib.hid b1; clear hO hi hB b1)
  go_loopw [6, 7] (fun q i wr => ∃ j : Nat, j ≤ zs.length ∧ i = .int .i64 ((j : Int) - 1) ∧ q = .int .i64 (kv (hasB a b) (zs.drop j) : Nat) ∧ Below w1.heap.size w1 wr) (fun _ i _ => (intOf i + 1).toNat)
  case atStart => exact ⟨zs.length, Nat.le_refl _, rfl, by simp [kv], Below.refl _ _⟩
  case round =>
    obtain ⟨j, hj, hi, rfl, hB⟩ := hrel
    have BB := Lib.hid hB
    have sm := kv_small (hasB a b) (zs.drop j) (by rw [List.length_drop]; omega)
    cases j with
    | zero =>
      rw [show ((0 : Nat) : Int) - 1 = -1 from rfl] at hi
      subst hi
      clear hB c0 c1
      rw [List.drop_zero] at *
      go_wp2_with fail
      go_ret
      exact ⟨rfl, below_next B1.out BB.out⟩
    | succ i =>
      rw [show ((i + 1 : Nat) : Int) - 1 = (i : Int) by omega] at hi
      subst hi
      have hil : i < zs.length := by omega
      obtain ⟨b2, o2, rfl, hb2, hc2⟩ := II.out i hil
      have z2 := (hB.cell (p := ⟨b2, o2 + i, none⟩) hb2).trans hc2
      have hb3 : b2 < wr.heap.size := Nat.lt_of_lt_of_le hb2 hB.size
      have d0 := (hB.cell (p := ⟨w.heap.size, 0, none⟩) s1).trans c0
      have d1 := (hB.cell (p := ⟨w.heap.size, 1, none⟩) s1).trans c1
      have sw : w.heap.size < wr.heap.size := Nat.lt_of_lt_of_le s1 hB.size
      obtain ⟨q0, q1⟩ := R.out i hil
      have K := Lib.hid (H.out (zs.getD i 0) q0 q1)
      have kd := Lib.hid (kv_drop (hasB a b) zs i hil)
      have sm2 := kv_small (hasB a b) (zs.drop i) (by rw [List.length_drop]; omega)
      have i1 : (0 : Int) ≤ (i : Int) := by omega
      have i2 : (i : Int) < (zs.length : Int) := by omega
      have x1 : IntKind.i64.wrap ((i : Int) - 1) = (i : Int) - 1 := IntWalk.i64_in _ (by omega)
      generalize kv (hasB a b) (zs.drop (i + 1)) = x at *
      clear hB hc2 c0 c1
      have x2 : IntKind.i64.wrap (2 * (x : Int)) = 2 * (x : Int) := IntWalk.i64_in _ (by omega)
      have x3 : IntKind.i64.wrap (2 * (x : Int) + 1) = 2 * (x : Int) + 1 := IntWalk.i64_in _ (by omega)
      generalize zs.getD i 0 = z at *
      cases q : hasB a b z
      all_goals
        rw [q] at K kd
        clear q q0 q1
        go_wp2_with fail
        refine region_bw (by kernel_rfl) (by kernel_rfl) ?_
        repeat (go_big_quiet_step (first | (go_at_call 135; exact calls_bw (K.out _))))
        refine wpQuiet_nil ?_; intro wq hq; replace hq := below_of_bw hq; obtain ⟨qc, qf, qz⟩ := bcell hq
        go_wp2_with fail
        exact ⟨⟨i, by omega, rfl, by have e := kd.out; simp at e; rw [e]; first | rfl | (simp; done) | (simp; omega) | (congr 1; simp; omega), BB.out.trans (hq.mono BB.out.size)⟩, by (simp [intOf]) <;> omega⟩

set_option maxHeartbeats 1600000 in
theorem iKey_any (s : ByteArray) (k st sz : Int) (h : fieldOk s k st sz = true) (a b : Int) (ha : U64 a) (hb : U64 b) (w : World) :
    Calls Try.prog 84 #[.agg #[.string s, .int .i8 k, .int .i16 st, .int .i16 sz], .agg #[.int .u64 a, .int .u64 b]] w fun e w' => e = .returned (.int .i64 (kv (hasB a b) (srt k st sz) : Nat)) ∧ Below w.heap.size w w' := by
  have S := Lib.hid fun W => iSortOk s k st sz h W
  obtain ⟨hl, hr⟩ := srt_in h
  have R := Lib.hid hr
  have H := Lib.hid fun (z : Int) (q0 : 0 ≤ z) (q1 : z ≤ 95) (W : World) => (iWithin_any (b0 z) (b1 z) a b W).mono fun e w' hh => (⟨hh.1.trans (by rw [within_bit a b z ha hb q0 q1]), hh.2⟩ : e = .returned (.bool (hasB a b z)) ∧ Below W.heap.size W w')
  clear h hr ha hb
  generalize srt k st sz = zs at *
  have hbw := cell_bw
  go_enter Try.func84, Try.ntmps84
  go_wp2_with (go_at_call 80; refine (S.out _).mono ?_; rintro e w1 ⟨v, rfl, hO, hB⟩; obtain ⟨ad, cp, rfl, hi⟩ := ownInts_in hO; have II := Lib.hid hi; have c0 : w1.cell? ⟨w.heap.size + 1, 0, none⟩ = some (.int .u64 a) := (hB.cell (box2_lt1 ..)).trans (box2_1 ..); have c1 : w1.cell? ⟨w.heap.size + 1, 1, none⟩ = some (.int .u64 b) := (hB.cell (box2_lt1 ..)).trans (box2_1 ..); have s1 : w.heap.size + 1 < w1.heap.size := (by have := hB.size; simp at this; omega); have b1 : Below w.heap.size w w1 := (by repeat' (first | (with_reducible exact Below.refl _ _) | (with_reducible assumption) | (with_reducible refine below_drewN ?_ _) | (with_reducible refine Below.drew ?_) | (with_reducible refine below_new ?_ _) | (with_reducible refine below_next ?_ (by with_reducible assumption)) | (with_reducible refine Below.setCell ?_ ?_ _) | go_size)); have B1 := Lib.hid b1; clear hO hi hB b1)
  go_loopw [5, 11] (fun q i wr => ∃ j : Nat, j ≤ zs.length ∧ i = .int .i64 j ∧ q = .int .i64 (kv (hasB a b) (zs.take j) : Nat) ∧ Below w1.heap.size w1 wr) (fun _ i _ => zs.length - (intOf i).toNat)
  case atStart => exact ⟨0, Nat.zero_le _, rfl, by simp [kv], Below.refl _ _⟩
  case round =>
    obtain ⟨i, hj, rfl, rfl, hB⟩ := hrel
    have BB := Lib.hid hB
    have sm := kv_small (hasB a b) (zs.take i) (by rw [List.length_take]; omega)
    have sl := kv_lt (hasB a b) (zs.take i)
    rw [List.length_take, Nat.min_eq_left hj] at sl
    by_cases hil : i < zs.length
    · have hd : decide ((i : Int) < (zs.length : Int)) = true := by simpa using hil
      obtain ⟨b2, o2, rfl, hb2, hc2⟩ := II.out i hil
      have z2 := (hB.cell (p := ⟨b2, o2 + i, none⟩) hb2).trans hc2
      have hb3 : b2 < wr.heap.size := Nat.lt_of_lt_of_le hb2 hB.size
      have d0 := (hB.cell (p := ⟨w.heap.size + 1, 0, none⟩) s1).trans c0
      have d1 := (hB.cell (p := ⟨w.heap.size + 1, 1, none⟩) s1).trans c1
      have sw : w.heap.size + 1 < wr.heap.size := Nat.lt_of_lt_of_le s1 hB.size
      obtain ⟨q0, q1⟩ := R.out i hil
      have K := Lib.hid (H.out (zs.getD i 0) q0 q1)
      have O1 := Lib.hid fun W => iOne_any (zs.getD i 0) q0 q1 W
      have kd := Lib.hid (kv_take (hasB a b) zs i hil)
      have i1 : (0 : Int) ≤ (i : Int) := by omega
      have i2 : (i : Int) < (zs.length : Int) := by omega
      have x1 : IntKind.i64.wrap ((i : Int) + 1) = (i : Int) + 1 := IntWalk.i64_in _ (by omega)
      have op := or_pow (kv (hasB a b) (zs.take i)) i sl (by omega)
      have p2 : (2 : Nat) ^ i ≤ 2 ^ 24 := Nat.pow_le_pow_right (by decide) (by omega)
      have p3 : ((2 ^ i : Nat) : Int) = (2 : Int) ^ i := by simp
      have x2 : IntKind.i64.wrap ((2 : Int) ^ i) = (2 : Int) ^ i := by rw [← p3]; exact IntWalk.i64_in _ (by omega)
      rw [p3] at op
      have OP := Lib.hid op
      clear p2 p3 op
      generalize kv (hasB a b) (zs.take i) = x at *
      clear hB hc2 c0 c1 sl
      generalize zs.getD i 0 = z at *
      cases q : hasB a b z
      · rw [q] at K kd
        clear q q0 q1
        go_wp2_with fail
        refine region_bw (by kernel_rfl) (by kernel_rfl) ?_
        repeat (go_big_quiet_step (first | (go_at_call 131; exact calls_bw (O1.out _)) | (go_at_call 136; exact calls_bw (K.out _))))
        refine wpQuiet_nil ?_; intro wq hq; replace hq := below_of_bw hq; obtain ⟨qc, qf, qz⟩ := bcell hq
        go_wp2_with fail
        exact ⟨⟨i + 1, hil, by rw [Int.natCast_succ], by have e := kd.out; simp at e; rw [e], BB.out.trans (hq.mono BB.out.size)⟩, by (simp [intOf]) <;> omega⟩
      · rw [q] at K kd
        clear q q0 q1
        go_wp2_with fail
        refine region_bw (by kernel_rfl) (by kernel_rfl) ?_
        repeat (go_big_quiet_step (first | (go_at_call 131; exact calls_bw (O1.out _)) | (go_at_call 136; exact calls_bw (K.out _))))
        refine wpQuiet_nil ?_; intro wq hq; replace hq := below_of_bw hq; obtain ⟨qc, qf, qz⟩ := bcell hq
        have op := OP.out
        go_wp2_with fail
        exact ⟨⟨i + 1, hil, by rw [Int.natCast_succ], by have e := kd.out; simp at e; rw [e]; simp, BB.out.trans (hq.mono BB.out.size)⟩, by (simp [intOf]) <;> omega⟩
    · have e : i = zs.length := by omega
      subst e
      have hd : decide ((zs.length : Int) < (zs.length : Int)) = false := by simp
      rw [List.take_length] at *
      clear hB c0 c1
      go_wp2_with fail
      go_ret
      exact ⟨rfl, below_next B1.out BB.out⟩
end Go.Proofs.Ytaiedpblfnaooab

namespace Go.Proofs.Ytaiedpblfnaooab

/-- No number is less than the one before it. -/
def ordB (key : Nat → Int) (n : Nat) : Bool := (List.range (n - 1)).all fun i => !decide (key (i + 1) < key i)
theorem ordB_no {key : Nat → Int} {n i : Nat} (h : i + 1 < n) (hk : key (i + 1) < key i) : ordB key n = false := by
  unfold ordB
  rw [List.all_eq_false]
  exact ⟨i, List.mem_range.2 (by omega), by simp [hk]⟩
theorem ordB_yes {key : Nat → Int} {n : Nat} (h : ∀ i, i + 1 < n → ¬ key (i + 1) < key i) : ordB key n = true := by
  unfold ordB
  rw [List.all_eq_true]
  intro i hi
  have := h i (by have := List.mem_range.1 hi; omega)
  simp; omega
theorem ordB_inv {key : Nat → Int} {n : Nat} (h : ordB key n = true) : ∀ i j, i ≤ j → j < n → key i ≤ key j := by
  unfold ordB at h
  rw [List.all_eq_true] at h
  intro i j hij
  induction j with
  | zero => intro _; have : i = 0 := by omega
            subst this; exact Int.le_refl _
  | succ j ih =>
    intro hj
    by_cases e : i = j + 1
    · subst e; exact Int.le_refl _
    · have h1 := ih (by omega) (by omega)
      have h2 := h j (List.mem_range.2 (by omega))
      simp at h2
      omega

/-- All before r are less than x, and none from r on. -/
def Fst (key : Nat → Int) (x : Int) (n r : Nat) : Prop := r ≤ n ∧ (∀ i, i < r → key i < x) ∧ (∀ i, r ≤ i → i < n → x ≤ key i)
theorem fst_ex {key : Nat → Int} (x : Int) {n : Nat} (h : ∀ i j, i ≤ j → j < n → key i ≤ key j) : ∃ r, Fst key x n r := by
  suffices H : ∀ m, m ≤ n → ∃ r, Fst key x m r from H n (Nat.le_refl _)
  intro m
  induction m with
  | zero => intro _; exact ⟨0, Nat.le_refl _, fun i hi => absurd hi (Nat.not_lt_zero _), fun i _ hi => absurd hi (Nat.not_lt_zero _)⟩
  | succ m ih =>
    intro hm
    obtain ⟨r, h0, h1, h2⟩ := ih (by omega)
    by_cases hx : key m < x
    · exact ⟨m + 1, Nat.le_refl _, fun i hi => Int.lt_of_le_of_lt (h i m (by omega) (by omega)) hx, fun i h3 h4 => by omega⟩
    · refine ⟨r, by omega, h1, fun i h3 h4 => ?_⟩
      by_cases e : i = m
      · subst e; omega
      · exact h2 i h3 (by omega)
/-- The walk from the left comes to it. -/
theorem fst_stop {key : Nat → Int} {x : Int} {n r i : Nat} (h : Fst key x n r) (hi : i ≤ r) (hs : i = n ∨ ¬ key i < x) : i = r := by
  obtain ⟨h0, h1, h2⟩ := h
  by_cases e : i = r
  · exact e
  · have := h1 i (by omega)
    rcases hs with hs | hs
    · omega
    · exact absurd this hs
theorem fst_next {key : Nat → Int} {x : Int} {n r i : Nat} (h : Fst key x n r) (hi : i ≤ r) (hn : i < n) (hs : key i < x) : i + 1 ≤ r := by
  obtain ⟨h0, h1, h2⟩ := h
  by_cases e : i = r
  · have := h2 i (by omega) hn; omega
  · omega
/-- The search by halves. -/
theorem fst_low {key : Nat → Int} {x : Int} {n r m : Nat} (h : Fst key x n r) (hn : m < n) (hs : key m < x) : m + 1 ≤ r := by
  obtain ⟨h0, h1, h2⟩ := h
  by_cases e : r ≤ m
  · have := h2 m e hn; omega
  · omega
theorem fst_high {key : Nat → Int} {x : Int} {n r m : Nat} (h : Fst key x n r) (hs : ¬ key m < x) : r ≤ m := by
  obtain ⟨h0, h1, h2⟩ := h
  by_cases e : r ≤ m
  · exact e
  · exact absurd (h1 m (by omega)) hs
end Go.Proofs.Ytaiedpblfnaooab

namespace Go.Proofs.Ytaiedpblfnaooab
open Go.ChangeShapes Go.WideShapes Go.ChangeAt Go.RowKit

/-- The key of the card with index i. -/
def kyAt (k st sz : Int) (cs : List Cd) (i : Nat) : Int := ((kv (hasB (cdAt cs i).a (cdAt cs i).b) (srt k st sz) : Nat) : Int)
def ordC (k st sz : Int) (cs : List Cd) : Bool := ordB (kyAt k st sz cs) cs.length

end Go.Proofs.Ytaiedpblfnaooab

namespace Go.Proofs.Ytaiedpblfnaooab
open Go.ChangeShapes Go.WideShapes Go.ChangeAt Go.RowKit

def cmpV (x y : Int) : Int := if x < y then -1 else if y < x then 1 else 0
end Go.Proofs.Ytaiedpblfnaooab

namespace Go.Proofs.Ytaiedpblfnaooab
open Go.ChangeShapes Go.WideShapes Go.ChangeAt Go.RowKit

/-- The method value: the key by a field. -/
def keyFn (s : ByteArray) (k st sz : Int) : Value := .func (.func 84) #[.agg #[.string s, .int .i8 k, .int .i16 st, .int .i16 sz]] #[]



end Go.Proofs.Ytaiedpblfnaooab

namespace Go.Proofs.Ytaiedpblfnaooab
open Go.ChangeShapes Go.WideShapes Go.ChangeAt Go.RowKit

theorem eRet {x y : Value} (h : x = y) : Ending.returned x = Ending.returned y := by rw [h]
def isR (ok v : Bool) : Value := .tuple #[.bool (ok && v), .int .i64 (if ok then 0 else 1)]
theorem isR_no (v : Bool) : .tuple #[.bool false, .int .i64 1] = isR false v := rfl
theorem isR_yes (v : Bool) : .tuple #[.bool v, .int .i64 0] = isR true v := by unfold isR; rw [Bool.true_and]; rfl
theorem isR_parts (ok v : Bool) : ∃ (x : Bool) (y : Int), isR ok v = .tuple #[.bool x, .int .i64 y] := ⟨_, _, rfl⟩
/-- A field's box, and what lies below. -/
def FBox (w W : World) (s : ByteArray) (k st sz : Int) : Prop := W.heap[w.heap.size]? = some (.cells #[.string s, .int .i8 k, .int .i16 st, .int .i16 sz] 29 (0, 0)) ∧ Below w.heap.size w W
theorem fBox_start (w : World) (s : ByteArray) (k st sz : Int) : FBox w (w.alloc (.cells #[.string s, .int .i8 k, .int .i16 st, .int .i16 sz] 29)) s k st sz := ⟨block_alloc _ _, below_new (Below.refl _ _) _⟩
theorem fBox_ab {w W W' : World} {s : ByteArray} {k st sz : Int} (h : FBox w W s k st sz) (hb : Ab W W') : FBox w W' s k st sz := ⟨hb.block h.1, h.2.trans (Below.mono hb h.2.size)⟩


end Go.Proofs.Ytaiedpblfnaooab

namespace Go.Proofs.Ytaiedpblfnaooab
open Go.ChangeShapes Go.WideShapes Go.ChangeAt Go.RowKit

def sdC (s : ByteArray) (k st sz : Int) (cs : List Cd) : Int := if deckOk cs = false then 1 else if fieldOk s k st sz = false then 1 else 0
def sdL (s : ByteArray) (k st sz : Int) (cs : List Cd) : List Cd := if sdC s k st sz cs = 0 then pmTo cs (srt k st sz) (srt k st sz).length else []
theorem sdC_a {s : ByteArray} {k st sz : Int} {cs : List Cd} (h : deckOk cs = false) : sdC s k st sz cs = 1 := by unfold sdC; rw [if_pos h]
theorem sdC_b {s : ByteArray} {k st sz : Int} {cs : List Cd} (h : deckOk cs = true) (h2 : fieldOk s k st sz = false) : sdC s k st sz cs = 1 := by unfold sdC; rw [if_neg (by rw [h]; decide), if_pos h2]
theorem sdC_c {s : ByteArray} {k st sz : Int} {cs : List Cd} (h : deckOk cs = true) (h2 : fieldOk s k st sz = true) : sdC s k st sz cs = 0 := by unfold sdC; rw [if_neg (by rw [h]; decide), if_neg (by rw [h2]; decide)]
theorem sdL_no {s : ByteArray} {k st sz : Int} {cs : List Cd} (h : sdC s k st sz cs = 1) : sdL s k st sz cs = [] := by unfold sdL; rw [if_neg (by rw [h]; decide)]
theorem sdL_yes {s : ByteArray} {k st sz : Int} {cs : List Cd} (h : sdC s k st sz cs = 0) : sdL s k st sz cs = pmTo cs (srt k st sz) (srt k st sz).length := by unfold sdL; rw [if_pos h]
def SdR (xs : List Cd) (c : Int) (w : World) (e : Ending) (w' : World) : Prop := ∃ v, e = .returned (.tuple #[v, .int .i64 c]) ∧ OwnCards w.heap.size xs v w' ∧ Below w.heap.size w w'
theorem sd_nil (c : Int) {w w1 : World} (hB : Below w.heap.size w w1) : SdR [] c w (.returned (.tuple #[.slice none 0 0, .int .i64 c])) w1 := ⟨_, rfl, ⟨rfl, .inl ⟨rfl, rfl⟩⟩, hB⟩
theorem sdL_len (s : ByteArray) (k st sz : Int) (cs : List Cd) : (sdL s k st sz cs).length ≤ cs.length := by
  unfold sdL
  split
  · rw [pmTo_len]; exact Nat.le_refl _
  · simp
theorem sdL_fits {w : World} {a : Option Addr} (s : ByteArray) (k st sz : Int) {cs : List Cd} (h : CardsIn w a cs) : ∀ i, i < (sdL s k st sz cs).length → (cdAt (sdL s k st sz cs) i).fits := by
  unfold sdL
  split
  · exact pm_fits _ (fun i hi => (h i hi).1) _
  · intro i hi; exact absurd hi (Nat.not_lt_zero _)
theorem slc_in {B : Nat} {zs : List Int} {v : Value} {w : World} (h : OwnInts B zs v w) : ∃ a c, v = .slice a zs.length c ∧ IntsIn w a zs ∧ ∀ k o, a = some ⟨k, o, none⟩ → k < w.heap.size := by
  obtain ⟨a, c, rfl, hi⟩ := ownInts_in h
  exact ⟨a, c, rfl, hi, fun k o e => by subst e; exact (World.ownsRow.lt h k rfl).2⟩

set_option maxRecDepth 100000 in
set_option maxHeartbeats 3200000 in
theorem iSortDeck_any (s : ByteArray) (k st sz : Int) (hs : s.size ≤ maxLen) (hk : I8 k) (ht : I16 st) (hz : I16 sz) (g : Nat) (cs : List Cd) (c : Nat) (w : World) (hg : g < w.heap.size) (hc : CardsIn w (some ⟨g, 0, none⟩) cs) :
    Calls Try.prog 36 #[.slice (some ⟨g, 0, none⟩) cs.length c, .agg #[.string s, .int .i8 k, .int .i16 st, .int .i16 sz]] w (SdR (sdL s k st sz cs) (sdC s k st sz cs) w) := by
  have D1 := Lib.hid fun W h => iDeckOk_any (some ⟨g, 0, none⟩) cs c W h
  have V := Lib.hid fun W => iVF_any s k st sz hs hk ht hz W
  have B0 := Lib.hid (fBox_start w s k st sz)
  have H0 := Lib.hid hc
  have G0 := Lib.hid hg
  clear hc hs hk ht hz hg
  cases h1 : deckOk cs
  · rw [h1] at D1
    have X := Lib.hid (show sdL s k st sz cs = [] ∧ sdC s k st sz cs = 1 from ⟨sdL_no (sdC_a h1), sdC_a h1⟩)
    clear h1 V
    rw [X.out.1, X.out.2]
    go_enter Try.func36, Try.ntmps36
    go_wp2_with (go_at_call 74; refine (D1.out _ (cardsIn_below H0.out B0.out.2)).mono ?_; rintro e w1 ⟨rfl, hB⟩; have B1 := Lib.hid (fBox_ab B0.out hB); have c0 := cell_of_block B1.out.1; clear hB)
    go_returns
    exact sd_nil _ B1.out.2
  rw [h1] at D1
  cases h2 : fieldOk s k st sz
  · rw [h2] at V
    have X := Lib.hid (show sdL s k st sz cs = [] ∧ sdC s k st sz cs = 1 from ⟨sdL_no (sdC_b h1 h2), sdC_b h1 h2⟩)
    clear h1 h2
    rw [X.out.1, X.out.2]
    go_enter Try.func36, Try.ntmps36
    go_wp2_with (first
      | (go_at_call 74; refine (D1.out _ (cardsIn_below H0.out B0.out.2)).mono ?_; rintro e w1 ⟨rfl, hB⟩; have B1 := Lib.hid (fBox_ab B0.out hB); have c0 := cell_of_block B1.out.1; clear hB)
      | (go_at_call 67; refine (V.out _).mono ?_; rintro e w2 ⟨rfl, hB⟩; have B2 := Lib.hid (fBox_ab B1.out hB); clear hB))
    go_returns
    exact sd_nil _ B2.out.2
  · have X := Lib.hid (show sdL s k st sz cs = pmTo cs (srt k st sz) (srt k st sz).length ∧ sdC s k st sz cs = 0 from ⟨sdL_yes (sdC_c h1 h2), sdC_c h1 h2⟩)
    have SI := srt_in h2
    have O := Lib.hid fun W => iSortOk s k st sz h2 W
    have P := Lib.hid fun ch hd W q1 q2 q3 q4 => iPassAll_any g cs (srt k st sz) c ch hd W q1 q2 q3 q4 (deckOk_80 h1) (by omega) SI.2
    rw [h2] at V
    clear h1 h2 SI
    rw [X.out.1, X.out.2]
    clear X
    generalize srt k st sz = zs at *
    go_enter Try.func36, Try.ntmps36
    go_wp2_with (first
      | (go_at_call 74; refine (D1.out _ (cardsIn_below H0.out B0.out.2)).mono ?_; rintro e w1 ⟨rfl, hB⟩; have B1 := Lib.hid (fBox_ab B0.out hB); have c0 := cell_of_block B1.out.1; clear hB)
      | (go_at_call 67; refine (V.out _).mono ?_; rintro e w2 ⟨rfl, hB⟩; have B2 := Lib.hid (fBox_ab B1.out hB); clear hB c0; have c0 := cell_of_block B2.out.1)
      | (go_at_call 80; refine (O.out _).mono ?_; rintro e w3 ⟨v3, rfl, hO, hB⟩; obtain ⟨a3, c3, rfl, hi, hl⟩ := slc_in hO; have B3 := Lib.hid (fBox_ab B2.out hB); have I3 := Lib.hid hi; have L3 := Lib.hid hl; clear hB c0 hO hi hl)
      | (go_at_call 76; refine (P.out _ _ _ (Nat.lt_of_lt_of_le G0.out B3.out.2.size) (cardsIn_below H0.out B3.out.2) I3.out L3.out).mono ?_; rintro e w4 ⟨v4, rfl, hO, hB⟩; have O4 := Lib.hid hO; have B4 := Lib.hid (B3.out.2.trans (Below.mono hB B3.out.2.size)); clear hO hB))
    go_returns
    exact ⟨_, rfl, ownCards_weaken O4.out B3.out.2.size, B4.out⟩

set_option maxRecDepth 100000 in
set_option maxHeartbeats 3200000 in
theorem sSortDeck_any (s : ByteArray) (k st sz : Int) (hs : s.size ≤ maxLen) (ht : I16 st) (hz : I16 sz) (g : Nat) (cs : List Cd) (c : Nat) (w : World) (hc : CardsIn w (some ⟨g, 0, none⟩) cs) :
    Calls Try.prog 35 #[.slice (some ⟨g, 0, none⟩) cs.length c, .agg #[.string s, .int .i8 k, .int .i16 st, .int .i16 sz]] w (SdR (sdL s k st sz cs) (sdC s k st sz cs) w) := by
  have D1 := Lib.hid fun W h => sDeckOk_any (some ⟨g, 0, none⟩) cs c W h
  have V := Lib.hid fun W h0 h1 h2 h3 => sVF_any s k st sz hs ht hz w.heap.size 0 W h0 h1 h2 h3
  have B0 := Lib.hid (fBox_start w s k st sz)
  have H0 := Lib.hid hc
  clear hc hs ht hz
  cases h1 : deckOk cs
  · rw [h1] at D1
    have X := Lib.hid (show sdL s k st sz cs = [] ∧ sdC s k st sz cs = 1 from ⟨sdL_no (sdC_a h1), sdC_a h1⟩)
    clear h1 V
    rw [X.out.1, X.out.2]
    go_enter Try.func35, Try.ntmps35
    go_wp2_with (go_at_call 70; refine (D1.out _ (cardsIn_below H0.out B0.out.2)).mono ?_; rintro e w1 ⟨rfl, hB⟩; have B1 := Lib.hid (fBox_ab B0.out hB); clear hB)
    go_returns
    exact ⟨_, rfl, own_nilC rfl B1.out.2.size, B1.out.2.trans (Below.mono (below_new (Below.refl _ _) _) B1.out.2.size)⟩
  rw [h1] at D1
  cases h2 : fieldOk s k st sz
  · rw [h2] at V
    have X := Lib.hid (show sdL s k st sz cs = [] ∧ sdC s k st sz cs = 1 from ⟨sdL_no (sdC_b h1 h2), sdC_b h1 h2⟩)
    clear h1 h2
    rw [X.out.1, X.out.2]
    go_enter Try.func35, Try.ntmps35
    go_wp2_with (first
      | (go_at_call 70; refine (D1.out _ (cardsIn_below H0.out B0.out.2)).mono ?_; rintro e w1 ⟨rfl, hB⟩; have B1 := Lib.hid (fBox_ab B0.out hB); clear hB)
      | (go_at_call 65; refine (V.out _ (cell_of_block B1.out.1 0) (cell_of_block B1.out.1 1) (cell_of_block B1.out.1 2) (cell_of_block B1.out.1 3)).mono ?_; rintro e w2 ⟨rfl, hB⟩; have B2 := Lib.hid (fBox_ab B1.out hB); clear hB))
    go_returns
    exact ⟨_, rfl, own_nilC rfl B2.out.2.size, B2.out.2.trans (Below.mono (below_new (Below.refl _ _) _) B2.out.2.size)⟩
  · have X := Lib.hid (show sdL s k st sz cs = pmTo cs (srt k st sz) (srt k st sz).length ∧ sdC s k st sz cs = 0 from ⟨sdL_yes (sdC_c h1 h2), sdC_c h1 h2⟩)
    have SI := srt_in h2
    have O := Lib.hid fun W h1 h3 h4 => sSortOk s k st sz h2 w.heap.size 0 W h1 h3 h4
    have P := Lib.hid fun ch hd W q1 q2 => sMany_any g cs (srt k st sz) c ch hd W q1 q2 (deckOk_80 h1) (by omega) SI.2
    rw [h2] at V
    clear h1 h2 SI
    rw [X.out.1, X.out.2]
    clear X
    generalize srt k st sz = zs at *
    go_enter Try.func35, Try.ntmps35
    go_wp2_with (first
      | (go_at_call 70; refine (D1.out _ (cardsIn_below H0.out B0.out.2)).mono ?_; rintro e w1 ⟨rfl, hB⟩; have B1 := Lib.hid (fBox_ab B0.out hB); clear hB)
      | (go_at_call 65; refine (V.out _ (cell_of_block B1.out.1 0) (cell_of_block B1.out.1 1) (cell_of_block B1.out.1 2) (cell_of_block B1.out.1 3)).mono ?_; rintro e w2 ⟨rfl, hB⟩; have B2 := Lib.hid (fBox_ab B1.out hB); clear hB)
      | (go_at_call 79; refine (O.out _ (cell_of_block B2.out.1 1) (cell_of_block B2.out.1 2) (cell_of_block B2.out.1 3)).mono ?_; rintro e w3 ⟨v3, rfl, hO, hB⟩; obtain ⟨a3, c3, rfl, hi, hl⟩ := slc_in hO; have B3 := Lib.hid (fBox_ab B2.out hB); have I3 := Lib.hid hi; clear hB hO hi hl)
      | (go_at_call 72; refine (P.out _ _ _ (cardsIn_below H0.out B3.out.2) I3.out).mono ?_; rintro e w4 ⟨v4, rfl, hO, hB⟩; have O4 := Lib.hid hO; have B4 := Lib.hid (B3.out.2.trans (Below.mono hB B3.out.2.size)); clear hO hB))
    go_returns
    exact ⟨_, rfl, ownCards_weaken O4.out B3.out.2.size, B4.out⟩
end Go.Proofs.Ytaiedpblfnaooab

namespace Go.Proofs.Ytaiedpblfnaooab
open Go.ChangeShapes Go.WideShapes Go.ChangeAt Go.RowKit

set_option maxRecDepth 100000 in
set_option maxHeartbeats 1600000 in
theorem markIntsO_any (n g k c : Nat) (w : World) (hW0 : Wb w g n) (hg : g < w.heap.size) (hk : k + n ≤ 5000000) :
    Calls Try.prog 27 #[.slice (some ⟨g, 0, none⟩) n c, .int .i64 (k : Int)] w fun e w' => e = .returned (.int .i64 ((k + n : Nat) : Int)) ∧ Oth g w w' := by
  have W0 := Lib.hid hW0
  clear hW0
  go_enter Try.func27, Try.ntmps27
  go_wp2
  go_loopw [1, 5] (fun q i wr => ∃ j q0 : Nat, j ≤ n ∧ i = .int .i64 j ∧ q = .int .i64 (q0 : Int) ∧ q0 = k + j ∧ Wb wr g n ∧ Oth g w wr) (fun _ i _ => n - (intOf i).toNat)
  case atStart => exact ⟨0, k, Nat.zero_le _, rfl, rfl, by omega, W0.out, Oth.refl _ _⟩
  case round =>
    obtain ⟨j, q0, hj, rfl, rfl, hq, hW, hO⟩ := hrel
    have Q := Lib.hid hq
    have WW := Lib.hid hW
    have OO := Lib.hid hO
    have gl : g < wr.heap.size := Nat.lt_of_lt_of_le hg hO.size
    by_cases hkl : j < n
    · have hd : decide ((j : Int) < (n : Int)) = true := by simpa using hkl
      have i1 : (0 : Int) ≤ (j : Int) := by omega
      have i2 : (j : Int) < (n : Int) := by omega
      obtain ⟨y0, r0⟩ := hW.1 j hkl
      have fz := hW.2 j hkl
      have x1 : IntKind.i64.wrap ((q0 : Int) + 1) = (q0 : Int) + 1 := IntWalk.i64_in _ (by omega)
      clear hq hW hO
      go_wp2
      exact ⟨⟨j + 1, q0 + 1, hkl, by rw [Int.natCast_succ], by rw [Int.natCast_succ], by have := Q.out; omega, WW.out.set _ (by omega) _, OO.out.set _ _⟩, by (simp [intOf]) <;> omega⟩
    · have e : j = n := by omega
      subst e
      have hd : decide ((j : Int) < (j : Int)) = false := by simp
      clear hW hO
      have hq2 := hq
      subst hq2
      clear hq
      go_wp2
      go_ret
      exact ⟨rfl, OO.out⟩

theorem wb_oth {w w' : World} {g q m : Nat} (h : Wb w g m) (ho : Oth q w w') (hne : g ≠ q) (hl : g < w.heap.size) : Wb w' g m := by
  have e := ho.block g hne hl
  exact ⟨fun j hj => (h.1 j hj).imp fun v hv => (by simpa [World.cell?, e] using hv), fun j hj => by simpa [World.frozen?, e] using h.2 j hj⟩
theorem mo_two (hs : List Int) (h : moC hs ≠ 0) : moC hs = 2 := by
  unfold moC at h ⊢
  split
  · rename_i q; exact absurd (if_pos q) h
  · rfl
theorem mo_ok {hs : List Int} (h : moC hs = 0) : ∀ i, i < hs.length → 0 ≤ hs.getD i 0 ∧ hs.getD i 0 ≤ 95 := fun i hi => by
  unfold moC at h
  split at h
  · rename_i q
    refine q _ ?_
    rw [List.getD, List.getElem?_eq_getElem hi]
    exact List.getElem_mem hi
  · cases h
theorem mo_yes {hs : List Int} (h : ∀ i, i < hs.length → isHo (hs.getD i 0) = true) : moC hs = 0 := by
  unfold moC
  rw [if_pos]
  intro z hz
  obtain ⟨i, hi, e⟩ := List.mem_iff_getElem.1 hz
  have := isHo_in (h i hi)
  rw [List.getD, List.getElem?_eq_getElem hi] at this
  rw [← e]
  exact this
theorem mo_no {hs : List Int} {i : Nat} (hi : i < hs.length) (h : isHo (hs.getD i 0) = false) : moC hs = 2 := by
  refine mo_two hs fun e => ?_
  have := mo_ok e i hi
  unfold isHo at h
  rw [decide_eq_true this] at h
  cases h
def pmC (cs : List Cd) (hs : List Int) : Int := if deckOk cs = false then 1 else if moC hs = 0 then (if 200 < hs.length then 3 else 0) else 2
theorem pmC_1 {cs : List Cd} {hs : List Int} (h : deckOk cs = false) : pmC cs hs = 1 := by unfold pmC; rw [if_pos h]
theorem pmC_2 {cs : List Cd} {hs : List Int} (h : deckOk cs = true) (h2 : moC hs ≠ 0) : pmC cs hs = 2 := by unfold pmC; rw [if_neg (by rw [h]; decide), if_neg h2]
theorem pmC_3 {cs : List Cd} {hs : List Int} (h : deckOk cs = true) (h2 : moC hs = 0) (h3 : 200 < hs.length) : pmC cs hs = 3 := by unfold pmC; rw [if_neg (by rw [h]; decide), if_pos h2, if_pos h3]
theorem pmC_0 {cs : List Cd} {hs : List Int} (h : deckOk cs = true) (h2 : moC hs = 0) (h3 : ¬ 200 < hs.length) : pmC cs hs = 0 := by unfold pmC; rw [if_neg (by rw [h]; decide), if_pos h2, if_neg h3]
def pmL (cs : List Cd) (hs : List Int) : List Cd := if pmC cs hs = 0 then pmTo cs hs hs.length else []
theorem pmL_no {cs : List Cd} {hs : List Int} {c : Int} (h : pmC cs hs = c) (h0 : c ≠ 0) : pmL cs hs = [] ∧ pmC cs hs = c := ⟨by unfold pmL; rw [if_neg (by rw [h]; exact h0)], h⟩
theorem pmL_yes {cs : List Cd} {hs : List Int} (h : pmC cs hs = 0) : pmL cs hs = pmTo cs hs hs.length ∧ pmC cs hs = 0 := ⟨by unfold pmL; rw [if_pos h], h⟩
theorem pmL_len (cs : List Cd) (hs : List Int) : (pmL cs hs).length ≤ cs.length := by
  unfold pmL
  split
  · rw [pmTo_len]; exact Nat.le_refl _
  · simp
theorem pmL_fits {w : World} {a : Option Addr} (hs : List Int) {cs : List Cd} (h : CardsIn w a cs) : ∀ i, i < (pmL cs hs).length → (cdAt (pmL cs hs) i).fits := by
  unfold pmL
  split
  · exact pm_fits _ (fun i hi => (h i hi).1) _
  · intro i hi; exact absurd hi (Nat.not_lt_zero _)

set_option maxRecDepth 100000 in
set_option maxHeartbeats 3200000 in
theorem iPassMany_any (g : Nat) (cs : List Cd) (hs : List Int) (c ch : Nat) (hd : Option Addr) (w : World) (hg : g < w.heap.size) (hC : CardsIn w (some ⟨g, 0, none⟩) cs) (hH : IntsIn w hd hs) (hlt : ∀ k o, hd = some ⟨k, o, none⟩ → k < w.heap.size) (nh : hs.length ≤ 1048576) :
    Calls Try.prog 23 #[.slice (some ⟨g, 0, none⟩) cs.length c, .slice hd hs.length ch] w (SdR (pmL cs hs) (pmC cs hs) w) := by
  have D1 := Lib.hid (iDeckOk_any (some ⟨g, 0, none⟩) cs c w hC)
  have M := Lib.hid fun W h => iMaskOf_any hd hs ch W h (by omega)
  have H := Lib.hid hH
  have X := Lib.hid fun h1 h2 W (hb : Below w.heap.size w W) => iPassAll_any g cs hs c ch hd W (Nat.lt_of_lt_of_le hg hb.size) (cardsIn_below hC hb) (intsIn_below hH hb) (fun k o e => Nat.lt_of_lt_of_le (hlt k o e) hb.size) (deckOk_80 h1) nh (mo_ok h2)
  clear hC hH hlt hg
  cases h1 : deckOk cs
  · rw [h1] at D1
    have Y := Lib.hid (pmL_no (pmC_1 (hs := hs) h1) (by decide))
    clear h1 X M
    rw [Y.out.1, Y.out.2]
    go_enter Try.func23, Try.ntmps23
    go_wp2_with (go_at_call 74; refine D1.out.mono ?_; rintro e w1 ⟨rfl, hB⟩; have B1 := Lib.hid (show Below w.heap.size w w1 from hB); clear hB)
    go_returns
    exact sd_nil _ B1.out
  rw [h1] at D1
  unfold moV at M
  generalize moR b0 hs = ra at *
  generalize moR b1 hs = rb at *
  by_cases h2 : moC hs = 0
  · rw [h2] at M
    by_cases h3 : 200 < hs.length
    · have Y := Lib.hid (pmL_no (pmC_3 h1 h2 h3) (by decide))
      have d3 : decide ((200 : Int) < (hs.length : Int)) = true := by simp; omega
      clear h1 h2 h3 X
      rw [Y.out.1, Y.out.2]
      go_enter Try.func23, Try.ntmps23
      go_wp2_with (first
        | (go_at_call 74; refine D1.out.mono ?_; rintro e w1 ⟨rfl, hB⟩; have B1 := Lib.hid (show Below w.heap.size w w1 from hB); clear hB)
        | (go_at_call 75; refine (M.out _ (intsIn_below H.out B1.out)).mono ?_; rintro e w2 ⟨rfl, hB⟩; have B2 := Lib.hid (B1.out.trans (Below.mono hB B1.out.size)); clear hB))
      go_returns
      exact sd_nil _ (below_new B2.out _)
    · have Y := Lib.hid (pmL_yes (pmC_0 h1 h2 h3))
      have d3 : decide ((200 : Int) < (hs.length : Int)) = false := by simp; omega
      have X := Lib.hid (X.out h1 h2)
      clear h1 h2 h3
      rw [Y.out.1, Y.out.2]
      clear Y
      go_enter Try.func23, Try.ntmps23
      go_wp2_with (first
        | (go_at_call 74; refine D1.out.mono ?_; rintro e w1 ⟨rfl, hB⟩; have B1 := Lib.hid (show Below w.heap.size w w1 from hB); clear hB)
        | (go_at_call 75; refine (M.out _ (intsIn_below H.out B1.out)).mono ?_; rintro e w2 ⟨rfl, hB⟩; have B2 := Lib.hid (B1.out.trans (Below.mono hB B1.out.size)); clear hB)
        | (go_at_call 76; have B3 := Lib.hid (below_new B2.out (.cells #[.int .u64 ra, .int .u64 rb] 50)); refine (X.out _ B3.out).mono ?_; rintro e w4 ⟨v4, rfl, hO, hB⟩; have O4 := Lib.hid hO; have B4 := Lib.hid (B3.out.trans (Below.mono hB B3.out.size)); clear hO hB))
      go_returns
      exact ⟨_, rfl, ownCards_weaken O4.out B3.out.size, B4.out⟩
  · have Y := Lib.hid (pmL_no (pmC_2 h1 h2) (by decide))
    rw [mo_two hs h2] at M
    clear h1 h2 X
    rw [Y.out.1, Y.out.2]
    go_enter Try.func23, Try.ntmps23
    go_wp2_with (first
      | (go_at_call 74; refine D1.out.mono ?_; rintro e w1 ⟨rfl, hB⟩; have B1 := Lib.hid (show Below w.heap.size w w1 from hB); clear hB)
      | (go_at_call 75; refine (M.out _ (intsIn_below H.out B1.out)).mono ?_; rintro e w2 ⟨rfl, hB⟩; have B2 := Lib.hid (B1.out.trans (Below.mono hB B1.out.size)); clear hB))
    go_returns
    exact sd_nil _ (below_new B2.out _)

set_option maxRecDepth 100000 in
set_option maxHeartbeats 3200000 in
theorem sPassMany_any (g : Nat) (cs : List Cd) (hs : List Int) (c ch : Nat) (hd : Option Addr) (w : World) (hC : CardsIn w (some ⟨g, 0, none⟩) cs) (hH : IntsIn w hd hs) (nh : hs.length ≤ 1048576) :
    Calls Try.prog 20 #[.slice (some ⟨g, 0, none⟩) cs.length c, .slice hd hs.length ch] w (SdR (pmL cs hs) (pmC cs hs) w) := by
  have D1 := Lib.hid (sDeckOk_any (some ⟨g, 0, none⟩) cs c w hC)
  have H := Lib.hid hH
  have X := Lib.hid fun h1 h2 W (hb : Below w.heap.size w W) => sMany_any g cs hs c ch hd W (cardsIn_below hC hb) (intsIn_below hH hb) (deckOk_80 h1) nh h2
  clear hC hH
  cases h1 : deckOk cs
  · rw [h1] at D1
    have Y := Lib.hid (pmL_no (pmC_1 (hs := hs) h1) (by decide))
    clear h1 X
    rw [Y.out.1, Y.out.2]
    go_enter Try.func20, Try.ntmps20
    go_wp2_with (go_at_call 70; refine D1.out.mono ?_; rintro e w1 ⟨rfl, hB⟩; have B1 := Lib.hid (show Below w.heap.size w w1 from hB); clear hB)
    go_returns
    exact ⟨_, rfl, own_nilC rfl B1.out.size, B1.out.trans (Below.mono (below_new (Below.refl _ _) _) B1.out.size)⟩
  rw [h1] at D1
  have OK1 := Lib.hid h1
  clear h1
  go_enter Try.func20, Try.ntmps20
  go_wp2_with (go_at_call 70; refine D1.out.mono ?_; rintro e w1 ⟨rfl, hB⟩; have B1 := Lib.hid (show Below w.heap.size w w1 from hB); clear hB)
  go_loopw [6] (fun i wr => ∃ j : Nat, j ≤ hs.length ∧ i = .int .i64 j ∧ (∀ k, k < j → isHo (hs.getD k 0) = true) ∧ Below w.heap.size w wr) (fun i _ => hs.length - (intOf i).toNat)
  case atStart => exact ⟨0, Nat.zero_le _, rfl, fun k hk => absurd hk (Nat.not_lt_zero _), B1.out⟩
  case round =>
    obtain ⟨j, hj, rfl, hM, hB⟩ := hrel
    have BB := Lib.hid hB
    have M := Lib.hid hM
    clear hM B1
    by_cases hjl : j < hs.length
    · have hdd : decide ((j : Int) < (hs.length : Int)) = true := by simpa using hjl
      obtain ⟨b1, o1, rfl, hb1, p0⟩ := H.out j hjl
      have d0 := (hB.cell (p := ⟨b1, o1 + j, none⟩) hb1).trans p0
      have y1 : b1 < wr.heap.size := Nat.lt_of_lt_of_le hb1 hB.size
      have i1 : (0 : Int) ≤ (j : Int) := by omega
      have i2 : (j : Int) < (hs.length : Int) := by omega
      clear hB p0
      cases hh : isHo (hs.getD j 0)
      · have S := sHoleP hh
        have Y := Lib.hid (pmL_no (pmC_2 OK1.out (by rw [mo_no hjl hh]; decide)) (by decide))
        clear hh X
        generalize hs.getD j 0 = h at *
        go_wp2_with (go_at_call 71; refine (S.out _).mono ?_; rintro e w2 ⟨rfl, rfl⟩)
        go_returns
        rw [Y.out.1, Y.out.2]
        exact ⟨_, rfl, own_nilC rfl BB.out.size, BB.out.trans (Below.mono (below_new (Below.refl _ _) _) BB.out.size)⟩
      · have S := sHoleP hh
        obtain ⟨h, h9⟩ : ∃ h, h = hs.getD j 0 := ⟨_, rfl⟩
        rw [← h9] at d0 S hh
        have HH := Lib.hid hh
        have H9 := Lib.hid h9
        clear hh h9
        go_wp2_with (go_at_call 71; refine (S.out _).mono ?_; rintro e w2 ⟨rfl, rfl⟩)
        exact ⟨⟨j + 1, hjl, by rw [Int.natCast_succ], fun k hk => (by
          by_cases e : k = j
          · subst e; rw [← H9.out]; exact HH.out
          · exact M.out k (by omega)), BB.out⟩, by (simp [intOf]) <;> omega⟩
    · have e : j = hs.length := by omega
      subst e
      have hdd : decide ((hs.length : Int) < (hs.length : Int)) = false := by simp
      have m0 := mo_yes M.out
      clear hB
      by_cases h3 : 200 < hs.length
      · have Y := Lib.hid (pmL_no (pmC_3 OK1.out m0 h3) (by decide))
        have d3 : decide ((200 : Int) < (hs.length : Int)) = true := by simp; omega
        clear m0 h3 X M
        go_wp2
        go_returns
        rw [Y.out.1, Y.out.2]
        exact ⟨_, rfl, own_nilC rfl BB.out.size, BB.out.trans (Below.mono (below_new (Below.refl _ _) _) BB.out.size)⟩
      · have Y := Lib.hid (pmL_yes (pmC_0 OK1.out m0 h3))
        have d3 : decide ((200 : Int) < (hs.length : Int)) = false := by simp; omega
        have X := Lib.hid (X.out OK1.out (mo_ok m0))
        clear m0 h3 M
        go_wp2_with (go_at_call 72; refine (X.out _ BB.out).mono ?_; rintro e w4 ⟨v4, rfl, hO, hB⟩; have O4 := Lib.hid hO; have B4 := Lib.hid (BB.out.trans (Below.mono hB BB.out.size)); clear hO hB)
        go_returns
        rw [Y.out.1, Y.out.2]
        exact ⟨_, rfl, ownCards_weaken O4.out BB.out.size, B4.out⟩
end Go.Proofs.Ytaiedpblfnaooab
