/- Several texts in one, as a claim has at most 60 files: VMix CardEq Same DeckS DeckI RngO NuS SplS FloM PeL FdMk Door. -/
import Derived.Test.YtnbijfeidgddmaaGreatDoorRsZ2
import Derived.Deep.DeepCutAuto
import Derived.Test.YtnbijfeidgddmaaGreatDoorRsZ0
import Derived.Laws.StructEq
import Derived.KernelRfl
import Derived.Carry
import Derived.Test.YtnbijfeidgddmaaGreatDoorRsZ1
import Derived.Laws.MakeOwn
import Derived.Laws.DeepStrings4
import Derived.Stop.LaidErr
import Derived.RowKitTokens
import Derived.Test.YtnbijfeidgddmaaGreatDoorFrame
import Derived.Test.YtnbijfeidgddmaaGreatDoorCards
import Derived.Test.YtnbijfeidgddmaaGreatDoorTie
import Derived.LaidMore
import Derived.Lay
import Derived.SevenTiedAt
import Derived.Stop.Joined
namespace Go.Proofs.YtnbijfeidgddmaaGreatDoor
open Go.ChangeShapes Go.WideShapes Go.ChangeAt Go.RowKit

theorem mostP_le {z p : Int} : p ≤ mostP z ↔ p ≤ 8 ∧ 2 * p ≤ z := by
  unfold mostP
  split <;> omega














end Go.Proofs.YtnbijfeidgddmaaGreatDoor

namespace Go.Proofs.YtnbijfeidgddmaaGreatDoor
open Go.ChangeShapes Go.WideShapes Go.ChangeAt Go.RowKit

theorem eq_mask9 (a b c d : Int) (w : World) : (Op.equalIn 9999 51 (.agg #[.int .u64 a, .int .u64 b]) (.agg #[.int .u64 c, .int .u64 d])).run Tryz.prog w = .ok (a == c && b == d) w := by
  have u3 := Tryz.underlying49
  have a3 := Tryz.isAgg49
  have z3 := Tryz.sizeOf49
  rw [show (9999 : Nat) = 9998 + 1 from rfl, Op.equalIn]
  simp only [Sem.run_bind, run_underlying Tryz.underlying51, Result.andThen_ok]
  simp only [Std.Legacy.Range.forIn_eq_forIn_range', Std.Legacy.Range.size, Nat.sub_zero, Nat.add_sub_cancel, Nat.div_one, List.range'_succ, List.range'_zero, List.forIn_cons, List.forIn_nil]
  go_simp
  by_cases h1 : a = c <;> by_cases h2 : b = d <;> simp [h1, h2]

theorem eq_card (s t : ByteArray) (a b c d : Int) (w : World) : (Op.equalIn 10000 80 (.agg #[.string s, .int .u64 a, .int .u64 b]) (.agg #[.string t, .int .u64 c, .int .u64 d])).run Tryz.prog w = .ok (s == t && (a == c && b == d)) w := by
  have us := Tryz.underlying9
  have ag := Tryz.isAgg9
  have zs := Tryz.sizeOf9
  have am := Tryz.isAgg51
  have zm := Tryz.sizeOf51
  have em := eq_mask9
  have hS : Tryz.prog.underlying 80 = some (.struct (Tryz.prog.fieldsOf 80)) := by kernel_rfl
  rw [show (10000 : Nat) = 9999 + 1 from rfl, run_equalIn_struct w 9999 80 _ _ hS (by kernel_rfl)]
  simp only [Program.fieldsOf, Tryz.underlying80]
  go_simp
  rw [beq_toListBytes]
  by_cases h0 : s.toList = t.toList <;> by_cases h1 : a = c <;> by_cases h2 : b = d <;> simp [h0, h1, h2]
end Go.Proofs.YtnbijfeidgddmaaGreatDoor

namespace Go.Proofs.YtnbijfeidgddmaaGreatDoor
open Go.ChangeShapes Go.WideShapes Go.ChangeAt Go.RowKit

def Cd.eqb (x y : Cd) : Bool := x.s == y.s && (x.a == y.a && x.b == y.b)
def sameTo (cs ds : List Cd) : Nat → Bool
  | 0 => true
  | k + 1 => sameTo cs ds k && (cdAt cs k).eqb (cdAt ds k)
def sameC (cs ds : List Cd) : Bool := decide (cs.length = ds.length) && sameTo cs ds cs.length
theorem sameC_len {cs ds : List Cd} (h : ¬ cs.length = ds.length) : sameC cs ds = false := by unfold sameC; simp [h]
theorem sameTo_no {cs ds : List Cd} {k : Nat} (h : (cdAt cs k).eqb (cdAt ds k) = false) : ∀ n, k < n → sameTo cs ds n = false
  | 0, hk => absurd hk (Nat.not_lt_zero _)
  | n + 1, hk => by
    unfold sameTo
    by_cases e : k = n
    · subst e; simp [h]
    · rw [sameTo_no h n (by omega)]; rfl
theorem sameC_no {cs ds : List Cd} {k : Nat} (hk : k < cs.length) (h : (cdAt cs k).eqb (cdAt ds k) = false) : sameC cs ds = false := by unfold sameC; rw [sameTo_no h _ hk]; simp
theorem sameC_yes {cs ds : List Cd} (hl : cs.length = ds.length) (h : sameTo cs ds cs.length = true) : sameC cs ds = true := by unfold sameC; rw [h, decide_eq_true hl]; rfl
theorem retB {x y : Bool} (h : y = x) : Ending.returned (.bool x) = Ending.returned (.bool y) := by rw [h]




end Go.Proofs.YtnbijfeidgddmaaGreatDoor

namespace Go.Proofs.YtnbijfeidgddmaaGreatDoor
open Go.ChangeShapes Go.WideShapes Go.ChangeAt Go.RowKit

def namesTo (cs : List Cd) (i : Nat) : List ByteArray := (List.range i).map fun j => (cdAt cs j).s
def okTo (cs : List Cd) : Nat → Bool
  | 0 => true
  | i + 1 => okTo cs i && (cardOk (cdAt cs i).s (cdAt cs i).b && !hasN (namesTo cs i) (cdAt cs i).s)
def deckOk (cs : List Cd) : Bool := decide (cs.length ≤ 80) && okTo cs cs.length
theorem namesTo_next (cs : List Cd) (i : Nat) : namesTo cs (i + 1) = namesTo cs i ++ [(cdAt cs i).s] := by unfold namesTo; rw [List.range_succ, List.map_append]; rfl
theorem namesTo_len (cs : List Cd) (i : Nat) : (namesTo cs i).length = i := by unfold namesTo; simp
theorem bytes_beq (t s : ByteArray) : (t == s) = (t.data.toList == s.data.toList) := by rw [beq_toListBytes, ByteArray.toList_eq, ByteArray.toList_eq]
theorem hasN_next (cs : List Cd) (k : Nat) (s : ByteArray) : hasN (namesTo cs (k + 1)) s = (hasN (namesTo cs k) s || ((cdAt cs k).s == s)) := by
  rw [namesTo_next, bytes_beq]; unfold hasN; simp
theorem hasN_mono {cs : List Cd} {k : Nat} {s : ByteArray} (h : ((cdAt cs k).s == s) = true) : ∀ n, k < n → hasN (namesTo cs n) s = true
  | 0, hk => absurd hk (Nat.not_lt_zero _)
  | n + 1, hk => by
    rw [hasN_next]
    by_cases e : k = n
    · subst e; rw [h, Bool.or_true]
    · rw [hasN_mono h n (by omega)]; rfl
theorem okTo_no {cs : List Cd} {i : Nat} (h : okTo cs (i + 1) = false) : ∀ n, i < n → okTo cs n = false
  | 0, hk => absurd hk (Nat.not_lt_zero _)
  | n + 1, hk => by
    by_cases e : i = n
    · subst e; exact h
    · unfold okTo; rw [okTo_no h n (by omega)]; rfl
theorem deckOk_long {cs : List Cd} (h : ¬ cs.length ≤ 80) : deckOk cs = false := by unfold deckOk; simp [h]
theorem deckOk_no {cs : List Cd} {i : Nat} (hi : i < cs.length) (h : okTo cs (i + 1) = false) : deckOk cs = false := by unfold deckOk; rw [okTo_no h _ hi, Bool.and_false]
theorem deckOk_yes {cs : List Cd} (h : cs.length ≤ 80) (h1 : okTo cs cs.length = true) : deckOk cs = true := by unfold deckOk; rw [h1, decide_eq_true h]; rfl
theorem okTo_card {cs : List Cd} {i : Nat} (h : cardOk (cdAt cs i).s (cdAt cs i).b = false) : okTo cs (i + 1) = false := by unfold okTo; rw [h]; simp
theorem okTo_name {cs : List Cd} {i : Nat} (h : hasN (namesTo cs i) (cdAt cs i).s = true) : okTo cs (i + 1) = false := by unfold okTo; rw [h]; simp
theorem okTo_yes {cs : List Cd} {i : Nat} (h0 : okTo cs i = true) (h1 : cardOk (cdAt cs i).s (cdAt cs i).b = true) (h2 : hasN (namesTo cs i) (cdAt cs i).s = false) : okTo cs (i + 1) = true := by unfold okTo; rw [h0, h1, h2]; rfl

end Go.Proofs.YtnbijfeidgddmaaGreatDoor

namespace Go.Proofs.YtnbijfeidgddmaaGreatDoor
open Go.ChangeShapes Go.WideShapes Go.ChangeAt Go.RowKit

theorem run_makeMapN {P : Program} {t k e : TypeId} (ht : P.underlying t = some (.map k e)) (n : Int) (w : World) : (Instr.makeMap t (some (.int .i64 n))).run P w = .ok (.map (some w.heap.size)) (w.alloc (.map #[] 0)) := by
  unfold Instr.makeMap
  simp [go_sem, run_underlying ht]
  try rfl

theorem namesTo_zero (cs : List Cd) : namesTo cs 0 = [] := rfl
theorem zero_bool (w : World) : (zeroValue 4).run Tryz.prog w = .ok (.bool false) w := by kernel_rfl

end Go.Proofs.YtnbijfeidgddmaaGreatDoor

namespace Go.Proofs.YtnbijfeidgddmaaGreatDoor
open Go.ChangeShapes Go.WideShapes Go.ChangeAt Go.RowKit

set_option maxHeartbeats 1000000 in
theorem wp_rangeO {α : Type} {P : Program} {g : Operand} {ps : Array Tmp} {assign body : Code} {Q : Exit → Act → World → Prop} {a : Act} {w : World}
    {gf : Nat} {lb : Array Value} (hg : a.eval g = .func (.func gf) #[] lb) (eg : ∀ args w, (callFunc gf args).run P w = .ok (.enter gf args) w)
    {encs : α → Array Value} {Kp St : World → World → Prop} {S Sp : List α → Prop} {Ask : List α → α → Prop} {Bd : List α → Prop}
    (hseq : SeqBy P gf lb encs Kp St S Sp Ask Bd w) (hps : ∀ x, (encs x).size = ps.size)
    (hKt : ∀ {A B C : World}, Kp A B → Kp B C → Kp A C) (hKb : ∀ A B, Below w.heap.size A B → Kp A B)
    (hSt : ∀ A B, St A B → ∀ k, w.heap.size ≤ k → k < A.heap.size → B.heap[k]? = A.heap[k]?)
    (I : List α → World → Prop) (Ix : Code → List α → World → Prop)
    (hI : ∀ s A B, I s A → St A B → I s B) (hIx : ∀ c s A B, Ix c s A → St A B → Ix c s B)
    (hIa : ∀ s A o, w.heap.size ≤ A.heap.size → I s A → I s (A.alloc o)) (hIp : ∀ s A k o o', w.heap.size ≤ k → A.heap[k]? = some o → o.isCells = false → I s A → I s (A.putObj k o'))
    (hIxp : ∀ c s A k o o', w.heap.size ≤ k → A.heap[k]? = some o → o.isCells = false → Ix c s A → Ix c s (A.putObj k o'))
    (hBd : ∀ s A, I s A → Bd s) (h0 : I [] w) (a₁ : α → Act)
    (hassign : ∀ (l : Nat) (x : α) (W : World) (K : Act → World → Prop), K (a₁ x) W →
      assign.wpIn (Fence.wide.inRound l) 0 P (Exit.then K (fun _ _ _ => False)) { tmps := (ps.zip (encs x)).foldl (fun t (p, v) => t.setIfInBounds p v) a.tmps, defers := [] } W)
    (hbody : ∀ (l : Nat) (pre : List α) (x : α) (W : World), I pre W → Ask pre x → w.heap.size + 1 < W.heap.size → body.wpIn (Fence.wide.inRound l) 0 P (RdPost w.heap.size Kp I Ix (pre ++ [x]) W) (a₁ x) W)
    (hdone : ∀ (xs : List α) (W : World), S xs → I xs W → W.heap[w.heap.size]? = some (.deferred (some [])) → Q .normal { a with defers := { target := .collected w.heap.size, args := #[] } :: a.defers } W)
    (hstop : ∀ (c : Code) (pre : List α) (W : World), Sp pre → Ix c pre W → W.heap[w.heap.size]? = some (.deferred (some [])) → c.wp P Q { a with defers := { target := .collected w.heap.size, args := #[] } :: a.defers } W) :
    (Code.rangeFunc g ps assign body).wp P Q a w := by
  refine (wpIn_wide (n := 0)).1 (wpIn_rangeFunc fun fn _ => ?_)
  generalize hD : w.heap.size = D at *
  have key : ∃ rc : LoopState → Option Code → Loop, ∀ st pe, rc st pe = { state := st, pending := pe, fn := fn, tmps := a.tmps, params := ps, assign := assign, body := body, defers := D } := ⟨_, fun _ _ => rfl⟩
  obtain ⟨rc, hrc⟩ := key
  have e1 : ∀ (st : LoopState) (pe : Option Code), (rc st pe).params = ps := fun st pe => by rw [hrc]
  have bD : ∀ o1 o2, Below D w ((w.alloc o1).alloc o2) := fun o1 o2 => by
    rw [← hD]; exact ((Below.refl _ w).alloc (Nat.le_refl _) _).alloc (by simp) _
  have k1 : ∀ o1 o2, ((w.alloc o1).alloc o2).heap[D]? = some o1 := fun o1 o2 => by
    rw [← hD]; exact (Below.heap_alloc _ _ _ (by simp)).trans (World.alloc_heap_new w _)
  have k2 : ∀ o1 o2, ((w.alloc o1).alloc o2).heap[D + 1]? = some o2 := fun o1 o2 => by
    have := World.alloc_heap_new (w.alloc o1) o2
    rwa [World.size_alloc, hD] at this
  have s2 : ∀ o1 o2, ((w.alloc o1).alloc o2).heap.size = D + 2 := fun o1 o2 => by simp [hD]
  have I1 : I [] ((w.alloc (.deferred (some []))).alloc (.loop (rc .ready none))) := hIa _ _ _ (by simp; omega) (hIa _ _ _ (by omega) h0)
  have run1 := run_enterLoop_outer (P := P) (w := w) fn a.tmps ps assign body
  rw [hD] at run1
  have K1 := k1 (.deferred (some [])) (.loop (rc .ready none))
  have K2 := k2 (.deferred (some [])) (.loop (rc .ready none))
  have B1 := bD (.deferred (some [])) (.loop (rc .ready none))
  have run2 : (Instr.enterLoop fn a.tmps ps assign body none).run P w = .ok (D + 1, [{ target := .collected D, args := #[] }]) ((w.alloc (.deferred (some []))).alloc (.loop (rc .ready none))) := by
    rw [run1, hrc]
  clear run1 k1 k2 bD s2
  generalize (w.alloc (.deferred (some []))).alloc (.loop (rc .ready none)) = W1 at *
  refine ⟨D + 1, [{ target := .collected D, args := #[] }], W1, { target := .fn (.func gf) lb, args := #[.func (.yield (D + 1)) #[] #[]] }, W1, gf,
    #[.func (.yield (D + 1)) #[] #[]] ++ lb, W1, run2, ?_, ?_, ?_, fun h => (by cases h), ?_⟩
  · simp only [resolve, hg]; simp [go_sem]
  · intro f2 hf2; trivial
  · simp [invoke, go_sem, eg]
  · have lt1 : D + 1 < W1.heap.size := (Array.getElem?_eq_some_iff.1 K2).1
    refine (hseq (D + 1)
      (fun pre W => I pre W ∧ W.heap[D]? = some (.deferred (some [])) ∧ W.heap[D + 1]? = some (.loop (rc .ready none)))
      (fun pre W => ∃ c, Ix c pre W ∧ W.heap[D]? = some (.deferred (some [])) ∧ W.heap[D + 1]? = some (.loop (rc .done (some c)))) W1 (by rw [hD]; exact B1) ?_ ?_ (fun s A h => hBd s A h.1) ?_ ⟨I1, K1, K2⟩).mono ?_
    · rintro s A B ⟨h, q1, q2⟩ hs
      exact ⟨hI s A B h hs, (hSt A B hs D (Nat.le_refl _) (Array.getElem?_eq_some_iff.1 q1).1).trans q1, (hSt A B hs (D + 1) (by omega) (Array.getElem?_eq_some_iff.1 q2).1).trans q2⟩
    · rintro s A B ⟨c, h, q1, q2⟩ hs
      exact ⟨c, hIx c s A B h hs, (hSt A B hs D (Nat.le_refl _) (Array.getElem?_eq_some_iff.1 q1).1).trans q1, (hSt A B hs (D + 1) (by omega) (Array.getElem?_eq_some_iff.1 q2).1).trans q2⟩
    · rintro pre x W ⟨h, q1, q2⟩ hlen
      have lt2 : D + 1 < W.heap.size := (Array.getElem?_eq_some_iff.1 q2).1
      have hy := run_yield (P := P) (args := encs x) q2 (by rw [e1]; exact hps x)
      rw [hrc] at hy
      refine ⟨fn, _, assign, body, hy, roundIn_of_wpIn trivial (hassign _ x W _ ⟨_, run_beginRound q2 (by rw [hrc]), ?_⟩)⟩
      have b2 : ∀ o, Below D W (W.putObj (D + 1) o) := fun o => below_put (by omega)
      have q3 : ∀ o, (W.putObj (D + 1) o).heap[D + 1]? = some o := fun o => World.putObj_heap_same lt2
      have q4 : ∀ o, (W.putObj (D + 1) o).heap[D]? = some (.deferred (some [])) := fun o => (World.putObj_heap_other (by omega)).trans q1
      refine Go.wpIn_mono (hbody _ pre x _ (hIp _ _ _ _ _ (by omega) q2 rfl h) hlen (by simpa using lt2)) ?_
      have fin : ∀ (jump : Option Code) (W3 : World), Kept D (W.putObj (D + 1) (.loop { rc .ready none with state := .busy })) W3 →
          ∃ W4, (Instr.endRound (D + 1) jump).run P W3 = .ok (.bool jump.isNone) W4 ∧ Below D W3 W4 ∧ ((∀ s, I s W3 → I s W4) ∧ ∀ c s, Ix c s W3 → Ix c s W4) ∧ W4.heap[D]? = some (.deferred (some [])) ∧ W4.heap[D + 1]? = some (.loop (rc (if jump.isNone then .ready else .done) jump)) := by
        intro jump W3 hk
        have r2 := hk.2.trans (q3 _)
        have r1 := hk.1.trans (q4 _)
        have lt3 : D + 1 < W3.heap.size := (Array.getElem?_eq_some_iff.1 r2).1
        have hr := run_endRound (P := P) jump r2
        refine ⟨_, hr, below_put (by omega), ⟨fun s h => hIp _ _ _ _ _ (by omega) r2 rfl h, fun c s h => hIxp _ _ _ _ _ _ (by omega) r2 rfl h⟩, (World.putObj_heap_other (by omega)).trans r1, ?_⟩
        rw [World.putObj_heap_same lt3, hrc, hrc]
      rintro e a3 W3 hp
      cases e with
      | normal =>
        obtain ⟨hk, hkp, hi⟩ := hp
        obtain ⟨W4, hr, hb4, ⟨hi4, hx4⟩, r1, r2⟩ := fin none W3 hk
        exact ⟨_, W4, hr, .inl ⟨rfl, ⟨hi4 _ hi, r1, r2⟩, hKt (hKt (hKb _ _ (b2 _)) hkp) (hKb _ _ hb4)⟩⟩
      | ret =>
        obtain ⟨hk, hi⟩ := hp
        obtain ⟨W4, hr, hb4, ⟨hi4, hx4⟩, r1, r2⟩ := fin (some .ret) W3 hk
        exact ⟨_, W4, hr, .inr ⟨rfl, .ret, hx4 _ _ hi, r1, r2⟩⟩
      | exit id =>
        obtain ⟨hk, hi⟩ := hp
        obtain ⟨W4, hr, hb4, ⟨hi4, hx4⟩, r1, r2⟩ := fin (some (.exit id)) W3 hk
        exact ⟨_, W4, hr, .inr ⟨rfl, .exit id, hx4 _ _ hi, r1, r2⟩⟩
      | goto t =>
        obtain ⟨hk, hi⟩ := hp
        obtain ⟨W4, hr, hb4, ⟨hi4, hx4⟩, r1, r2⟩ := fin (some (.goto t)) W3 hk
        exact ⟨_, W4, hr, .inr ⟨rfl, .goto t, hx4 _ _ hi, r1, r2⟩⟩
      | panic ch => exact hp.elim
      | outgrown => exact hp.elim
    · rintro e W2 ⟨⟨v, rfl⟩, hend⟩
      rcases hend with ⟨xs, hS, hi, q1, q2⟩ | ⟨pre, hSp, c, hi, q1, q2⟩
      · have hr := run_endLoop (P := P) q2 (by rw [hrc]; simp)
        refine ⟨none, _, by rw [hrc] at hr; rw [hr], hdone xs _ hS (hIp _ _ _ _ _ (by omega) q2 rfl hi) ((World.putObj_heap_other (by omega)).trans q1)⟩
      · have hr := run_endLoop (P := P) q2 (by rw [hrc]; simp)
        refine ⟨some c, _, by rw [hrc] at hr; rw [hr], wpIn_wide.2 (hstop c pre _ hSp (hIxp _ _ _ _ _ _ (by omega) q2 rfl hi) ((World.putObj_heap_other (by omega)).trans q1))⟩

set_option maxHeartbeats 1000000 in
theorem wp_range_panics {P : Program} {g : Operand} {ps : Array Tmp} {assign body : Code} {Q : Exit → Act → World → Prop} {a : Act} {w : World} {R : Ending → Prop}
    {gf : Nat} {lb : Array Value} (hg : a.eval g = .func (.func gf) #[] lb) (eg : ∀ args w, (callFunc gf args).run P w = .ok (.enter gf args) w)
    (hR : ∀ e, R e → ∃ ch, e = .panicked ch)
    (hcall : ∀ l W, Below w.heap.size w W → CallsIn Fence.wide 0 P gf (#[.func (.yield l) #[] #[]] ++ lb) W fun e W2 => R e ∧ Below W.heap.size W W2)
    (hout : ∀ ch W, R (.panicked ch) → Below w.heap.size w W → W.heap[w.heap.size]? = some (.deferred (some [])) → Q (.panic ch) { a with defers := { target := .collected w.heap.size, args := #[] } :: a.defers } W) :
    (Code.rangeFunc g ps assign body).wp P Q a w := by
  refine (wpIn_wide (n := 0)).1 (wpIn_rangeFunc fun fn _ => ?_)
  generalize hD : w.heap.size = D at *
  have key : ∃ rc : LoopState → Option Code → Loop, ∀ st pe, rc st pe = { state := st, pending := pe, fn := fn, tmps := a.tmps, params := ps, assign := assign, body := body, defers := D } := ⟨_, fun _ _ => rfl⟩
  obtain ⟨rc, hrc⟩ := key
  have B1 : Below D w ((w.alloc (.deferred (some []))).alloc (.loop (rc .ready none))) := by
    rw [← hD]; exact ((Below.refl _ w).alloc (Nat.le_refl _) _).alloc (by simp) _
  have K1 : ((w.alloc (.deferred (some []))).alloc (.loop (rc .ready none))).heap[D]? = some (.deferred (some [])) := by
    rw [← hD]; exact (Below.heap_alloc _ _ _ (by simp)).trans (World.alloc_heap_new w _)
  have lt : D < ((w.alloc (.deferred (some []))).alloc (.loop (rc .ready none))).heap.size := by simp; omega
  have run1 := run_enterLoop_outer (P := P) (w := w) fn a.tmps ps assign body
  rw [hD] at run1
  have run2 : (Instr.enterLoop fn a.tmps ps assign body none).run P w = .ok (D + 1, [{ target := .collected D, args := #[] }]) ((w.alloc (.deferred (some []))).alloc (.loop (rc .ready none))) := by
    rw [run1, hrc]
  clear run1
  generalize (w.alloc (.deferred (some []))).alloc (.loop (rc .ready none)) = W1 at *
  refine ⟨D + 1, [{ target := .collected D, args := #[] }], W1, { target := .fn (.func gf) lb, args := #[.func (.yield (D + 1)) #[] #[]] }, W1, gf,
    #[.func (.yield (D + 1)) #[] #[]] ++ lb, W1, run2, ?_, ?_, ?_, fun h => (by cases h), ?_⟩
  · simp only [resolve, hg]; simp [go_sem]
  · intro f2 hf2; trivial
  · simp [invoke, go_sem, eg]
  · refine (hcall (D + 1) W1 B1).mono ?_
    rintro e W2 ⟨hr, hb⟩
    obtain ⟨ch, rfl⟩ := hR e hr
    exact hout ch W2 hr (B1.trans (hb.mono (hD ▸ B1.size))) ((hb.block D lt).trans K1)
end Go.Proofs.YtnbijfeidgddmaaGreatDoor

namespace Go.Proofs.YtnbijfeidgddmaaGreatDoor
open Go.ChangeShapes Go.WideShapes Go.ChangeAt Go.RowKit

def nuV (o : Option Nat) : Value := match o with
  | some n => .tuple #[.int .i64 (n : Int), .bool true]
  | none => .tuple #[.int .i64 0, .bool false]
/-- The first i digits spell n. -/
structure NuAt (s : ByteArray) (n i : Nat) : Prop where
  le : i ≤ s.size
  lt : n < 10 ^ i
  eq : digs 0 s.data.toList = digs n (s.data.toList.drop i)
theorem nuAt_start (s : ByteArray) : NuAt s 0 0 := ⟨Nat.zero_le _, by simp, rfl⟩
theorem nuAt_next {s : ByteArray} {n i : Nat} (h : NuAt s n i) (hi : i < s.size) (h1 : 48 ≤ s[i].toNat) (h2 : s[i].toNat ≤ 57) : NuAt s (10 * n + (s[i].toNat - 48)) (i + 1) := by
  refine ⟨hi, ?_, ?_⟩
  · have := h.lt
    rw [Nat.pow_succ]
    omega
  · rw [h.eq, drop_byte s i hi, digs, if_pos ⟨h1, h2⟩]
theorem nuAt_bad {s : ByteArray} {n i : Nat} (h : NuAt s n i) (hi : i < s.size) (h1 : ¬ (48 ≤ s[i].toNat ∧ s[i].toNat ≤ 57)) : numL s.data.toList = none := by
  unfold numL
  split
  · rfl
  · rw [h.eq, drop_byte s i hi, digs, if_neg h1]
theorem nuAt_end {s : ByteArray} {n : Nat} (h : NuAt s n s.size) (hc : ¬ (s.data.toList = [] ∨ 10 < s.data.toList.length ∨ (s.data.toList.head? = some 48 ∧ 1 < s.data.toList.length))) : numL s.data.toList = some n := by
  unfold numL
  rw [if_neg hc, h.eq, List.drop_eq_nil_of_le (by simp), digs]
theorem len_data (s : ByteArray) : s.data.toList.length = s.size := Array.length_toList
theorem head_data {s : ByteArray} (h : 0 < s.size) : s.data.toList.head? = some s[0] := by
  have := drop_byte s 0 h
  rw [List.drop_zero] at this
  rw [this]; rfl
theorem num_cond {s : ByteArray} (h0 : 0 < s.size) (h1 : s.size ≤ 10) (h2 : ¬ (s[0].toNat = 48 ∧ 1 < s.size)) : ¬ (s.data.toList = [] ∨ 10 < s.data.toList.length ∨ (s.data.toList.head? = some 48 ∧ 1 < s.data.toList.length)) := by
  rintro (h | h | ⟨h, h3⟩)
  · have := len_data s
    rw [h] at this
    simp at this
    omega
  · rw [len_data] at h; omega
  · rw [head_data h0] at h
    rw [len_data] at h3
    exact h2 ⟨by rw [Option.some.inj h]; rfl, h3⟩
theorem num_no {s : ByteArray} (h : s.size = 0 ∨ 10 < s.size ∨ (∃ h : 0 < s.size, s[0].toNat = 48 ∧ 1 < s.size)) : numL s.data.toList = none := by
  unfold numL
  rw [if_pos]
  rcases h with h | h | ⟨h0, h, h3⟩
  · exact .inl (List.length_eq_zero_iff.1 (by rw [len_data]; exact h))
  · exact .inr (.inl (by rw [len_data]; exact h))
  · refine .inr (.inr ⟨?_, by rw [len_data]; exact h3⟩)
    rw [head_data h0]
    congr 1
    exact UInt8.toNat_inj.1 h
theorem ret_nu {o : Option Nat} {v : Value} (h : nuV o = v) : Ending.returned v = .returned (nuV o) := by rw [h]
theorem empty_yes {s : ByteArray} (h : s.size = 0) : s.toList.isEmpty = true := by
  rw [Lib.toList_data, List.isEmpty_iff]
  exact List.length_eq_zero_iff.1 (by rw [len_data]; exact h)
theorem empty_no {s : ByteArray} (h : 0 < s.size) : s.toList.isEmpty = false := by
  rw [Lib.toList_data]
  cases q : s.data.toList with
  | nil => have := len_data s; rw [q] at this; simp at this; omega
  | cons => rfl

set_option maxRecDepth 100000 in
set_option maxHeartbeats 1600000 in
theorem sNum_any (s : ByteArray) (hs : s.size ≤ 1048576) (w : World) :
    Calls Tryz.prog 30 #[.string s] w fun e w' => e = .returned (nuV (numL s.data.toList)) ∧ Below w.heap.size w w' := by
  by_cases h0 : s.size = 0
  · rw [num_no (.inl h0)]
    have he := empty_yes h0
    clear h0
    go_enter Tryz.func30, Tryz.ntmps30
    go_wp2
    go_returns
    exact ⟨rfl, (by repeat' (first | (with_reducible exact Below.refl _ _) | (with_reducible assumption) | (with_reducible refine below_drewN ?_ _) | (with_reducible refine Below.drew ?_) | (with_reducible refine below_new ?_ _) | (with_reducible refine below_next ?_ (by with_reducible assumption)) | (with_reducible refine Below.setCell ?_ ?_ _) | go_size))⟩
  · have he := empty_no (s := s) (by omega)
    by_cases h1 : 10 < s.size
    · rw [num_no (.inr (.inl h1))]
      have d1 : decide ((10 : Int) < (s.size : Int)) = true := by simp; omega
      go_enter Tryz.func30, Tryz.ntmps30
      go_wp2
      go_returns
      exact ⟨rfl, (by repeat' (first | (with_reducible exact Below.refl _ _) | (with_reducible assumption) | (with_reducible refine below_drewN ?_ _) | (with_reducible refine Below.drew ?_) | (with_reducible refine below_new ?_ _) | (with_reducible refine below_next ?_ (by with_reducible assumption)) | (with_reducible refine Below.setCell ?_ ?_ _) | go_size))⟩
    · have d1 : decide ((10 : Int) < (s.size : Int)) = false := by simp; omega
      have hl : 0 < s.size := by omega
      by_cases h2 : s[0].toNat = 48 ∧ 1 < s.size
      · rw [num_no (.inr (.inr ⟨hl, h2⟩))]
        obtain ⟨h2, h3⟩ := h2
        have d2 : ((s[0].toNat : Int) == 48) = true := by rw [h2]; rfl
        have d3 : decide ((1 : Int) < (s.size : Int)) = true := by simp; omega
        go_enter Tryz.func30, Tryz.ntmps30
        go_wp2
        go_returns
        exact ⟨rfl, (by repeat' (first | (with_reducible exact Below.refl _ _) | (with_reducible assumption) | (with_reducible refine below_drewN ?_ _) | (with_reducible refine Below.drew ?_) | (with_reducible refine below_new ?_ _) | (with_reducible refine below_next ?_ (by with_reducible assumption)) | (with_reducible refine Below.setCell ?_ ?_ _) | go_size))⟩
      · have HC := Lib.hid (num_cond hl (by omega) h2)
        have key : ((s[0].toNat : Int) == 48) = false ∨ (((s[0].toNat : Int) == 48) = true ∧ decide ((1 : Int) < (s.size : Int)) = false) := by
          by_cases e : s[0].toNat = 48
          · exact .inr ⟨by rw [e]; rfl, by simp; omega⟩
          · exact .inl (by rw [beq_eq_false_iff_ne]; omega)
        clear h2
        rcases key with d2 | ⟨d2, d3⟩
        all_goals
          have DD := Lib.hid d2
          go_enter Tryz.func30, Tryz.ntmps30
          go_wp2
          go_loop [4, 5] (fun v i => ∃ (n k : Nat), NuAt s n k ∧ i = .int .i64 (k : Int) ∧ v = .int .i64 (n : Int)) (fun _ i => s.size - (intOf i).toNat)
          case atStart => exact ⟨0, 0, nuAt_start s, rfl, rfl⟩
          case round =>
            obtain ⟨n, k, hN, rfl, rfl⟩ := hrel
            have hk := hN.le
            have hn := hN.lt
            have NN := Lib.hid hN
            clear hN
            by_cases hlt : k < s.size
            · have dl : decide ((k : Int) < (s.size : Int)) = true := by simpa using hlt
              by_cases c1 : s[k].toNat < 48
              · have f := Lib.hid (nuAt_bad NN.out hlt (by omega))
                have t1 : decide ((s[k].toNat : Int) < 48) = true := by simp; omega
                clear d2
                go_wp2
                go_returns
                exact ⟨ret_nu (by rw [f.out]; rfl), (by repeat' (first | (with_reducible exact Below.refl _ _) | (with_reducible assumption) | (with_reducible refine below_drewN ?_ _) | (with_reducible refine Below.drew ?_) | (with_reducible refine below_new ?_ _) | (with_reducible refine below_next ?_ (by with_reducible assumption)) | (with_reducible refine Below.setCell ?_ ?_ _) | go_size))⟩
              · by_cases c2 : 57 < s[k].toNat
                · have f := Lib.hid (nuAt_bad NN.out hlt (by omega))
                  have t1 : decide ((s[k].toNat : Int) < 48) = false := by simp; omega
                  have t2 : decide ((57 : Int) < (s[k].toNat : Int)) = true := by simp; omega
                  clear d2
                  go_wp2
                  go_returns
                  exact ⟨ret_nu (by rw [f.out]; rfl), (by repeat' (first | (with_reducible exact Below.refl _ _) | (with_reducible assumption) | (with_reducible refine below_drewN ?_ _) | (with_reducible refine Below.drew ?_) | (with_reducible refine below_new ?_ _) | (with_reducible refine below_next ?_ (by with_reducible assumption)) | (with_reducible refine Below.setCell ?_ ?_ _) | go_size))⟩
                · have f := Lib.hid (nuAt_next NN.out hlt (by omega) (by omega))
                  have t1 : decide ((s[k].toNat : Int) < 48) = false := by simp; omega
                  have t2 : decide ((57 : Int) < (s[k].toNat : Int)) = false := by simp; omega
                  have hp : (10 : Nat) ^ k ≤ 10 ^ 9 := Nat.pow_le_pow_right (by omega) (by omega)
                  have w1 : IntKind.u8.wrap ((s[k].toNat : Int) - 48) = ((s[k].toNat - 48 : Nat) : Int) := by rw [show (s[k].toNat : Int) - 48 = ((s[k].toNat - 48 : Nat) : Int) from by omega]; exact IntWalk.u8_in _ ⟨by omega, by omega⟩
                  have w2 : IntKind.i64.wrap ((s[k].toNat - 48 : Nat) : Int) = ((s[k].toNat - 48 : Nat) : Int) := IntWalk.i64_in _ (by omega)
                  have w3 : IntKind.i64.wrap (10 * (n : Int)) = 10 * (n : Int) := IntWalk.i64_in _ (by omega)
                  have w4 : IntKind.i64.wrap (10 * (n : Int) + ((s[k].toNat - 48 : Nat) : Int)) = ((10 * n + (s[k].toNat - 48) : Nat) : Int) := by rw [show 10 * (n : Int) + ((s[k].toNat - 48 : Nat) : Int) = ((10 * n + (s[k].toNat - 48) : Nat) : Int) from by omega]; exact IntWalk.i64_in _ (by omega)
                  clear d2 hp hn c1 c2
                  go_wp2
                  go_round
                  case rel => exact ⟨_, k + 1, f.out, by go_num, rfl⟩
                  case measure => simp [intOf]; omega
            · obtain rfl : k = s.size := by omega
              have dl : decide ((s.size : Int) < (s.size : Int)) = false := by simp
              have f := Lib.hid (nuAt_end NN.out HC.out)
              clear d2
              go_wp2
              go_returns
              exact ⟨ret_nu (by rw [f.out]; rfl), (by repeat' (first | (with_reducible exact Below.refl _ _) | (with_reducible assumption) | (with_reducible refine below_drewN ?_ _) | (with_reducible refine Below.drew ?_) | (with_reducible refine below_new ?_ _) | (with_reducible refine below_next ?_ (by with_reducible assumption)) | (with_reducible refine Below.setCell ?_ ?_ _) | go_size))⟩
theorem sNum_ok (s : ByteArray) (hs : s.size ≤ 1048576) (n : Nat) (h : numL s.data.toList = some n) (w : World) :
    Calls Tryz.prog 30 #[.string s] w fun e w' => e = .returned (.tuple #[.int .i64 (n : Int), .bool true]) ∧ Below w.heap.size w w' := by
  have c := sNum_any s hs w
  rw [h] at c
  exact c
theorem sNum_no (s : ByteArray) (hs : s.size ≤ 1048576) (h : numL s.data.toList = none) (w : World) :
    Calls Tryz.prog 30 #[.string s] w fun e w' => e = .returned (.tuple #[.int .i64 0, .bool false]) ∧ Below w.heap.size w w' := by
  have c := sNum_any s hs w
  rw [h] at c
  exact c
end Go.Proofs.YtnbijfeidgddmaaGreatDoor

namespace Go.Proofs.YtnbijfeidgddmaaGreatDoor
open Go.ChangeShapes Go.WideShapes Go.ChangeAt Go.RowKit

/-- The slice's texts are these, in a row of the call's own from block B on. -/
def OwnStrs (B : Nat) (ps : List ByteArray) (v : Value) (w : World) : Prop := w.ownsRow B 9 1 v ps.length (ps.map Value.string)
theorem ownStrs_in {B : Nat} {ps : List ByteArray} {v : Value} {w : World} (h : OwnStrs B ps v w) : ∃ a c, v = .slice a ps.length c ∧ StrsIn w a ps := by
  have h0 := h
  obtain ⟨_, h2⟩ := h
  rcases h2 with ⟨rfl, hn⟩ | ⟨g, cap, cur, rfl, hb, hg, _⟩
  · exact ⟨none, 0, by rw [hn], fun i hi => by omega⟩
  · refine ⟨_, cap, rfl, fun i hi => ⟨g, 0, rfl, (Array.getElem?_eq_some_iff.1 hg).1, ?_⟩⟩
    have := World.ownsRow.cellAt h0 i (by omega)
    rw [Nat.zero_add, this, List.getElem?_map, List.getElem?_eq_getElem hi]
    simp [List.getD, hi]
theorem ownStrs_kept {B : Nat} {ps : List ByteArray} {v : Value} {w w' : World} (h : OwnStrs B ps v w) (hb : Below w.heap.size w w') : OwnStrs B ps v w' := by
  obtain ⟨h1, h2⟩ := h
  refine ⟨h1, ?_⟩
  rcases h2 with hn | ⟨g, cap, cur, rfl, hB, hg, rest⟩
  · exact .inl hn
  · exact .inr ⟨g, cap, cur, rfl, hB, (hb.block g (Array.getElem?_eq_some_iff.1 hg).1).trans hg, rest⟩
theorem ownStrs_none {w : World} {n B : Nat} (hn : n = w.heap.size) (hB : B ≤ w.heap.size) : OwnStrs B [] (.slice (some ⟨n, 0, none⟩) 0 0) (w.alloc (.cells #[] 9)) := by
  subst hn; exact World.ownsRow_made w #[] 0 hB (Nat.zero_le _) rfl
theorem ownStrs_push {B : Nat} {ps : List ByteArray} {x : ByteArray} {v : Value} {w : World} (h : w.ownsRow B 9 1 v (ps.length + 1) (ps.map Value.string ++ [.string x])) : OwnStrs B (ps ++ [x]) v w := by unfold OwnStrs; simpa using h
theorem ownStrs_lt {B : Nat} {ps : List ByteArray} {v : Value} {w : World} (h : OwnStrs B ps v w) : ∀ j, v.ownBlock = some j → B ≤ j := fun j hj => (World.ownsRow.lt h j hj).1
theorem one_newS (w : World) (x : Value) (t : TypeId) : ∀ j u, [x][j]? = some u → (w.alloc (.cells #[x] t)).cell? ((⟨w.heap.size, 0, none⟩ : Addr).add j) = some u := by
  intro j u h
  cases j with
  | zero => simp at h; subst h; simp [Addr.add]
  | succ => simp at h

/-- A new slice of texts. -/
def StrsR (ps : List ByteArray) (w : World) (e : Ending) (w' : World) : Prop := ∃ v, e = .returned v ∧ OwnStrs w.heap.size ps v w' ∧ Below w.heap.size w w'

set_option maxRecDepth 100000 in
set_option maxHeartbeats 1600000 in
theorem sSplitAt_any (s : ByteArray) (c : UInt8) (hs : s.size ≤ 4000000) (w : World) :
    Calls Tryz.prog 15 #[.string s, .int .u8 c.toNat] w (StrsR (pieces c s) w) := by
  obtain ⟨i0, hi, hz0, hz1, hz2⟩ := info_parts info_str
  go_enter Tryz.func15, Tryz.ntmps15
  go_wp2
  go_loopw [5, 6, 7] (fun v b i wr => ∃ (done : List ByteArray) (k j : Nat), SplAt c s done k j ∧ i = .int .i64 j ∧ b = .int .i64 k ∧ OwnStrs w.heap.size done v wr ∧ Below w.heap.size w wr) (fun _ _ i _ => s.size - (intOf i).toNat)
  case atStart => exact ⟨[], 0, 0, splAt_start c s, rfl, rfl, ownStrs_none rfl (Nat.le_refl _), below_new (Below.refl _ _) _⟩
  case round =>
    obtain ⟨done, k, j, hS, rfl, rfl, O, hB⟩ := hrel
    have OO := Lib.hid O
    have BB := Lib.hid hB
    have SP := Lib.hid hS
    have hk := hS.le
    have hj := hS.lt
    have hn := hS.len
    have hz := hB.size
    clear O hB hS
    by_cases hjl : j < s.size
    · have hd : decide ((j : Int) < (s.size : Int)) = true := by simpa using hjl
      by_cases hc : s[j] = c
      · have hx : ((s[j].toNat : Int) == (c.toNat : Int)) = true := by rw [hc]; simp
        have N := Lib.hid (splAt_hit SP.out hjl hc)
        go_wp2_with (at_builtin; refine wpList_append_own _ rfl _ _ 33 rfl w.heap.size 9 i0 (.string ⟨#[]⟩) 1 16 Tryz.underlying33 hi hz0 hz1 hz2 rfl (by decide) _ _ _ rfl (OO.out.alloc _) ⟨wr.heap.size, 0, none⟩ 1 1 [.string (s.extract k j)] rfl rfl (one_newS _ _ _) (fun x hx => by simp at hx; subst hx; rfl) (by unfold maxLen; omega) (by omega) (by simp; omega) ?_; intro v' w2 hown hgrow _; have P := Lib.hid (ownStrs_push hown); have G := Lib.hid hgrow; clear hown hgrow)
        exact ⟨⟨_, j + 1, j + 1, N.out, by rw [Int.natCast_succ], by rw [Int.natCast_succ], P.out, Below.grown (BB.out.alloc hz _) G.out (by simp; omega) (ownStrs_lt OO.out)⟩, by (simp [intOf]) <;> omega⟩
      · have hx : ((s[j].toNat : Int) == (c.toNat : Int)) = false := by
          rw [beq_eq_false_iff_ne]
          intro h
          exact hc (UInt8.toNat_inj.1 (by exact_mod_cast h))
        have N := Lib.hid (splAt_miss SP.out hjl hc)
        go_wp2
        exact ⟨⟨_, k, j + 1, N.out, by rw [Int.natCast_succ], rfl, OO.out, BB.out⟩, by (simp [intOf]) <;> omega⟩
    · have e : j = s.size := by omega
      subst e
      have hd : decide ((s.size : Int) < (s.size : Int)) = false := by simp
      have N := Lib.hid (splAt_end SP.out)
      go_wp2_with (at_builtin; refine wpList_append_own _ rfl _ _ 33 rfl w.heap.size 9 i0 (.string ⟨#[]⟩) 1 16 Tryz.underlying33 hi hz0 hz1 hz2 rfl (by decide) _ _ _ rfl (OO.out.alloc _) ⟨wr.heap.size, 0, none⟩ 1 1 [.string (s.extract k s.size)] rfl rfl (one_newS _ _ _) (fun x hx => by simp at hx; subst hx; rfl) (by unfold maxLen; omega) (by omega) (by simp; omega) ?_; intro v' w2 hown hgrow _; have P := Lib.hid (ownStrs_push hown); have G := Lib.hid hgrow; clear hown hgrow)
      go_ret
      exact ⟨_, rfl, by rw [← N.out]; exact P.out, Below.grown (BB.out.alloc hz _) G.out (by simp; omega) (ownStrs_lt OO.out)⟩
end Go.Proofs.YtnbijfeidgddmaaGreatDoor

namespace Go.Proofs.YtnbijfeidgddmaaGreatDoor
open Go.ChangeShapes Go.WideShapes Go.ChangeAt Go.RowKit

/-- Operations that hang on no world, in the text's order; one whose guard says no is left out. -/
def wpPure (P : Program) (ops : Array Oper) (R : Act → Prop) : List Oper → Act → Prop
  | [], a => R a
  | o :: l, a => if Region.wanted o (yielded ops a.tmps) = true then ∃ v, PQ P o a v ∧ wpPure P ops R l (a.put o.dst v) else wpPure P ops R l (a.put o.dst undef)
theorem wpPure_skip {P : Program} {ops : Array Oper} {R : Act → Prop} {o : Oper} {l : List Oper} {a : Act} (h : Region.wanted o (yielded ops a.tmps) = false) (k : wpPure P ops R l (a.put o.dst undef)) : wpPure P ops R (o :: l) a := by
  unfold wpPure
  rw [if_neg (by rw [h]; decide)]
  exact k
theorem wpPure_do {P : Program} {ops : Array Oper} {R : Act → Prop} {o : Oper} {l : List Oper} {a : Act} (v : Value) (h : Region.wanted o (yielded ops a.tmps) = true) (hv : PQ P o a v) (k : wpPure P ops R l (a.put o.dst v)) : wpPure P ops R (o :: l) a := by
  unfold wpPure
  rw [if_pos h]
  exact ⟨v, hv, k⟩
theorem wpPure_nil {P : Program} {ops : Array Oper} {R : Act → Prop} {a : Act} (k : R a) : wpPure P ops R [] a := k
theorem lexW_pureW {P : Program} {ops : Array Oper} {W : World} {G : Type} {I : G → World → Prop} {early : G → Prop} {loud late pur : Nat → Bool} {Q : Act → G → Prop} {R : Act → Prop} {rest : List Oper} {g : G} : ∀ (l : List Oper) (k : Nat) (a : Act), (∀ j, j < l.length → l[j]? = ops[k + j]? ∧ pur (k + j) = true) →
    (∀ a, R a → lexW P ops W I early loud late pur Q rest (k + l.length) a g) → wpPure P ops R l a → lexW P ops W I early loud late pur Q (l ++ rest) k a g
  | [], k, a, _, h2, h => h2 a h
  | o :: l, k, a, hl, h2, h => by
    have h0 : ops[k]? = some o := by simpa using (hl 0 (by simp)).1.symm
    have hpk : pur k = true := by simpa using (hl 0 (by simp)).2
    have next : ∀ a', wpPure P ops R l a' → lexW P ops W I early loud late pur Q (l ++ rest) (k + 1) a' g := fun a' h' =>
      lexW_pureW l (k + 1) a' (fun j hj => by have := hl (j + 1) (by simp; omega); simpa [Nat.add_assoc, Nat.add_comm 1 j] using this) (fun a hR => by have := h2 a hR; simpa [Nat.add_assoc, Nat.add_comm 1 l.length] using this) h'
    unfold wpPure at h
    by_cases hw : Region.wanted o (yielded ops a.tmps) = true
    · rw [if_pos hw] at h
      obtain ⟨v, hv, hk⟩ := h
      refine fOp_of h0 (O := fun v' g' => v' = v ∧ g' = g) ?_ ?_
      · unfold Fam; rw [if_pos hw, if_pos hpk]; exact ⟨_, hv, rfl⟩
      · rintro v' g' ⟨rfl, rfl⟩
        exact next _ hk
    · rw [if_neg hw] at h
      refine fOp_of h0 (O := fun v' g' => v' = undef ∧ g' = g) ?_ ?_
      · unfold Fam; rw [if_neg hw]
      · rintro v' g' ⟨rfl, rfl⟩
        exact next _ h
/-- Every one ahead of number m is waited for by a later one ahead of m, or by number n. -/
def Region.sinksM (md : Region.Mode) (ops : Array Oper) (m n : Nat) : Bool :=
  (List.range m).all fun i => (List.range (n + 1)).any fun j => decide (i < j) && (decide (j < m) || j == n) && match ops[j]? with
    | some oj => oj.after.any fun e => Region.binds md e && e.on == i
    | none => false
theorem late_of_sinksM {md : Region.Mode} {ops : Array Oper} {m n : Nat} (hs : Region.sinksM md ops m n = true) (hmn : m ≤ n) (hn : n < ops.size) : Region.LateLast md ops (fun i => i == n) (fun i => decide (m ≤ i ∧ i ≠ n)) := by
  intro listed hcl
  have key : ∀ d i, n - i = d → i < m → listed.getD i true = false → n ∉ Region.ready md ops listed := by
    intro d
    induction d using Nat.strongRecOn with
    | _ d ih =>
      intro i hd hi hun hr
      have h1 := List.all_eq_true.1 hs i (List.mem_range.2 hi)
      obtain ⟨j, hj, hj2⟩ := List.any_eq_true.1 h1
      rw [Bool.and_eq_true, Bool.and_eq_true, decide_eq_true_eq, Bool.or_eq_true, decide_eq_true_eq, beq_iff_eq] at hj2
      obtain ⟨⟨hij, hjm⟩, hw⟩ := hj2
      cases hoj : ops[j]? with
      | none => rw [hoj] at hw; cases hw
      | some oj =>
        rw [hoj] at hw
        obtain ⟨e, he, hb⟩ := Array.any_eq_true'.1 hw
        simp only [Bool.and_eq_true, beq_iff_eq] at hb
        by_cases hjn : j = n
        · subst hjn
          obtain ⟨_, o2, ho2, hall⟩ := mem_ready.1 hr
          obtain rfl : oj = o2 := Option.some.inj (hoj.symm.trans ho2)
          have := hall e he hb.1
          rw [hb.2, off_off hun] at this
          cases this
        · have hjlt : j < m := by omega
          cases hl : listed.getD j false with
          | true =>
            have := hcl.2 j oj hoj hl e he hb.1
            rw [hb.2, off_off hun] at this
            cases this
          | false =>
            have hjs : j < listed.size := by rw [hcl.1]; omega
            exact ih (n - j) (by omega) j rfl hjlt (by simp [hjs] at hl ⊢; exact hl) hr
  intro i hun j hr hne
  by_cases hjn : j = n
  case neg => exact .inl (by simpa using hjn)
  subst hjn
  by_cases h : i < m
  · exact absurd hr (key _ i rfl h hun)
  · exact .inr (by simp only [decide_eq_true_eq]; exact ⟨by omega, fun e => hne e.symm⟩)

/-- **Number m + d stores; the d ones ahead of it hang on no world, and may come later than it.** -/
theorem wp_region_storeM {P : Program} {id : Nat} {Q : Exit → Act → World → Prop} {a : Act} {w : World} {l : List Oper} {oS : Oper} (m d : Nat)
    (hm : P.follows .mixedOrders = true) (hl : l.take m ++ ((l.drop m).take d ++ oS :: l.drop (m + d + 1)) = l) (hlm : (l.take m).length = m) (hld : ((l.drop m).take d).length = d) (hpu : (l.drop (m + d + 1)).all isPure = true)
    (hB : Region.lexBL .any l.toArray (fun i => i == m + d) = true) (hSk : Region.sinksM .any l.toArray m (m + d) = true) (hgS : oS.guard = none)
    (h : ∀ w1, Ab w w1 → wpQuiet P l.toArray (fun w' => ∃ p : Regrown, w' = bw w1 p) (wpPure P l.toArray (fun a1 => ∀ w3, Ab w w3 → Yld P (fun v w4 => Q .normal (pureRun (l.drop (m + d + 1)) (a1.put oS.dst v)) w4) w3 ((execOp a1.eval oS).run P w3)) ((l.drop m).take d)) (l.take m) a) :
    (Code.region id l.toArray true).wp P Q a w := by
  obtain ⟨ops, hops⟩ : ∃ ops, ops = l.toArray := ⟨_, rfl⟩
  obtain ⟨l1, hl1⟩ : ∃ l1, l1 = l.take m := ⟨_, rfl⟩
  obtain ⟨l2, hl2⟩ : ∃ l2, l2 = (l.drop m).take d := ⟨_, rfl⟩
  obtain ⟨l3, hl3⟩ : ∃ l3, l3 = l.drop (m + d + 1) := ⟨_, rfl⟩
  rw [← hops] at hB hSk h ⊢
  rw [← hl1, ← hl2, ← hl3] at hl h
  rw [← hl1] at hlm
  rw [← hl2] at hld
  rw [← hl3] at hpu
  have hget : ∀ j, l[j]? = ops[j]? := fun j => by rw [hops, List.getElem?_toArray]
  have hlen : ops.size = (l1 ++ (l2 ++ oS :: l3)).length := by rw [hops, List.size_toArray, hl]
  simp only [Region.lexBL, Bool.and_eq_true] at hB
  have wantS : ∀ a : Act, Region.wanted oS (yielded ops a.tmps) = true := fun a => by simp [Region.wanted, hgS]
  have gS : ops[m + d]? = some oS := by
    rw [← hget, ← hl, List.getElem?_append_right (by omega), List.getElem?_append_right (by omega), show m + d - l1.length - l2.length = 0 by omega]; rfl
  have g1 : ∀ j, j < l1.length → l1[j]? = ops[0 + j]? ∧ (fun i => i == m + d) (0 + j) = false ∧ (fun i => decide (m ≤ i ∧ i ≠ m + d)) (0 + j) = false := fun j hj => by
    refine ⟨by rw [← hget, Nat.zero_add, ← hl, List.getElem?_append_left hj], ?_, ?_⟩
    · simp only [beq_eq_false_iff_ne]; omega
    · simp only [decide_eq_false_iff_not]; omega
  have g2 : ∀ j, j < l2.length → l2[j]? = ops[m + j]? ∧ (fun i => decide (m ≤ i ∧ i ≠ m + d)) (m + j) = true := fun j hj => by
    refine ⟨?_, by simp only [decide_eq_true_eq]; omega⟩
    rw [← hget, ← hl, List.getElem?_append_right (by omega), show m + j - l1.length = j by omega, List.getElem?_append_left hj]
  have g3 : ∀ j, j < l3.length → l3[j]? = ops[m + d + 1 + j]? ∧ (fun i => decide (m ≤ i ∧ i ≠ m + d)) (m + d + 1 + j) = true := fun j hj => by
    refine ⟨?_, by simp only [decide_eq_true_eq]; omega⟩
    rw [← hget, ← hl, List.getElem?_append_right (by omega), List.getElem?_append_right (by omega), show m + d + 1 + j - l1.length - l2.length = j + 1 by omega, List.getElem?_cons_succ]
  have base : Ab w { w with drawn := w.drawn + 1 } := ⟨rfl, rfl, rfl, Nat.le_refl _, fun _ _ => rfl⟩
  refine wp_region_any hm (wpAny_of_float (G := Option (World → Prop)) (W := w) (I := fun g w' => match g with | none => Ab w w' | some R => R w') (early := fun g => g = none) (loud := fun i => i == m + d) (late := fun i => i == m + d) (pur := fun i => decide (m ≤ i ∧ i ≠ m + d))
    (Q := fun a' g => ∃ R, g = some R ∧ ∀ w', R w' → Q .normal a' w') ?_ ?_ ?_ _ _ _ none _ base ?_)
  · rintro g w' rfl h; exact h
  · rintro g w' w'' rfl h k; exact Ab.trans h k
  · rintro a' g w' hI ⟨R, rfl, hQ⟩; exact hQ w' hI
  · rw [hlen]
    refine wpAnyF_lex hB.1 (late_of_sinksM hSk (Nat.le_add_right _ _) (by rw [hlen]; simp; omega)) (l1 ++ (l2 ++ oS :: l3)) 0 _ _ _ (by rw [← hlen]; exact closed_start) (fun j => by rw [hl, hget, Nat.zero_add]) (by rw [← hlen]; exact hB.2) ?_
    refine lexW_quiet (loud := fun i => i == m + d) (early := fun g => g = none) (pur := fun i => decide (m ≤ i ∧ i ≠ m + d)) rfl l1 0 a g1 (fun a0 h0 => ?_) h
    rw [Nat.zero_add, hlm]
    refine lexW_pureW l2 m a0 g2 (fun a1 h1 => ?_) h0
    rw [hld]
    refine fOp_of (o := oS) (O := fun v g' => g' = some (fun w' => Q .normal (pureRun l3 (a1.put oS.dst v)) w')) gS ?_ ?_
    · unfold Fam
      rw [if_pos (wantS _), if_neg (by simp), if_pos (by simp)]
      refine ⟨rfl, ⟨⟨undef, _, rfl⟩, fun w' hw' => ?_⟩, fun hlate => absurd hlate (by simp)⟩
      exact Yld.mono (fun v w4 hQ => ⟨_, rfl, hQ⟩) (h1 w' hw')
    · rintro v g' rfl
      exact lexW_pure l3 (m + d + 1) _ g3 hpu ⟨_, rfl, fun w' h' => h'⟩
end Go.Proofs.YtnbijfeidgddmaaGreatDoor

namespace Go.Proofs.YtnbijfeidgddmaaGreatDoor
open Go.ChangeShapes Go.WideShapes Go.ChangeAt Go.RowKit

theorem pe_star : "*" ++ "errors.errorString" = "*errors.errorString" := by decide
theorem pe_row (u : TypeId) (h : Tryz.prog.typeName? 3 u = some "*errors.errorString") : u = 169 :=
  typeName_ptr_named (nm := "errors.errorString") (by rw [pe_star]; kernel_rfl) (by kernel_rfl) (by decide) u (by rw [pe_star]; exact h)
theorem pe_of_laid {x0 x1 x2 x3 : String × DataW Unit} {r : List (String × DataW Unit)} {t1 t2 : List UInt8} {W : World}
    (h : laidMet Tryz.prog (x0 :: x1 :: x2 :: x3 :: ("strconv.ErrRange", .iface "*errors.errorString" (.ptr (.agg [.lit (.string t1)]))) :: ("strconv.ErrSyntax", .iface "*errors.errorString" (.ptr (.agg [.lit (.string t2)]))) :: r) W) : PE W := by
  have h4 := h.tail.tail.tail.tail
  obtain ⟨a, _, v1, _⟩ := laid_sentinel (g := 4) h4 (by kernel_rfl) (by kernel_rfl) Tryz.underlying70 pe_row Tryz.underlying169 Tryz.underlying171 rfl rfl Tryz.underlying9 (by kernel_rfl) (by kernel_rfl)
  obtain ⟨b, _, v2, _⟩ := laid_sentinel (g := 3) h4.tail (by kernel_rfl) (by kernel_rfl) Tryz.underlying70 pe_row Tryz.underlying169 Tryz.underlying171 rfl rfl Tryz.underlying9 (by kernel_rfl) (by kernel_rfl)
  exact ⟨⟨_, _, v2⟩, ⟨_, _, v1⟩⟩
end Go.Proofs.YtnbijfeidgddmaaGreatDoor

namespace Go.Proofs.YtnbijfeidgddmaaGreatDoor
open Go.ChangeShapes Go.WideShapes Go.ChangeAt Go.RowKit

def f8 (q : Nat) : Int := IntKind.i8.wrap ((q : Int) + 1)
def f16 (q : Nat) : Int := IntKind.i16.wrap ((q : Int) + 1 + 1)
def g16 (q : Nat) : Int := IntKind.i16.wrap ((q : Int) + 1 + 1 + 1)
/-- The field that is written with the number q. -/
def mkFd (q : Nat) : Fd := ⟨mtext q, f8 q, f16 q, g16 q⟩
/-- The first j fields are marked, from k on. -/
def FdMarked (k j : Nat) (cs : List Fd) : Prop := ∀ l, l < j → fdAt cs l = mkFd (k + 4 * l)
theorem fdMarked_next {k j : Nat} {cs : List Fd} (h : FdMarked k j cs) (hj : j < cs.length) : FdMarked k (j + 1) (cs.set j (mkFd (k + 4 * j))) := by
  intro l hl
  unfold fdAt
  rw [List.getD, List.getElem?_set]
  by_cases e : j = l
  · subst e; simp [hj]
  · rw [if_neg e]; exact h l (by omega)

set_option maxRecDepth 100000 in
set_option maxHeartbeats 3200000 in
theorem markFdsOwn_any (B : Nat) (cs : List Fd) (v : Value) (k : Nat) (w : World) (h : OwnFds B cs v w) (hk : k + 4 * cs.length ≤ 4000000) :
    Calls Tryz.prog 8 #[v, .int .i64 (k : Int)] w fun e w' => e = .returned (.int .i64 ((k + 4 * cs.length : Nat) : Int)) ∧ (∃ ds, ds.length = cs.length ∧ FdMarked k ds.length ds ∧ OwnFds B ds v w') ∧ Below B w w' := by
  obtain ⟨h1, h2⟩ := h
  rcases h2 with ⟨rfl, hz⟩ | ⟨g, cap, cur, rfl, hb, hg, hcap, hmax, hsz, htk⟩
  · have e : cs = [] := List.length_eq_zero_iff.1 hz
    subst e
    go_enter Tryz.func8, Tryz.ntmps8
    go_wp2
    refine wp_loop_rounds 1 ?_
    rw [rounds_succ]; go_wp2
    go_ret
    exact ⟨rfl, ⟨[], rfl, fun l hl => absurd hl (Nat.not_lt_zero _), ⟨rfl, .inl ⟨rfl, rfl⟩⟩⟩, Below.refl _ _⟩
  · have O : OwnFds B cs (.slice (some ⟨g, 0, none⟩) cs.length cap) w := ⟨h1, .inr ⟨g, cap, cur, rfl, hb, hg, hcap, hmax, hsz, htk⟩⟩
    have hgB := Lib.hid hb
    have OW := Lib.hid O
    clear h1 hg hcap hsz htk hmax cur O
    obtain ⟨n, hn⟩ : ∃ n, cs.length = n := ⟨_, rfl⟩
    rw [hn] at hk ⊢
    have NN := Lib.hid hn
    clear hn
    go_enter Tryz.func8, Tryz.ntmps8
    go_wp2
    go_loopw [1, 5] (fun q i wr => ∃ (j q0 : Nat) (ds : List Fd), j ≤ n ∧ i = .int .i64 j ∧ q = .int .i64 (q0 : Int) ∧ q0 = k + 4 * j ∧ ds.length = n ∧ FdMarked k j ds ∧ OwnFds B ds (.slice (some ⟨g, 0, none⟩) ds.length cap) wr ∧ Below B w wr) (fun _ i _ => n - (intOf i).toNat)
    case atStart => exact ⟨0, k, cs, Nat.zero_le _, rfl, rfl, by omega, NN.out, fun l hl => absurd hl (Nat.not_lt_zero _), OW.out, Below.refl _ _⟩
    case round =>
      obtain ⟨j, q0, ds, hj, rfl, rfl, hq, hds, hM, hO, hB⟩ := hrel
      have Q := Lib.hid hq
      have DS := Lib.hid hds
      have MM := Lib.hid hM
      have OO := Lib.hid hO
      have BB := Lib.hid hB
      have gl : g < wr.heap.size := (World.ownsRow.lt hO g rfl).2
      by_cases hkl : j < n
      · have hd : decide ((j : Int) < (n : Int)) = true := by simpa using hkl
        have qb : q0 ≤ 4000000 := by omega
        have i1 : (0 : Int) ≤ (j : Int) := by omega
        have i2 : (j : Int) < (n : Int) := by omega
        have hjd : j < ds.length := by omega
        have g3 := ffld_get ds j hjd
        have r0 := (World.ownsRow.cellAt hO (j * 4) (by omega)).trans g3.1
        have r1 := (World.ownsRow.cellAt hO (j * 4 + 1) (by omega)).trans g3.2.1
        have r2 := (World.ownsRow.cellAt hO (j * 4 + 2) (by omega)).trans g3.2.2.1
        have r3 := (World.ownsRow.cellAt hO (j * 4 + 3) (by omega)).trans g3.2.2.2
        have R0 := Lib.hid g3.1
        have R1 := Lib.hid g3.2.1
        have R2 := Lib.hid g3.2.2.1
        have R3 := Lib.hid g3.2.2.2
        have JD := Lib.hid hjd
        have K := Lib.hid fun W => markText_is q0 qb W
        have NX := Lib.hid (fdMarked_next hM hjd)
        have ST := Lib.hid (ffld_set ds j (mkFd (k + 4 * j)))
        have QM := Lib.hid (show mkFd (k + 4 * j) = ⟨mtext q0, f8 q0, f16 q0, g16 q0⟩ by rw [← hq]; rfl)
        have fz := fun j => World.ownsRow.frozenAt hO j
        have x1 : IntKind.i64.wrap ((q0 : Int) + 1) = (q0 : Int) + 1 := IntWalk.i64_in _ (by omega)
        have x2 : IntKind.i64.wrap ((q0 : Int) + 1 + 1) = (q0 : Int) + 1 + 1 := IntWalk.i64_in _ (by omega)
        have x3 : IntKind.i64.wrap ((q0 : Int) + 1 + 1 + 1) = (q0 : Int) + 1 + 1 + 1 := IntWalk.i64_in _ (by omega)
        have x6 : IntKind.i64.wrap ((q0 : Int) + 1 + 1 + 1 + 1) = (q0 : Int) + 1 + 1 + 1 + 1 := IntWalk.i64_in _ (by omega)
        have x8 : IntKind.i8.wrap ((q0 : Int) + 1) = f8 q0 := rfl
        have x9 : IntKind.i16.wrap ((q0 : Int) + 1 + 1) = f16 q0 := rfl
        have x7 : IntKind.i16.wrap ((q0 : Int) + 1 + 1 + 1) = g16 q0 := rfl
        clear hq hds hM hO hB g3 hjd
        generalize mtext q0 = s at *
        generalize f8 q0 = t8 at *
        generalize f16 q0 = t16 at *
        generalize g16 q0 = u16 at *
        go_wp2_with (go_at_call 24; refine (K.out _).mono ?_; rintro e w2 ⟨rfl, hB⟩; have O2 := Lib.hid (ownFds_kept OO.out hB); have B2 := Lib.hid (BB.out.trans (Below.mono hB (Nat.le_trans hgB.out (Nat.le_of_lt gl)))); have t0 := (World.ownsRow.cellAt O2.out (j * 4) (by have := JD.out; omega)).trans R0.out; have t1 := (World.ownsRow.cellAt O2.out (j * 4 + 1) (by have := JD.out; omega)).trans R1.out; have t2 := (World.ownsRow.cellAt O2.out (j * 4 + 2) (by have := JD.out; omega)).trans R2.out; have t3 := (World.ownsRow.cellAt O2.out (j * 4 + 3) (by have := JD.out; omega)).trans R3.out; have fz2 := fun j => World.ownsRow.frozenAt O2.out j; have g2 : g < w2.heap.size := (World.ownsRow.lt O2.out g rfl).2; clear hB)
        have s0 := (World.ownsRow.stored O2.out (j * 4) (.string s)).1
        have s1 := (World.ownsRow.stored s0 (j * 4 + 1) (.int .i8 t8)).1
        have s2 := (World.ownsRow.stored s1 (j * 4 + 2) (.int .i16 t16)).1
        have s3 := (World.ownsRow.stored s2 (j * 4 + 3) (.int .i16 u16)).1
        have st := ST.out
        have nx := NX.out
        rw [QM.out] at st nx
        simp only at st
        rw [st] at s3
        refine ⟨⟨j + 1, q0 + 4, _, hkl, by rw [Int.natCast_succ], by rw [show ((q0 + 4 : Nat) : Int) = (q0 : Int) + 1 + 1 + 1 + 1 by omega], by have := Q.out; omega, by rw [List.length_set]; exact DS.out, nx, ?_, ((((B2.out.setCell hgB.out _).setCell hgB.out _).setCell hgB.out _).setCell hgB.out _)⟩, by (simp [intOf]) <;> omega⟩
        unfold OwnFds
        rw [List.length_set]
        exact s3
      · have e : j = n := by omega
        subst e
        have hd : decide ((j : Int) < (j : Int)) = false := by simp
        clear hds hM hO hB
        have hq2 := hq
        subst hq2
        clear hq
        go_wp2
        go_ret
        exact ⟨rfl, ⟨ds, DS.out, by rw [DS.out]; exact MM.out, by have := OO.out; rw [DS.out] at this; exact this⟩, BB.out⟩

set_option maxRecDepth 100000 in
set_option maxHeartbeats 3200000 in
theorem heldFds_any (a : Option Addr) (ds : List Fd) (c k m : Nat) (hm0 : m = ds.length) (w : World) (h : CellsFd w a ds) (hm : FdMarked k ds.length ds) (hk : k + 4 * ds.length ≤ 4000000) :
    Calls Tryz.prog 9 #[.slice a m c, .int .i64 (k : Int)] w fun e w' => e = .returned (.int .i64 ((k + 4 * m : Nat) : Int)) ∧ Below w.heap.size w w' := by
  subst hm0
  have H := Lib.hid h
  have M := Lib.hid hm
  clear h hm
  have hbw := cell_bw
  go_enter Tryz.func9, Tryz.ntmps9
  go_wp2
  go_loopw [1, 5] (fun q i wr => ∃ j q0 : Nat, j ≤ ds.length ∧ i = .int .i64 j ∧ q = .int .i64 (q0 : Int) ∧ q0 = k + 4 * j ∧ Below w.heap.size w wr) (fun _ i _ => ds.length - (intOf i).toNat)
  case atStart => exact ⟨0, k, Nat.zero_le _, rfl, rfl, by omega, Below.refl _ _⟩
  case round =>
    obtain ⟨j, q0, hj, rfl, rfl, hq, hB⟩ := hrel
    have Q := Lib.hid hq
    have BB := Lib.hid hB
    by_cases hkl : j < ds.length
    · have hd : decide ((j : Int) < (ds.length : Int)) = true := by simpa using hkl
      have qb : q0 ≤ 4000000 := by omega
      have i1 : (0 : Int) ≤ (j : Int) := by omega
      have i2 : (j : Int) < (ds.length : Int) := by omega
      obtain ⟨b, o, rfl, hb, c0, c1, c2, c3⟩ := H.out j hkl
      have e := M.out j hkl
      rw [← hq] at e
      rw [e] at c0 c1 c2 c3
      have d0 := (hB.cell (p := ⟨b, o + j * 4, none⟩) hb).trans c0
      have d1 := (hB.cell (p := ⟨b, o + j * 4 + 1, none⟩) hb).trans c1
      have d2 := (hB.cell (p := ⟨b, o + j * 4 + 2, none⟩) hb).trans c2
      have d3 := (hB.cell (p := ⟨b, o + j * 4 + 3, none⟩) hb).trans c3
      simp only [mkFd] at d0 d1 d2 d3
      have y : b < wr.heap.size := Nat.lt_of_lt_of_le hb hB.size
      have K := Lib.hid fun W => markText_is q0 qb W
      have x1 : IntKind.i64.wrap ((q0 : Int) + 1) = (q0 : Int) + 1 := IntWalk.i64_in _ (by omega)
      have x2 : IntKind.i64.wrap ((q0 : Int) + 1 + 1) = (q0 : Int) + 1 + 1 := IntWalk.i64_in _ (by omega)
      have x3 : IntKind.i64.wrap ((q0 : Int) + 1 + 1 + 1) = (q0 : Int) + 1 + 1 + 1 := IntWalk.i64_in _ (by omega)
      have x6 : IntKind.i64.wrap ((q0 : Int) + 1 + 1 + 1 + 1) = (q0 : Int) + 1 + 1 + 1 + 1 := IntWalk.i64_in _ (by omega)
      have x8 : IntKind.i8.wrap ((q0 : Int) + 1) = f8 q0 := rfl
      have x9 : IntKind.i16.wrap ((q0 : Int) + 1 + 1) = f16 q0 := rfl
      have x7 : IntKind.i16.wrap ((q0 : Int) + 1 + 1 + 1) = g16 q0 := rfl
      clear hq hB c0 c1 c2 c3 e
      generalize mtext q0 = s at *
      generalize f8 q0 = t8 at *
      generalize f16 q0 = t16 at *
      generalize g16 q0 = u16 at *
      have n0 : (t8 != t8) = false := by simp
      have n4 : (t16 != t16) = false := by simp
      have n5 : (u16 != u16) = false := by simp
      have n3 : (s.toList != s.toList) = false := by simp
      go_wp2_with fail
      refine region_bw (by kernel_rfl) (by kernel_rfl) ?_
      repeat (go_big_quiet_step (first | (go_at_call 24; exact calls_bw (K.out _))))
      refine wpQuiet_nil ?_; intro wq hq; replace hq := below_of_bw hq; obtain ⟨qc, qf, qz⟩ := bcell hq
      have B2 := Lib.hid (BB.out.trans (hq.mono BB.out.size))
      have t1 := (Below.cell hq (p := ⟨b, o + j * 4 + 1, none⟩) y).trans d1
      have t2 := (Below.cell hq (p := ⟨b, o + j * 4 + 2, none⟩) y).trans d2
      have t3 := (Below.cell hq (p := ⟨b, o + j * 4 + 3, none⟩) y).trans d3
      clear d0 d1 d2 d3 hq qc qf qz hbw
      go_wp2
      exact ⟨⟨j + 1, q0 + 4, hkl, by rw [Int.natCast_succ], by rw [show ((q0 + 4 : Nat) : Int) = (q0 : Int) + 1 + 1 + 1 + 1 by omega], by have := Q.out; omega, B2.out⟩, by (simp [intOf]) <;> omega⟩
    · have e : j = ds.length := by omega
      subst e
      have hd : decide ((ds.length : Int) < (ds.length : Int)) = false := by simp
      have hq2 := hq
      subst hq2
      clear hq hB
      go_wp2
      go_ret
      exact ⟨rfl, BB.out⟩
theorem cellsFd_up {w w' : World} {a : Option Addr} {xs : List Fd} (h : CellsFd w a xs) (hb : Below w.heap.size w w') : CellsFd w' a xs := cellsFd_below h hb
end Go.Proofs.YtnbijfeidgddmaaGreatDoor


