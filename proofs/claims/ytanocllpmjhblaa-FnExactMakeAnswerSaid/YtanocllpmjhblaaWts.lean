/- Slices of witnesses: opened, carried over, new ones. -/
import Derived.Test.YtanocllpmjhblaaInts
import Derived.Deep.Slices
import Derived.OpenShut
namespace Go.Proofs.Ytanocllpmjhblaa
open Go.ChangeShapes Go.WideShapes Go.ChangeAt Go.RowKit

/-- One of them, as it lies in memory: 2 cells. -/
structure Wt where
  c : Int
  h : Int
instance : Inhabited Wt := ⟨⟨0, 0⟩⟩
def Wt.fits (x : Wt) : Prop := I64 x.c ∧ I16 x.h
def wtAt (xs : List Wt) (i : Nat) : Wt := xs.getD i default
theorem wtAt_map (f : Nat → Wt) (n i : Nat) (h : i < n) : wtAt ((List.range n).map f) i = f i := by
  unfold wtAt; simp [List.getD, h]

def wtCell (w : World) (a : Option Addr) (i : Nat) (x : Wt) : Prop := x.fits ∧ ∃ b off, a = some ⟨b, off, none⟩ ∧ b < w.heap.size ∧
  w.cell? ⟨b, off + i * 2, none⟩ = some (.int .i64 x.c) ∧ w.cell? ⟨b, off + i * 2 + 1, none⟩ = some (.int .i16 x.h)
/-- They lie in memory. -/
def WitsIn (w : World) (a : Option Addr) (xs : List Wt) : Prop := ∀ i, i < xs.length → wtCell w a i (wtAt xs i)
theorem wtCell_below {w w' : World} {a : Option Addr} {i : Nat} {x : Wt} (h : wtCell w a i x) (hb : Below w.heap.size w w') : wtCell w' a i x := by
  obtain ⟨hf, b, off, ha, hlt, h0, h1⟩ := h
  exact ⟨hf, b, off, ha, Nat.lt_of_lt_of_le hlt hb.size, (hb.cell hlt).trans h0, (hb.cell hlt).trans h1⟩
theorem witsIn_below {w w' : World} {a : Option Addr} {xs : List Wt} (h : WitsIn w a xs) (hb : Below w.heap.size w w') : WitsIn w' a xs := fun i hi => wtCell_below (h i hi) hb

/-- A new slice with just these, in a block from B on. -/
def NewWits (B : Nat) (xs : List Wt) (v : Value) (w : World) : Prop := ∃ g, v = .slice (some ⟨g, 0, none⟩) xs.length xs.length ∧ B ≤ g ∧ g < w.heap.size ∧ WitsIn w (some ⟨g, 0, none⟩) xs ∧ ∀ j, w.frozen? ⟨g, j, none⟩ = false

theorem open_wits {H : Type} {enc : TypeId × Value → H} {P : Program} {W : World} {t e : TypeId} {f0 f1 : Field} {v : Value} {fuel : Nat} {y : DataW H × List MemPlace} (ht : P.underlying t = some (.slice e)) (he : P.underlying e = some (.struct #[f0, f1])) (t0 : P.underlying f0.type = some (.int .i64)) (t1 : P.underlying f1.type = some (.int .i16)) (ce : P.cellsOf e = 2) (c0 : P.cellsOf f0.type = 1) (c1 : P.cellsOf f1.type = 1) (o0 : f0.offset = 0) (o1 : f1.offset = 1)
    (hf : DataW.trod enc P W 0 (fun _ => true) true fuel t [v] = some y) : ∃ a xs cap, v = .slice a xs.length cap ∧ WitsIn W a xs ∧ xs.length ≤ maxLen := by
  rcases Go.Deep.open_slice ht hf with ⟨hcs, _⟩ | ⟨a, len, cap', m, n, D, Pl, hcs, _, hl, hcm, hm, _, hi⟩
  · simp at hcs
    subst hcs
    exact ⟨none, [], 0, rfl, fun i hi => absurd hi (Nat.not_lt_zero _), Nat.zero_le _⟩
  · simp at hcs
    subst hcs
    simp at hm
    subst hm
    have key : ∀ i, i < len → ∃ c : Wt, c.fits ∧ W.cell? (a.add (i * 2)) = some (.int .i64 c.c) ∧ W.cell? (a.add (i * 2 + 1)) = some (.int .i16 c.h) := by
      intro i hi'
      obtain ⟨cs', hc, hd⟩ := hi i (by omega)
      rw [ce] at hc
      obtain ⟨_, hlen, hat⟩ := World.cells?_some hc
      obtain ⟨xs, n1, _, _, _, hxl, hfs⟩ := DataW.trod_struct he hd
      match cs', hlen with
      | [x0, x1], _ =>
        have g0 := hfs 0 f0 rfl
        have g1 := hfs 1 f1 rfl
        rw [o0, c0] at g0
        rw [o1, c1] at g1
        match xs, hxl with
        | [y0, y1], _ =>
          simp at g0 g1
          obtain ⟨i0, ei0, _, wi0⟩ := DataW.trod_int t0 g0
          simp at ei0
          subst ei0
          simp [Lit.wf, IntKind.min, IntKind.max, IntKind.signed, IntKind.bits] at wi0
          have ui0 : I64 i0 := ⟨by omega, by omega⟩
          obtain ⟨i1, ei1, _, wi1⟩ := DataW.trod_int t1 g1
          simp at ei1
          subst ei1
          simp [Lit.wf, IntKind.min, IntKind.max, IntKind.signed, IntKind.bits] at wi1
          have ui1 : I16 i1 := ⟨by omega, by omega⟩
          have a0 := hat 0 (by omega)
          have a1 := hat 1 (by omega)
          rw [Go.Deep.add_add] at a0 a1
          exact ⟨⟨i0, i1⟩, ⟨ui0, ui1⟩, a0, a1⟩
    obtain ⟨f, hf2⟩ := Go.Deep.choose_lt key
    refine ⟨some a, (List.range len).map f, m, by simp, fun i hi' => ?_, by simp; omega⟩
    simp at hi'
    rw [wtAt_map f len i hi']
    obtain ⟨hfit, q0, q1⟩ := hf2 i hi'
    obtain ⟨b, off, spot⟩ := a
    have hspot : spot = none := by simpa [Addr.add] using World.cell?_spot (hf2 0 (by omega)).2.1
    subst hspot
    exact ⟨hfit, b, off, rfl, by have h := World.block_lt_of_cell? _ _ q0; rw [Go.WideShapes.add_plain] at h; exact h, by rw [← Go.WideShapes.add_plain]; exact q0, by rw [Nat.add_assoc, ← Go.WideShapes.add_plain]; exact q1⟩
end Go.Proofs.Ytanocllpmjhblaa
