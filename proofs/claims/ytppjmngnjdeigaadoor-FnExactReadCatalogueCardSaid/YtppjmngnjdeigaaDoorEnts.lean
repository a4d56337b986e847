/- Slices of entries: opened, carried over, new ones. -/
import Derived.Test.YtppjmngnjdeigaaDoorInts
import Derived.Deep.Slices
import Derived.OpenShut
namespace Go.Proofs.YtppjmngnjdeigaaDoor
open Go.ChangeShapes Go.WideShapes Go.ChangeAt Go.RowKit

/-- An entry as it lies in memory: three cells. -/
structure Et where
  s : ByteArray
  a : Int
  b : Int
instance : Inhabited Et := ⟨⟨ByteArray.empty, 0, 0⟩⟩
def Et.fits (c : Et) : Prop := c.s.size ≤ maxLen ∧ I64 c.a ∧ I64 c.b
def etAt (cs : List Et) (i : Nat) : Et := cs.getD i default
theorem etAt_map (f : Nat → Et) (n i : Nat) (h : i < n) : etAt ((List.range n).map f) i = f i := by
  unfold etAt; simp [List.getD, h]

/-- The cells of the entry with index i lie behind an address. -/
def EtCell (w : World) (a : Option Addr) (i : Nat) (c : Et) : Prop := c.fits ∧ ∃ b off, a = some ⟨b, off, none⟩ ∧ b < w.heap.size ∧
  w.cell? ⟨b, off + i * 3, none⟩ = some (.string c.s) ∧ w.cell? ⟨b, off + i * 3 + 1, none⟩ = some (.int .i64 c.a) ∧ w.cell? ⟨b, off + i * 3 + 2, none⟩ = some (.int .i64 c.b)
/-- The cards of a slice lie in memory. -/
def EntsIn (w : World) (a : Option Addr) (cs : List Et) : Prop := ∀ i, i < cs.length → EtCell w a i (etAt cs i)
theorem etCell_below {w w' : World} {a : Option Addr} {i : Nat} {c : Et} (h : EtCell w a i c) (hb : Below w.heap.size w w') : EtCell w' a i c := by
  obtain ⟨hf, b, off, ha, hlt, h0, h1, h2⟩ := h
  exact ⟨hf, b, off, ha, Nat.lt_of_lt_of_le hlt hb.size, (hb.cell hlt).trans h0, (hb.cell hlt).trans h1, (hb.cell hlt).trans h2⟩
theorem entsIn_below {w w' : World} {a : Option Addr} {cs : List Et} (h : EntsIn w a cs) (hb : Below w.heap.size w w') : EntsIn w' a cs := fun i hi => etCell_below (h i hi) hb

/-- A new slice with just these cards, in a block from B on. -/
def NewEnts (B : Nat) (cs : List Et) (v : Value) (w : World) : Prop := ∃ g, v = .slice (some ⟨g, 0, none⟩) cs.length cs.length ∧ B ≤ g ∧ g < w.heap.size ∧ EntsIn w (some ⟨g, 0, none⟩) cs ∧ ∀ j, w.frozen? ⟨g, j, none⟩ = false

theorem open_ents {H : Type} {enc : TypeId × Value → H} {P : Program} {W : World} {t e : TypeId} {f0 f1 f2 : Field} {v : Value} {d : DataW H} {p : List MemPlace} {r : Reach} {b : Nat} (ht : P.underlying t = some (.slice e)) (he : P.underlying e = some (.struct #[f0, f1, f2])) (hs : P.underlying f0.type = some .string) (h1 : P.underlying f1.type = some (.int .i64)) (h2 : P.underlying f2.type = some (.int .i64))
    (ce : P.cellsOf e = 3) (c0 : P.cellsOf f0.type = 1) (c1 : P.cellsOf f1.type = 1) (c2 : P.cellsOf f2.type = 1) (o0 : f0.offset = 0) (o1 : f1.offset = 1) (o2 : f2.offset = 2)
    (hv : Value.okWide P W r b t v) (h : DataW.Trod enc P W 0 (fun _ => true) true t v d p) : ∃ a cs cap, v = .slice a cs.length cap ∧ EntsIn W a cs ∧ cs.length ≤ maxLen := by
  obtain ⟨a0, len, cap, rfl⟩ := okWide_slice ht hv
  obtain ⟨fuel, hf⟩ := h
  rcases Go.Deep.open_slice ht hf with ⟨hcs, _⟩ | ⟨a, len', cap', m, n, D, Pl, hcs, _, hl, hcm, hm, _, hi⟩
  · simp [Value.cells] at hcs
    obtain ⟨rfl, rfl, rfl⟩ := hcs
    exact ⟨none, [], 0, rfl, fun i hi => by simp at hi, by simp⟩
  · simp [Value.cells] at hcs
    obtain ⟨rfl, rfl, rfl⟩ := hcs
    simp at hm
    subst hm
    have key : ∀ i, i < len → ∃ c : Et, c.fits ∧ W.cell? (a.add (i * 3)) = some (.string c.s) ∧ W.cell? (a.add (i * 3 + 1)) = some (.int .i64 c.a) ∧ W.cell? (a.add (i * 3 + 2)) = some (.int .i64 c.b) := by
      intro i hi'
      obtain ⟨cs', hc, hd⟩ := hi i (by omega)
      rw [ce] at hc
      obtain ⟨_, hlen, hat⟩ := World.cells?_some hc
      obtain ⟨xs, n1, _, _, _, hxl, hfs⟩ := DataW.trod_struct he hd
      match cs', hlen with
      | [x0, x1, x2], _ =>
        have g0 := hfs 0 f0 rfl
        have g1 := hfs 1 f1 rfl
        have g2 := hfs 2 f2 rfl
        rw [o0, c0] at g0
        rw [o1, c1] at g1
        rw [o2, c2] at g2
        match xs, hxl with
        | [y0, y1, y2], _ =>
          simp at g0 g1 g2
          obtain ⟨s, hs0, _, hs1⟩ := DataW.trod_string hs g0
          obtain ⟨n3, e3, _, w3⟩ := DataW.trod_int h1 g1
          obtain ⟨n4, e4, _, w4⟩ := DataW.trod_int h2 g2
          simp at hs0 e3 e4
          subst hs0 e3 e4
          simp [Lit.wf, IntKind.min, IntKind.max, IntKind.signed, IntKind.bits] at w3 w4
          have u3 : I64 n3 := ⟨by omega, by omega⟩
          have u4 : I64 n4 := ⟨by omega, by omega⟩
          have a0 := hat 0 (by omega)
          have a1 := hat 1 (by omega)
          have a2 := hat 2 (by omega)
          rw [Go.Deep.add_add] at a0 a1 a2
          exact ⟨⟨s, n3, n4⟩, ⟨hs1, u3, u4⟩, a0, a1, a2⟩
    obtain ⟨f, hf2⟩ := Go.Deep.choose_lt key
    refine ⟨some a, (List.range len).map f, m, by simp, fun i hi' => ?_, by simp; omega⟩
    simp at hi'
    rw [etAt_map f len i hi']
    obtain ⟨hfit, q0, q1, q2⟩ := hf2 i hi'
    obtain ⟨b, off, spot⟩ := a
    have hspot : spot = none := by simpa [Addr.add] using World.cell?_spot (hf2 0 (by omega)).2.1
    subst hspot
    exact ⟨hfit, b, off, rfl, by have h := World.block_lt_of_cell? _ _ q0; rw [Go.WideShapes.add_plain] at h; exact h, by rw [← Go.WideShapes.add_plain]; exact q0, by rw [Nat.add_assoc, ← Go.WideShapes.add_plain]; exact q1, by rw [Nat.add_assoc, ← Go.WideShapes.add_plain]; exact q2⟩
end Go.Proofs.YtppjmngnjdeigaaDoor
