/- Slices of fields: opened, carried over, new ones. -/
import Derived.Test.YtllhglakihfjmaaDoorInts
import Derived.Deep.Slices
import Derived.OpenShut
namespace Go.Proofs.YtllhglakihfjmaaDoor
open Go.ChangeShapes Go.WideShapes Go.ChangeAt Go.RowKit

/-- A field as it lies in memory: four cells. -/
structure Fd where
  s : ByteArray
  k : Int
  t : Int
  z : Int
instance : Inhabited Fd := ⟨⟨ByteArray.empty, 0, 0, 0⟩⟩
def Fd.fits (f : Fd) : Prop := f.s.size ≤ maxLen ∧ I8 f.k ∧ I16 f.t ∧ I16 f.z
def fdAt (fs : List Fd) (i : Nat) : Fd := fs.getD i default
theorem fdAt_map (f : Nat → Fd) (n i : Nat) (h : i < n) : fdAt ((List.range n).map f) i = f i := by
  unfold fdAt; simp [List.getD, h]

/-- The cells of the field with index i lie behind an address. -/
def FdCell (w : World) (a : Option Addr) (i : Nat) (f : Fd) : Prop := f.fits ∧ ∃ b off, a = some ⟨b, off, none⟩ ∧ b < w.heap.size ∧
  w.cell? ⟨b, off + i * 4, none⟩ = some (.string f.s) ∧ w.cell? ⟨b, off + i * 4 + 1, none⟩ = some (.int .i8 f.k) ∧ w.cell? ⟨b, off + i * 4 + 2, none⟩ = some (.int .i16 f.t) ∧ w.cell? ⟨b, off + i * 4 + 3, none⟩ = some (.int .i16 f.z)
/-- The fields of a slice lie in memory. -/
def FieldsIn (w : World) (a : Option Addr) (fs : List Fd) : Prop := ∀ i, i < fs.length → FdCell w a i (fdAt fs i)
theorem fdCell_below {w w' : World} {a : Option Addr} {i : Nat} {f : Fd} (h : FdCell w a i f) (hb : Below w.heap.size w w') : FdCell w' a i f := by
  obtain ⟨hf, b, off, ha, hlt, h0, h1, h2, h3⟩ := h
  exact ⟨hf, b, off, ha, Nat.lt_of_lt_of_le hlt hb.size, (hb.cell hlt).trans h0, (hb.cell hlt).trans h1, (hb.cell hlt).trans h2, (hb.cell hlt).trans h3⟩
theorem fieldsIn_below {w w' : World} {a : Option Addr} {fs : List Fd} (h : FieldsIn w a fs) (hb : Below w.heap.size w w') : FieldsIn w' a fs := fun i hi => fdCell_below (h i hi) hb

/-- A new slice with just these fields, in a block from B on. -/
def NewFields (B : Nat) (fs : List Fd) (v : Value) (w : World) : Prop := ∃ g, v = .slice (some ⟨g, 0, none⟩) fs.length fs.length ∧ B ≤ g ∧ g < w.heap.size ∧ FieldsIn w (some ⟨g, 0, none⟩) fs ∧ ∀ j, w.frozen? ⟨g, j, none⟩ = false

theorem open_fields {H : Type} {enc : TypeId × Value → H} {P : Program} {W : World} {t e : TypeId} {f0 f1 f2 f3 : Field} {v : Value} {d : DataW H} {p : List MemPlace} {r : Reach} {b : Nat} (ht : P.underlying t = some (.slice e)) (he : P.underlying e = some (.struct #[f0, f1, f2, f3])) (hs : P.underlying f0.type = some .string) (h8 : P.underlying f1.type = some (.int .i8)) (h16 : P.underlying f2.type = some (.int .i16)) (h17 : P.underlying f3.type = some (.int .i16))
    (ce : P.cellsOf e = 4) (c0 : P.cellsOf f0.type = 1) (c1 : P.cellsOf f1.type = 1) (c2 : P.cellsOf f2.type = 1) (c3 : P.cellsOf f3.type = 1) (o0 : f0.offset = 0) (o1 : f1.offset = 1) (o2 : f2.offset = 2) (o3 : f3.offset = 3)
    (hv : Value.okWide P W r b t v) (h : DataW.Trod enc P W 0 (fun _ => true) true t v d p) : ∃ a fs cap, v = .slice a fs.length cap ∧ FieldsIn W a fs ∧ fs.length ≤ maxLen := by
  obtain ⟨a0, len, cap, rfl⟩ := okWide_slice ht hv
  obtain ⟨fuel, hf⟩ := h
  rcases Go.Deep.open_slice ht hf with ⟨hcs, _⟩ | ⟨a, len', cap', m, n, D, Pl, hcs, _, hl, hcm, hm, _, hi⟩
  · simp [Value.cells] at hcs
    obtain ⟨rfl, rfl, rfl⟩ := hcs
    exact ⟨none, [], 0, rfl, fun i hi => by simp at hi, by simp⟩
  · simp [Value.cells] at hcs
    obtain ⟨rfl, rfl, rfl⟩ := hcs
    simp at hm
    subst hm
    have key : ∀ i, i < len → ∃ c : Fd, c.fits ∧ W.cell? (a.add (i * 4)) = some (.string c.s) ∧ W.cell? (a.add (i * 4 + 1)) = some (.int .i8 c.k) ∧ W.cell? (a.add (i * 4 + 2)) = some (.int .i16 c.t) ∧ W.cell? (a.add (i * 4 + 3)) = some (.int .i16 c.z) := by
      intro i hi'
      obtain ⟨cs', hc, hd⟩ := hi i (by omega)
      rw [ce] at hc
      obtain ⟨_, hlen, hat⟩ := World.cells?_some hc
      obtain ⟨xs, n1, _, _, _, hxl, hfs⟩ := DataW.trod_struct he hd
      match cs', hlen with
      | [x0, x1, x2, x3], _ =>
        have g0 := hfs 0 f0 rfl
        have g1 := hfs 1 f1 rfl
        have g2 := hfs 2 f2 rfl
        have g3 := hfs 3 f3 rfl
        rw [o0, c0] at g0
        rw [o1, c1] at g1
        rw [o2, c2] at g2
        rw [o3, c3] at g3
        match xs, hxl with
        | [y0, y1, y2, y3], _ =>
          simp at g0 g1 g2 g3
          obtain ⟨s, hs0, _, hs1⟩ := DataW.trod_string hs g0
          obtain ⟨n1, e1, _, w1⟩ := DataW.trod_int h8 g1
          obtain ⟨n2, e2, _, w2⟩ := DataW.trod_int h16 g2
          obtain ⟨n3, e3, _, w3⟩ := DataW.trod_int h17 g3
          simp at hs0 e1 e2 e3
          subst hs0 e1 e2 e3
          simp [Lit.wf, IntKind.min, IntKind.max, IntKind.signed, IntKind.bits] at w1 w2 w3
          have u1 : I8 n1 := ⟨by omega, by omega⟩
          have u2 : I16 n2 := ⟨by omega, by omega⟩
          have u3 : I16 n3 := ⟨by omega, by omega⟩
          have a0 := hat 0 (by omega)
          have a1 := hat 1 (by omega)
          have a2 := hat 2 (by omega)
          have a3 := hat 3 (by omega)
          rw [Go.Deep.add_add] at a0 a1 a2 a3
          exact ⟨⟨s, n1, n2, n3⟩, ⟨hs1, u1, u2, u3⟩, a0, a1, a2, a3⟩
    obtain ⟨f, hf2⟩ := Go.Deep.choose_lt key
    refine ⟨some a, (List.range len).map f, m, by simp, fun i hi' => ?_, by simp; omega⟩
    simp at hi'
    rw [fdAt_map f len i hi']
    obtain ⟨hfit, q0, q1, q2, q3⟩ := hf2 i hi'
    obtain ⟨b, off, spot⟩ := a
    have hspot : spot = none := by simpa [Addr.add] using World.cell?_spot (hf2 0 (by omega)).2.1
    subst hspot
    exact ⟨hfit, b, off, rfl, by have h := World.block_lt_of_cell? _ _ q0; rw [Go.WideShapes.add_plain] at h; exact h, by rw [← Go.WideShapes.add_plain]; exact q0, by rw [Nat.add_assoc, ← Go.WideShapes.add_plain]; exact q1, by rw [Nat.add_assoc, ← Go.WideShapes.add_plain]; exact q2, by rw [Nat.add_assoc, ← Go.WideShapes.add_plain]; exact q3⟩
end Go.Proofs.YtllhglakihfjmaaDoor
