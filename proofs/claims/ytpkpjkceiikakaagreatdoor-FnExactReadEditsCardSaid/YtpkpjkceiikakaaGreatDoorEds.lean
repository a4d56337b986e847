/- Slices of edits: opened, carried over, new ones. -/
import Derived.Test.YtpkpjkceiikakaaGreatDoorInts
import Derived.Deep.Slices
import Derived.OpenShut
namespace Go.Proofs.YtpkpjkceiikakaaGreatDoor
open Go.ChangeShapes Go.WideShapes Go.ChangeAt Go.RowKit

/-- One of them, as it lies in memory: 5 cells. -/
structure Ed where
  k : Int
  s : ByteArray
  h : Int
  a : Int
  b : Int
instance : Inhabited Ed := ⟨⟨0, ByteArray.empty, 0, 0, 0⟩⟩
def Ed.fits (x : Ed) : Prop := I8 x.k ∧ x.s.size ≤ maxLen ∧ I16 x.h ∧ U64 x.a ∧ U64 x.b
def edAt (xs : List Ed) (i : Nat) : Ed := xs.getD i default
theorem edAt_map (f : Nat → Ed) (n i : Nat) (h : i < n) : edAt ((List.range n).map f) i = f i := by
  unfold edAt; simp [List.getD, h]

def edCell (w : World) (a : Option Addr) (i : Nat) (x : Ed) : Prop := x.fits ∧ ∃ b off, a = some ⟨b, off, none⟩ ∧ b < w.heap.size ∧
  w.cell? ⟨b, off + i * 5, none⟩ = some (.int .i8 x.k) ∧ w.cell? ⟨b, off + i * 5 + 1, none⟩ = some (.string x.s) ∧ w.cell? ⟨b, off + i * 5 + 2, none⟩ = some (.int .i16 x.h) ∧ w.cell? ⟨b, off + i * 5 + 3, none⟩ = some (.int .u64 x.a) ∧ w.cell? ⟨b, off + i * 5 + 4, none⟩ = some (.int .u64 x.b)
/-- They lie in memory. -/
def EditsIn (w : World) (a : Option Addr) (xs : List Ed) : Prop := ∀ i, i < xs.length → edCell w a i (edAt xs i)
theorem edCell_below {w w' : World} {a : Option Addr} {i : Nat} {x : Ed} (h : edCell w a i x) (hb : Below w.heap.size w w') : edCell w' a i x := by
  obtain ⟨hf, b, off, ha, hlt, h0, h1, h2, h3, h4⟩ := h
  exact ⟨hf, b, off, ha, Nat.lt_of_lt_of_le hlt hb.size, (hb.cell hlt).trans h0, (hb.cell hlt).trans h1, (hb.cell hlt).trans h2, (hb.cell hlt).trans h3, (hb.cell hlt).trans h4⟩
theorem editsIn_below {w w' : World} {a : Option Addr} {xs : List Ed} (h : EditsIn w a xs) (hb : Below w.heap.size w w') : EditsIn w' a xs := fun i hi => edCell_below (h i hi) hb

/-- A new slice with just these, in a block from B on. -/
def NewEdits (B : Nat) (xs : List Ed) (v : Value) (w : World) : Prop := ∃ g, v = .slice (some ⟨g, 0, none⟩) xs.length xs.length ∧ B ≤ g ∧ g < w.heap.size ∧ EditsIn w (some ⟨g, 0, none⟩) xs ∧ ∀ j, w.frozen? ⟨g, j, none⟩ = false

theorem open_edits {H : Type} {enc : TypeId × Value → H} {P : Program} {W : World} {t e u : TypeId} {f0 f1 f2 f3 : Field} {v : Value} {fuel : Nat} {y : DataW H × List MemPlace} (ht : P.underlying t = some (.slice e)) (he : P.underlying e = some (.struct #[f0, f1, f2, f3])) (t0 : P.underlying f0.type = some (.int .i8)) (t1 : P.underlying f1.type = some .string) (t2 : P.underlying f2.type = some (.int .i16)) (t3 : P.underlying f3.type = some (.array 2 u)) (tu : P.underlying u = some (.int .u64)) (ce : P.cellsOf e = 5) (c0 : P.cellsOf f0.type = 1) (c1 : P.cellsOf f1.type = 1) (c2 : P.cellsOf f2.type = 1) (c3 : P.cellsOf f3.type = 2) (cu : P.cellsOf u = 1) (o0 : f0.offset = 0) (o1 : f1.offset = 1) (o2 : f2.offset = 2) (o3 : f3.offset = 3)
    (hf : DataW.trod enc P W 0 (fun _ => true) true fuel t [v] = some y) : ∃ a xs cap, v = .slice a xs.length cap ∧ EditsIn W a xs ∧ xs.length ≤ maxLen := by
  rcases Go.Deep.open_slice ht hf with ⟨hcs, _⟩ | ⟨a, len, cap', m, n, D, Pl, hcs, _, hl, hcm, hm, _, hi⟩
  · simp at hcs
    subst hcs
    exact ⟨none, [], 0, rfl, fun i hi => absurd hi (Nat.not_lt_zero _), Nat.zero_le _⟩
  · simp at hcs
    subst hcs
    simp at hm
    subst hm
    have key : ∀ i, i < len → ∃ c : Ed, c.fits ∧ W.cell? (a.add (i * 5)) = some (.int .i8 c.k) ∧ W.cell? (a.add (i * 5 + 1)) = some (.string c.s) ∧ W.cell? (a.add (i * 5 + 2)) = some (.int .i16 c.h) ∧ W.cell? (a.add (i * 5 + 3)) = some (.int .u64 c.a) ∧ W.cell? (a.add (i * 5 + 4)) = some (.int .u64 c.b) := by
      intro i hi'
      obtain ⟨cs', hc, hd⟩ := hi i (by omega)
      rw [ce] at hc
      obtain ⟨_, hlen, hat⟩ := World.cells?_some hc
      obtain ⟨xs, n1, _, _, _, hxl, hfs⟩ := DataW.trod_struct he hd
      match cs', hlen with
      | [x0, x1, x2, x3, x4], _ =>
        have g0 := hfs 0 f0 rfl
        have g1 := hfs 1 f1 rfl
        have g2 := hfs 2 f2 rfl
        have g3 := hfs 3 f3 rfl
        rw [o0, c0] at g0
        rw [o1, c1] at g1
        rw [o2, c2] at g2
        rw [o3, c3] at g3
        match xs, hxl with
        | [y0, y1, y2, y3], _ =>
          simp at g0 g1 g2 g3
          obtain ⟨i0, ei0, _, wi0⟩ := DataW.trod_int t0 g0
          simp at ei0
          subst ei0
          simp [Lit.wf, IntKind.min, IntKind.max, IntKind.signed, IntKind.bits] at wi0
          have ui0 : I8 i0 := ⟨by omega, by omega⟩
          obtain ⟨s1, es1, _, hs1⟩ := DataW.trod_string t1 g1
          simp at es1
          subst es1
          obtain ⟨i2, ei2, _, wi2⟩ := DataW.trod_int t2 g2
          simp at ei2
          subst ei2
          simp [Lit.wf, IntKind.min, IntKind.max, IntKind.signed, IntKind.bits] at wi2
          have ui2 : I16 i2 := ⟨by omega, by omega⟩
          obtain ⟨zs, n2, _, _, _, hzl, hg⟩ := DataW.trod_array t3 g3
          match zs, hzl with
          | [z0, z1], _ =>
          have k0 := hg 0 (by omega)
          have k1 := hg 1 (by omega)
          rw [cu] at k0 k1
          simp at k0 k1
          obtain ⟨m0, e0, _, v0⟩ := DataW.trod_int tu k0
          obtain ⟨m1, e1, _, v1⟩ := DataW.trod_int tu k1
          simp at e0 e1
          subst e0 e1
          simp [Lit.wf, IntKind.min, IntKind.max, IntKind.signed, IntKind.bits] at v0 v1
          have um0 : U64 m0 := ⟨by omega, by omega⟩
          have um1 : U64 m1 := ⟨by omega, by omega⟩
          have a0 := hat 0 (by omega)
          have a1 := hat 1 (by omega)
          have a2 := hat 2 (by omega)
          have a3 := hat 3 (by omega)
          have a4 := hat 4 (by omega)
          rw [Go.Deep.add_add] at a0 a1 a2 a3 a4
          exact ⟨⟨i0, s1, i2, m0, m1⟩, ⟨ui0, hs1, ui2, um0, um1⟩, a0, a1, a2, a3, a4⟩
    obtain ⟨f, hf2⟩ := Go.Deep.choose_lt key
    refine ⟨some a, (List.range len).map f, m, by simp, fun i hi' => ?_, by simp; omega⟩
    simp at hi'
    rw [edAt_map f len i hi']
    obtain ⟨hfit, q0, q1, q2, q3, q4⟩ := hf2 i hi'
    obtain ⟨b, off, spot⟩ := a
    have hspot : spot = none := by simpa [Addr.add] using World.cell?_spot (hf2 0 (by omega)).2.1
    subst hspot
    exact ⟨hfit, b, off, rfl, by have h := World.block_lt_of_cell? _ _ q0; rw [Go.WideShapes.add_plain] at h; exact h, by rw [← Go.WideShapes.add_plain]; exact q0, by rw [Nat.add_assoc, ← Go.WideShapes.add_plain]; exact q1, by rw [Nat.add_assoc, ← Go.WideShapes.add_plain]; exact q2, by rw [Nat.add_assoc, ← Go.WideShapes.add_plain]; exact q3, by rw [Nat.add_assoc, ← Go.WideShapes.add_plain]; exact q4⟩
end Go.Proofs.YtpkpjkceiikakaaGreatDoor
