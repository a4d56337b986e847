/- Knots as they lie in memory: a slice of structs, each with three slices. -/
import Derived.Test.YtppjmngnjdeigaaDoorOwns
import Derived.Deep.Slices
import Derived.OpenShut
namespace Go.Proofs.YtppjmngnjdeigaaDoor
open Go.ChangeShapes Go.WideShapes Go.ChangeAt Go.RowKit

/-- The numbers of a slice of int16 lie in memory. -/
def I16sIn (w : World) (a : Option Addr) (zs : List Int) : Prop := ∀ i, i < zs.length → ∃ b off, a = some ⟨b, off, none⟩ ∧ b < w.heap.size ∧ w.cell? ⟨b, off + i, none⟩ = some (.int .i16 (zs.getD i 0))
theorem i16sIn_below {w w' : World} {a : Option Addr} {zs : List Int} (h : I16sIn w a zs) (hb : Below w.heap.size w w') : I16sIn w' a zs := fun i hi => by
  obtain ⟨b, off, ha, hlt, hc⟩ := h i hi
  exact ⟨b, off, ha, Nat.lt_of_lt_of_le hlt hb.size, (hb.cell hlt).trans hc⟩

/-- What a knot says. -/
structure Kn where
  f : Int
  vs : List Int
  ns : List Int
  cs : List Int
instance : Inhabited Kn := ⟨⟨0, [], [], []⟩⟩
def Kn.fits (k : Kn) : Prop := I16 k.f ∧ (∀ i, i < k.vs.length → I64 (k.vs.getD i 0)) ∧ (∀ i, i < k.ns.length → I16 (k.ns.getD i 0)) ∧ (∀ i, i < k.cs.length → I64 (k.cs.getD i 0)) ∧ k.vs.length ≤ maxLen ∧ k.ns.length ≤ maxLen ∧ k.cs.length ≤ maxLen
def knAt (ks : List Kn) (i : Nat) : Kn := ks.getD i default
theorem knAt_map (f : Nat → Kn) (n i : Nat) (h : i < n) : knAt ((List.range n).map f) i = f i := by
  unfold knAt; simp [List.getD, h]

/-- A knot lies in a block, from a cell on, and elsewhere what its slices hold. -/
def KnAt (w : World) (b o : Nat) (k : Kn) : Prop := k.fits ∧ ∃ va vc na nc ca cc, b < w.heap.size ∧
  w.cell? ⟨b, o, none⟩ = some (.int .i16 k.f) ∧ w.cell? ⟨b, o + 1, none⟩ = some (.slice va k.vs.length vc) ∧ w.cell? ⟨b, o + 2, none⟩ = some (.slice na k.ns.length nc) ∧
  w.cell? ⟨b, o + 3, none⟩ = some (.slice ca k.cs.length cc) ∧ IntsIn w va k.vs ∧ I16sIn w na k.ns ∧ IntsIn w ca k.cs
/-- The knots of a slice lie in memory. -/
def KnotsIn (w : World) (a : Option Addr) (ks : List Kn) : Prop := ∀ i, i < ks.length → ∃ b off, a = some ⟨b, off, none⟩ ∧ KnAt w b (off + i * 4) (knAt ks i)
theorem knAt_below {w w' : World} {b o : Nat} {k : Kn} (h : KnAt w b o k) (hb : Below w.heap.size w w') : KnAt w' b o k := by
  obtain ⟨hf, va, vc, na, nc, ca, cc, hlt, h0, h1, h2, h3, g1, g2, g3⟩ := h
  exact ⟨hf, va, vc, na, nc, ca, cc, Nat.lt_of_lt_of_le hlt hb.size, (hb.cell hlt).trans h0, (hb.cell hlt).trans h1, (hb.cell hlt).trans h2, (hb.cell hlt).trans h3, intsIn_below g1 hb, i16sIn_below g2 hb, intsIn_below g3 hb⟩
theorem knotsIn_below {w w' : World} {a : Option Addr} {ks : List Kn} (h : KnotsIn w a ks) (hb : Below w.heap.size w w') : KnotsIn w' a ks := fun i hi => by
  obtain ⟨b, off, ha, hk⟩ := h i hi
  exact ⟨b, off, ha, knAt_below hk hb⟩
/-- A new slice with just these knots. -/
def NewKnots (B : Nat) (ks : List Kn) (v : Value) (w : World) : Prop := ∃ g, v = .slice (some ⟨g, 0, none⟩) ks.length ks.length ∧ B ≤ g ∧ g < w.heap.size ∧ KnotsIn w (some ⟨g, 0, none⟩) ks

/-- A slice of numbers within a knot, opened. -/
theorem open_sub {H : Type} {enc : TypeId × Value → H} {P : Program} {W : World} {t e : TypeId} {k : IntKind} {fuel : Nat} {v : Value} {y : DataW H × List MemPlace} (ht : P.underlying t = some (.slice e)) (he : P.underlying e = some (.int k)) (hc : P.cellsOf e = 1)
    (h : DataW.trod enc P W 0 (fun _ => true) true fuel t [v] = some y) :
    ∃ (a : Option Addr) (zs : List Int) (cap : Nat), v = .slice a zs.length cap ∧ zs.length ≤ maxLen ∧ (∀ i, i < zs.length → (Lit.int k (zs.getD i 0)).wf = true) ∧
      ∀ i, i < zs.length → ∃ b off, a = some ⟨b, off, none⟩ ∧ b < W.heap.size ∧ W.cell? ⟨b, off + i, none⟩ = some (.int k (zs.getD i 0)) := by
  rcases open_ints ht he hc h with ⟨hcs, _⟩ | ⟨a, len, cap, zs, hcs, _, hl, hm, hz, _, hcell, hwf⟩
  · simp at hcs
    subst hcs
    exact ⟨none, [], 0, rfl, Nat.zero_le _, fun i hi => by simp at hi, fun i hi => by simp at hi⟩
  · simp at hcs hz
    subst hcs
    have hd : ∀ i, i < len → (zs.take len).getD i 0 = zs.getD i 0 := fun i hi => by simp [List.getD, hi]
    refine ⟨some a, zs.take len, cap, by rw [List.length_take, Nat.min_eq_left (by omega)], by rw [List.length_take]; omega, fun i hi => ?_, fun i hi => ?_⟩
    · rw [List.length_take] at hi
      rw [hd i (by omega)]
      exact hwf _ (by simp [List.getD, show i < zs.length by omega])
    · rw [List.length_take] at hi
      rw [hd i (by omega)]
      obtain ⟨b, off, rfl, hcc⟩ := ints_at hcell (by omega)
      have h2 := hcc i (by omega)
      exact ⟨b, off, rfl, World.block_lt_of_cell? _ _ h2, h2⟩

theorem open_knots {H : Type} {enc : TypeId × Value → H} {P : Program} {W : World} {t e u1 u2 u3 : TypeId} {f0 f1 f2 f3 : Field} {v : Value} {d : DataW H} {p : List MemPlace} {r : Reach} {b : Nat} (ht : P.underlying t = some (.slice e)) (he : P.underlying e = some (.struct #[f0, f1, f2, f3]))
    (h0 : P.underlying f0.type = some (.int .i16)) (h1 : P.underlying f1.type = some (.slice u1)) (h2 : P.underlying f2.type = some (.slice u2)) (h3 : P.underlying f3.type = some (.slice u3))
    (k1 : P.underlying u1 = some (.int .i64)) (k2 : P.underlying u2 = some (.int .i16)) (k3 : P.underlying u3 = some (.int .i64)) (s1 : P.cellsOf u1 = 1) (s2 : P.cellsOf u2 = 1) (s3 : P.cellsOf u3 = 1)
    (ce : P.cellsOf e = 4) (c0 : P.cellsOf f0.type = 1) (c1 : P.cellsOf f1.type = 1) (c2 : P.cellsOf f2.type = 1) (c3 : P.cellsOf f3.type = 1) (o0 : f0.offset = 0) (o1 : f1.offset = 1) (o2 : f2.offset = 2) (o3 : f3.offset = 3)
    (hv : Value.okWide P W r b t v) (h : DataW.Trod enc P W 0 (fun _ => true) true t v d p) : ∃ a ks cap, v = .slice a ks.length cap ∧ KnotsIn W a ks ∧ ks.length ≤ maxLen := by
  obtain ⟨a0, len, cap, rfl⟩ := okWide_slice ht hv
  obtain ⟨fuel, hf⟩ := h
  rcases Go.Deep.open_slice ht hf with ⟨hcs, _⟩ | ⟨a, len', cap', m, n, D, Pl, hcs, _, hl, hcm, hm, _, hi⟩
  · simp [Value.cells] at hcs
    obtain ⟨rfl, rfl, rfl⟩ := hcs
    exact ⟨none, [], 0, rfl, fun i hi => by simp at hi, by simp⟩
  · simp [Value.cells] at hcs
    obtain ⟨rfl, rfl, rfl⟩ := hcs
    simp at hm
    subst hm
    have key : ∀ i, i < len → ∃ k : Kn, k.fits ∧ W.cell? (a.add (i * 4)) = some (.int .i16 k.f) ∧ ∃ va vc na nc ca cc, W.cell? (a.add (i * 4 + 1)) = some (.slice va k.vs.length vc) ∧ W.cell? (a.add (i * 4 + 2)) = some (.slice na k.ns.length nc) ∧
        W.cell? (a.add (i * 4 + 3)) = some (.slice ca k.cs.length cc) ∧ IntsIn W va k.vs ∧ I16sIn W na k.ns ∧ IntsIn W ca k.cs := by
      intro i hi'
      obtain ⟨cs', hc, hd⟩ := hi i (by omega)
      rw [ce] at hc
      obtain ⟨_, hlen, hat⟩ := World.cells?_some hc
      obtain ⟨xs, n1, _, _, _, hxl, hfs⟩ := DataW.trod_struct he hd
      match cs', hlen with
      | [x0, x1, x2, x3], _ =>
        have g0 := hfs 0 f0 rfl
        have g1 := hfs 1 f1 rfl
        have g2 := hfs 2 f2 rfl
        have g3 := hfs 3 f3 rfl
        rw [o0, c0] at g0
        rw [o1, c1] at g1
        rw [o2, c2] at g2
        rw [o3, c3] at g3
        match xs, hxl with
        | [y0, y1, y2, y3], _ =>
          simp at g0 g1 g2 g3
          obtain ⟨n1, e1, _, w1⟩ := DataW.trod_int h0 g0
          simp at e1
          subst e1
          simp [Lit.wf, IntKind.min, IntKind.max, IntKind.signed, IntKind.bits] at w1
          have hi16 : I16 n1 := ⟨by omega, by omega⟩
          obtain ⟨va, vs, vc, rfl, vl, vw, vi⟩ := open_sub h1 k1 s1 g1
          obtain ⟨na, ns, nc, rfl, nl, nw, ni⟩ := open_sub h2 k2 s2 g2
          obtain ⟨ca, cs, cc, rfl, cl, cw, ci⟩ := open_sub h3 k3 s3 g3
          have a0 := hat 0 (by omega)
          have a1 := hat 1 (by omega)
          have a2 := hat 2 (by omega)
          have a3 := hat 3 (by omega)
          rw [Go.Deep.add_add] at a0 a1 a2 a3
          refine ⟨⟨n1, vs, ns, cs⟩, ⟨hi16, fun j hj => ?_, fun j hj => ?_, fun j hj => ?_, vl, nl, cl⟩, a0, va, vc, na, nc, ca, cc, a1, a2, a3, vi, ni, ci⟩
          · have := vw j hj; simp [Lit.wf, IntKind.min, IntKind.max, IntKind.signed, IntKind.bits] at this; unfold I64; simp only [List.getD] at *; omega
          · have := nw j hj; simp [Lit.wf, IntKind.min, IntKind.max, IntKind.signed, IntKind.bits] at this; unfold I16; simp only [List.getD] at *; omega
          · have := cw j hj; simp [Lit.wf, IntKind.min, IntKind.max, IntKind.signed, IntKind.bits] at this; unfold I64; simp only [List.getD] at *; omega
    obtain ⟨f, hf2⟩ := Go.Deep.choose_lt key
    refine ⟨some a, (List.range len).map f, m, by simp, fun i hi' => ?_, by simp; omega⟩
    simp at hi'
    rw [knAt_map f len i hi']
    obtain ⟨hfit, q0, va, vc, na, nc, ca, cc, q1, q2, q3, r1, r2, r3⟩ := hf2 i hi'
    obtain ⟨b, off, spot⟩ := a
    have hspot : spot = none := by simpa [Addr.add] using World.cell?_spot (hf2 0 (by omega)).2.1
    subst hspot
    exact ⟨b, off, rfl, hfit, va, vc, na, nc, ca, cc, by have h := World.block_lt_of_cell? _ _ q0; rw [Go.WideShapes.add_plain] at h; exact h, by rw [← Go.WideShapes.add_plain]; exact q0, by rw [Nat.add_assoc, ← Go.WideShapes.add_plain]; exact q1, by rw [Nat.add_assoc, ← Go.WideShapes.add_plain]; exact q2, by rw [Nat.add_assoc, ← Go.WideShapes.add_plain]; exact q3, r1, r2, r3⟩
end Go.Proofs.YtppjmngnjdeigaaDoor
