/- Several texts in one, as a claim has at most 60 files: Base Ints Flds Quiet Boxes Flds2 Name Layout Field Float Dec Owns OBy AppI Bit Holes Count IHoles HolesIn Card CtM. -/
import Derived.Test.YtnbijfeidgddmaaGreatDoorFrame
import Derived.Deep.RegionHeld3
import Derived.Lib.Hide
import Derived.OwnWalk
import Derived.Deep.Slices
import Derived.OpenShut
import Derived.Lib.QuietBelow
import Derived.BigQuiet
import Derived.Laws.NewBlocks
import Derived.Deep.DeepCutAuto
import Derived.Laws.EntriesVeiled
import Derived.Barred
import Derived.Deep.QuietTactic
import Derived.ArgAppend
import Derived.Lib.AppendStr
import Derived.Lib.ConvBytes
import Derived.Lib.EndianMore
import Derived.Lib.UnsafeStr
import Derived.Laws.IdiomStrings
import Derived.Test.YtnbijfeidgddmaaGreatDoorShelf
import Derived.Shelf.Strconv.Itoa4
import Derived.Laws.BitsAllLaws
import Derived.Laws.MakeOwn
import Derived.Test.YtnbijfeidgddmaaGreatDoorMath
import Derived.Deep.RegionWith
namespace Go.Proofs.YtnbijfeidgddmaaGreatDoor
open Go.ChangeShapes Go.WideShapes Go.ChangeAt Go.RowKit

/-- A world with new boxes, under a name of its own. -/
theorem boxes1 (w : World) (C : Array Value) (t : TypeId) (Q : World → Prop)
    (h : ∀ W : World, Below w.heap.size w W → w.heap.size + 1 ≤ W.heap.size → (∀ j, W.cell? ⟨w.heap.size, j, none⟩ = C[j]?) → Q W) : Q (w.alloc (.cells C t)) :=
  h _ ((Below.refl _ _).alloc (Nat.le_refl _) _) (by simp) (fun j => by simp)
theorem boxes2 (w : World) (C D : Array Value) (t u : TypeId) (Q : World → Prop)
    (h : ∀ W : World, Below w.heap.size w W → w.heap.size + 2 ≤ W.heap.size → (∀ j, W.cell? ⟨w.heap.size, j, none⟩ = C[j]?) → (∀ j, W.cell? ⟨w.heap.size + 1, j, none⟩ = D[j]?) → Q W) :
    Q ((w.alloc (.cells C t)).alloc (.cells D u)) :=
  h _ (below_new ((Below.refl _ _).alloc (Nat.le_refl _) _) _) (by simp) (fun j => by simp) (fun j => by simp)
theorem boxes3 (w : World) (C D E : Array Value) (t u v : TypeId) (Q : World → Prop)
    (h : ∀ W : World, Below w.heap.size w W → w.heap.size + 3 ≤ W.heap.size → (∀ j, W.cell? ⟨w.heap.size, j, none⟩ = C[j]?) → (∀ j, W.cell? ⟨w.heap.size + 1, j, none⟩ = D[j]?) → (∀ j, W.cell? ⟨w.heap.size + 2, j, none⟩ = E[j]?) → Q W) :
    Q (((w.alloc (.cells C t)).alloc (.cells D u)).alloc (.cells E v)) :=
  h _ (below_new (below_new ((Below.refl _ _).alloc (Nat.le_refl _) _) _) _) (by simp) (fun j => by rw [World.cell?_alloc_past (hn := by simp; omega), World.cell?_alloc_past (hn := by simp), World.cell?_alloc_at (hn := rfl)]) (fun j => by rw [World.cell?_alloc_past (hn := by simp), World.cell?_alloc_at (hn := by simp)]) (fun j => by rw [World.cell?_alloc_at (hn := by simp)])

/-- Behind a call that has made blocks alone: every old cell and every old mark reads as it did; what was a block is one. -/
theorem bcell {W w1 : World} (hb : Below W.heap.size W w1) : (∀ b o, b < W.heap.size → w1.cell? ⟨b, o, none⟩ = W.cell? ⟨b, o, none⟩) ∧ (∀ b o, b < W.heap.size → w1.frozen? ⟨b, o, none⟩ = W.frozen? ⟨b, o, none⟩) ∧ (∀ n, n < W.heap.size → n < w1.heap.size) :=
  ⟨fun b o h => hb.cell (p := ⟨b, o, none⟩) h, fun b o h => hb.frozen (p := ⟨b, o, none⟩) h, fun _ h => Nat.lt_of_lt_of_le h hb.size⟩

theorem below_realloc {a w : World} {o : Obj} (o' : Obj) (h : Below a.heap.size a (w.alloc o)) (hz : a.heap.size ≤ w.heap.size) : Below a.heap.size a (w.alloc o') :=
  ⟨h.os, h.tape, h.output, Nat.le_trans hz (by simp), fun k hk => ((Below.heap_alloc w o' k (by omega)).trans (Below.heap_alloc w o k (by omega)).symm).trans (h.block k hk)⟩


set_option maxHeartbeats 400000 in
theorem eqMask_any (a b c d : Int) (w : World) :
    Calls Tryz.prog 62 #[.agg #[.int .u64 a, .int .u64 b], .agg #[.int .u64 c, .int .u64 d]] w fun e w' => e = .returned (.bool (a == c && b == d)) ∧ Below w.heap.size w w' := by
  go_enter Tryz.func62, Tryz.ntmps62
  go_wp2
  refine wp_loop_rounds 3 ?_
  rw [rounds_succ]; go_wp2
  go_quiet (fail)
  go_wp2
  · have h : (a != c) = true := by assumption
    go_returns
    refine ⟨by simp at h; simp [h], (by repeat' (first | (with_reducible exact Below.refl _ _) | (with_reducible assumption) | (with_reducible refine below_drewN ?_ _) | (with_reducible refine Below.drew ?_) | (with_reducible refine below_new ?_ _) | (with_reducible refine below_next ?_ (by with_reducible assumption)) | (with_reducible refine Below.setCell ?_ ?_ _) | go_size))⟩
  · have h : (a != c) = false := by assumption
    rw [rounds_succ]; go_wp2
    go_quiet (fail)
    go_wp2
    · have h2 : (b != d) = true := by assumption
      go_returns
      refine ⟨by simp at h2; simp [h2], (by repeat' (first | (with_reducible exact Below.refl _ _) | (with_reducible assumption) | (with_reducible refine below_drewN ?_ _) | (with_reducible refine Below.drew ?_) | (with_reducible refine below_new ?_ _) | (with_reducible refine below_next ?_ (by with_reducible assumption)) | (with_reducible refine Below.setCell ?_ ?_ _) | go_size))⟩
    · have h2 : (b != d) = false := by assumption
      rw [rounds_succ]; go_wp2
      go_returns
      refine ⟨by simp at h h2; simp [h, h2], (by repeat' (first | (with_reducible exact Below.refl _ _) | (with_reducible assumption) | (with_reducible refine below_drewN ?_ _) | (with_reducible refine Below.drew ?_) | (with_reducible refine below_new ?_ _) | (with_reducible refine below_next ?_ (by with_reducible assumption)) | (with_reducible refine Below.setCell ?_ ?_ _) | go_size))⟩

theorem eqMask_same (a b : Int) (w : World) :
    Calls Tryz.prog 62 #[.agg #[.int .u64 a, .int .u64 b], .agg #[.int .u64 a, .int .u64 b]] w fun e w' => e = .returned (.bool true) ∧ Below w.heap.size w w' :=
  (eqMask_any a b a b w).mono fun e w' ⟨he, hb⟩ => ⟨by rw [he]; simp, hb⟩
end Go.Proofs.YtnbijfeidgddmaaGreatDoor

namespace Go.Proofs.YtnbijfeidgddmaaGreatDoor
open Go.ChangeShapes Go.WideShapes Go.ChangeAt Go.RowKit

/-- The numbers of a slice lie in memory. -/
def IntsIn (w : World) (a : Option Addr) (zs : List Int) : Prop := ∀ i, i < zs.length → ∃ b off, a = some ⟨b, off, none⟩ ∧ b < w.heap.size ∧ w.cell? ⟨b, off + i, none⟩ = some (.int .i64 (zs.getD i 0))
theorem intsIn_below {w w' : World} {a : Option Addr} {zs : List Int} (h : IntsIn w a zs) (hb : Below w.heap.size w w') : IntsIn w' a zs := fun i hi => by
  obtain ⟨b, off, ha, hlt, hc⟩ := h i hi
  exact ⟨b, off, ha, Nat.lt_of_lt_of_le hlt hb.size, (hb.cell hlt).trans hc⟩

/-- A new slice with just these numbers, in a block from B on. -/
def NewInts (B : Nat) (zs : List Int) (v : Value) (w : World) : Prop := ∃ g, v = .slice (some ⟨g, 0, none⟩) zs.length zs.length ∧ B ≤ g ∧ g < w.heap.size ∧ (∀ i, i < zs.length → w.cell? ⟨g, i, none⟩ = some (.int .i64 (zs.getD i 0)) ∧ w.frozen? ⟨g, i, none⟩ = false)
theorem newInts_in {B : Nat} {zs : List Int} {v : Value} {w : World} (h : NewInts B zs v w) : ∃ a, v = .slice a zs.length zs.length ∧ IntsIn w a zs := by
  obtain ⟨g, rfl, _, hg, hc⟩ := h
  exact ⟨_, rfl, fun i hi => ⟨g, 0, rfl, hg, by have := (hc i hi).1; simpa using this⟩⟩

/-- k numbers copied, zeros behind. -/
def rowTo (zs : List Int) (k : Nat) : List Value := (List.range zs.length).map fun i => if i < k then .int .i64 (zs.getD i 0) else .int .i64 0
theorem rowTo_len (zs : List Int) (k : Nat) : (rowTo zs k).length = zs.length := by
  unfold rowTo; simp
theorem rowTo_get (zs : List Int) (k i : Nat) (h : i < zs.length) : (rowTo zs k)[i]? = some (if i < k then .int .i64 (zs.getD i 0) else .int .i64 0) := by
  unfold rowTo; rw [List.getElem?_map, List.getElem?_range h]; rfl
theorem rowTo_zero (zs : List Int) : rowTo zs 0 = List.replicate zs.length (Value.int .i64 0) := by
  apply List.ext_getElem?
  intro i
  by_cases h : i < zs.length
  · rw [rowTo_get zs 0 i h, if_neg (Nat.not_lt_zero i), List.getElem?_replicate, if_pos h]
  · rw [List.getElem?_eq_none (by rw [rowTo_len]; omega), List.getElem?_replicate, if_neg h]
theorem rowTo_next (zs : List Int) (k : Nat) (h : k < zs.length) : (rowTo zs k).set k (Value.int .i64 (zs.getD k 0)) = rowTo zs (k + 1) := by
  apply List.ext_getElem?
  intro i
  rw [List.getElem?_set]
  by_cases e : k = i
  · subst e
    rw [if_pos rfl, if_pos (by rw [rowTo_len]; exact h), rowTo_get zs (k + 1) k h, if_pos (Nat.lt_succ_self k)]
  · rw [if_neg e]
    by_cases hi : i < zs.length
    · rw [rowTo_get zs k i hi, rowTo_get zs (k + 1) i hi]
      by_cases h1 : i < k
      · rw [if_pos h1, if_pos (by omega)]
      · rw [if_neg h1, if_neg (by omega)]
    · rw [List.getElem?_eq_none (by rw [rowTo_len]; omega), List.getElem?_eq_none (by rw [rowTo_len]; omega)]

theorem info_i64 : (Tryz.prog.info? 2).map (fun i => (i.zero, i.size, i.bytes)) = some (some (.int .i64 0), 1, 8) := by kernel_rfl

theorem ints_round {P : Nat → Nat → Prop} {w wr : World} {zs : List Int} {k : Nat} {e : TypeId} (h : k < zs.length) (O : wr.ownsRow w.heap.size e 1 (.slice (some ⟨w.heap.size, 0, none⟩) zs.length zs.length) zs.length (rowTo zs k))
    (hB : Below w.heap.size w wr) (_hl : w.heap.size < wr.heap.size) (z : Int) (hz : z = zs.getD k 0) (hm : P k (k + 1)) :
    (∃ k' : Nat, k' ≤ zs.length ∧ Value.int .i64 ((k : Int) + 1) = Value.int .i64 (k' : Int) ∧ (wr.setCell ⟨w.heap.size, k, none⟩ (.int .i64 z)).ownsRow w.heap.size e 1 (.slice (some ⟨w.heap.size, 0, none⟩) zs.length zs.length) zs.length (rowTo zs k') ∧ Below w.heap.size w (wr.setCell ⟨w.heap.size, k, none⟩ (.int .i64 z)) ∧ w.heap.size < (wr.setCell ⟨w.heap.size, k, none⟩ (.int .i64 z)).heap.size) ∧ P k (k + 1) := by
  subst hz
  have hs := O.stored k (.int .i64 (zs.getD k 0))
  rw [rowTo_next zs k h] at hs
  refine ⟨⟨k + 1, h, by rw [Int.natCast_succ], hs.1, Below.grown hB hs.2 hB.size (fun j hj => by cases hj; exact Nat.le_refl _), ?_⟩, hm⟩
  exact (hs.1.lt _ rfl).2

theorem newInts_of {w wr : World} {zs : List Int} {e : TypeId} (O : wr.ownsRow w.heap.size e 1 (.slice (some ⟨w.heap.size, 0, none⟩) zs.length zs.length) zs.length (rowTo zs zs.length)) (hl : w.heap.size < wr.heap.size) :
    NewInts w.heap.size zs (.slice (some ⟨w.heap.size, 0, none⟩) zs.length zs.length) wr := by
  refine ⟨_, rfl, Nat.le_refl _, hl, fun i hi => ⟨?_, O.frozenAt i⟩⟩
  rw [O.cellAt i (by omega), rowTo_get zs _ i hi, if_pos hi]

end Go.Proofs.YtnbijfeidgddmaaGreatDoor

namespace Go.Proofs.YtnbijfeidgddmaaGreatDoor
open Go.ChangeShapes Go.WideShapes Go.ChangeAt Go.RowKit

/-- A field as it lies in memory: four cells. -/
structure Fd where
  s : ByteArray
  k : Int
  t : Int
  z : Int
instance : Inhabited Fd := ⟨⟨ByteArray.empty, 0, 0, 0⟩⟩
def Fd.fits (f : Fd) : Prop := f.s.size ≤ maxLen ∧ I8 f.k ∧ I16 f.t ∧ I16 f.z
def fdAt (fs : List Fd) (i : Nat) : Fd := fs.getD i default
theorem fdAt_map (f : Nat → Fd) (n i : Nat) (h : i < n) : fdAt ((List.range n).map f) i = f i := by
  unfold fdAt; simp [List.getD, h]

/-- The cells of the field with index i lie behind an address. -/
def FdCell (w : World) (a : Option Addr) (i : Nat) (f : Fd) : Prop := f.fits ∧ ∃ b off, a = some ⟨b, off, none⟩ ∧ b < w.heap.size ∧
  w.cell? ⟨b, off + i * 4, none⟩ = some (.string f.s) ∧ w.cell? ⟨b, off + i * 4 + 1, none⟩ = some (.int .i8 f.k) ∧ w.cell? ⟨b, off + i * 4 + 2, none⟩ = some (.int .i16 f.t) ∧ w.cell? ⟨b, off + i * 4 + 3, none⟩ = some (.int .i16 f.z)
/-- The fields of a slice lie in memory. -/
def FieldsIn (w : World) (a : Option Addr) (fs : List Fd) : Prop := ∀ i, i < fs.length → FdCell w a i (fdAt fs i)
theorem fdCell_below {w w' : World} {a : Option Addr} {i : Nat} {f : Fd} (h : FdCell w a i f) (hb : Below w.heap.size w w') : FdCell w' a i f := by
  obtain ⟨hf, b, off, ha, hlt, h0, h1, h2, h3⟩ := h
  exact ⟨hf, b, off, ha, Nat.lt_of_lt_of_le hlt hb.size, (hb.cell hlt).trans h0, (hb.cell hlt).trans h1, (hb.cell hlt).trans h2, (hb.cell hlt).trans h3⟩
theorem fieldsIn_below {w w' : World} {a : Option Addr} {fs : List Fd} (h : FieldsIn w a fs) (hb : Below w.heap.size w w') : FieldsIn w' a fs := fun i hi => fdCell_below (h i hi) hb

/-- A new slice with just these fields, in a block from B on. -/
def NewFields (B : Nat) (fs : List Fd) (v : Value) (w : World) : Prop := ∃ g, v = .slice (some ⟨g, 0, none⟩) fs.length fs.length ∧ B ≤ g ∧ g < w.heap.size ∧ FieldsIn w (some ⟨g, 0, none⟩) fs ∧ ∀ j, w.frozen? ⟨g, j, none⟩ = false

theorem open_fields {H : Type} {enc : TypeId × Value → H} {P : Program} {W : World} {t e : TypeId} {f0 f1 f2 f3 : Field} {v : Value} {d : DataW H} {p : List MemPlace} {r : Reach} {b : Nat} (ht : P.underlying t = some (.slice e)) (he : P.underlying e = some (.struct #[f0, f1, f2, f3])) (hs : P.underlying f0.type = some .string) (h8 : P.underlying f1.type = some (.int .i8)) (h16 : P.underlying f2.type = some (.int .i16)) (h17 : P.underlying f3.type = some (.int .i16))
    (ce : P.cellsOf e = 4) (c0 : P.cellsOf f0.type = 1) (c1 : P.cellsOf f1.type = 1) (c2 : P.cellsOf f2.type = 1) (c3 : P.cellsOf f3.type = 1) (o0 : f0.offset = 0) (o1 : f1.offset = 1) (o2 : f2.offset = 2) (o3 : f3.offset = 3)
    (hv : Value.okWide P W r b t v) (h : DataW.Trod enc P W 0 (fun _ => true) true t v d p) : ∃ a fs cap, v = .slice a fs.length cap ∧ FieldsIn W a fs ∧ fs.length ≤ maxLen := by
  obtain ⟨a0, len, cap, rfl⟩ := okWide_slice ht hv
  obtain ⟨fuel, hf⟩ := h
  rcases Go.Deep.open_slice ht hf with ⟨hcs, _⟩ | ⟨a, len', cap', m, n, D, Pl, hcs, _, hl, hcm, hm, _, hi⟩
  · simp [Value.cells] at hcs
    obtain ⟨rfl, rfl, rfl⟩ := hcs
    exact ⟨none, [], 0, rfl, fun i hi => by simp at hi, by simp⟩
  · simp [Value.cells] at hcs
    obtain ⟨rfl, rfl, rfl⟩ := hcs
    simp at hm
    subst hm
    have key : ∀ i, i < len → ∃ c : Fd, c.fits ∧ W.cell? (a.add (i * 4)) = some (.string c.s) ∧ W.cell? (a.add (i * 4 + 1)) = some (.int .i8 c.k) ∧ W.cell? (a.add (i * 4 + 2)) = some (.int .i16 c.t) ∧ W.cell? (a.add (i * 4 + 3)) = some (.int .i16 c.z) := by
      intro i hi'
      obtain ⟨cs', hc, hd⟩ := hi i (by omega)
      rw [ce] at hc
      obtain ⟨_, hlen, hat⟩ := World.cells?_some hc
      obtain ⟨xs, n1, _, _, _, hxl, hfs⟩ := DataW.trod_struct he hd
      match cs', hlen with
      | [x0, x1, x2, x3], _ =>
        have g0 := hfs 0 f0 rfl
        have g1 := hfs 1 f1 rfl
        have g2 := hfs 2 f2 rfl
        have g3 := hfs 3 f3 rfl
        rw [o0, c0] at g0
        rw [o1, c1] at g1
        rw [o2, c2] at g2
        rw [o3, c3] at g3
        match xs, hxl with
        | [y0, y1, y2, y3], _ =>
          simp at g0 g1 g2 g3
          obtain ⟨s, hs0, _, hs1⟩ := DataW.trod_string hs g0
          obtain ⟨n1, e1, _, w1⟩ := DataW.trod_int h8 g1
          obtain ⟨n2, e2, _, w2⟩ := DataW.trod_int h16 g2
          obtain ⟨n3, e3, _, w3⟩ := DataW.trod_int h17 g3
          simp at hs0 e1 e2 e3
          subst hs0 e1 e2 e3
          simp [Lit.wf, IntKind.min, IntKind.max, IntKind.signed, IntKind.bits] at w1 w2 w3
          have u1 : I8 n1 := ⟨by omega, by omega⟩
          have u2 : I16 n2 := ⟨by omega, by omega⟩
          have u3 : I16 n3 := ⟨by omega, by omega⟩
          have a0 := hat 0 (by omega)
          have a1 := hat 1 (by omega)
          have a2 := hat 2 (by omega)
          have a3 := hat 3 (by omega)
          rw [Go.Deep.add_add] at a0 a1 a2 a3
          exact ⟨⟨s, n1, n2, n3⟩, ⟨hs1, u1, u2, u3⟩, a0, a1, a2, a3⟩
    obtain ⟨f, hf2⟩ := Go.Deep.choose_lt key
    refine ⟨some a, (List.range len).map f, m, by simp, fun i hi' => ?_, by simp; omega⟩
    simp at hi'
    rw [fdAt_map f len i hi']
    obtain ⟨hfit, q0, q1, q2, q3⟩ := hf2 i hi'
    obtain ⟨b, off, spot⟩ := a
    have hspot : spot = none := by simpa [Addr.add] using World.cell?_spot (hf2 0 (by omega)).2.1
    subst hspot
    exact ⟨hfit, b, off, rfl, by have h := World.block_lt_of_cell? _ _ q0; rw [Go.WideShapes.add_plain] at h; exact h, by rw [← Go.WideShapes.add_plain]; exact q0, by rw [Nat.add_assoc, ← Go.WideShapes.add_plain]; exact q1, by rw [Nat.add_assoc, ← Go.WideShapes.add_plain]; exact q2, by rw [Nat.add_assoc, ← Go.WideShapes.add_plain]; exact q3⟩
end Go.Proofs.YtnbijfeidgddmaaGreatDoor

namespace Go.Proofs.YtnbijfeidgddmaaGreatDoor
open Go.ChangeShapes Go.WideShapes Go.ChangeAt Go.RowKit

/-- The world w with some blocks more, and some draws. -/
def bw (w : World) (p : Regrown) : World := Go.Sort.grow (redrawn w p.d) p.os
theorem below_bw (w : World) (p : Regrown) : Below w.heap.size w (bw w p) := below_regrown w p.d p.os
theorem bw_of_below {w w' : World} (h : Below w.heap.size w w') : ∃ p : Regrown, w' = bw w p := regrown_of_below h
theorem below_of_bw {w w' : World} (h : ∃ p : Regrown, w' = bw w p) : Below w.heap.size w w' := by obtain ⟨p, rfl⟩ := h; exact below_bw w p
theorem cell_bw (w : World) (p : Regrown) (b o : Nat) (h : b < w.heap.size) : (bw w p).cell? ⟨b, o, none⟩ = w.cell? ⟨b, o, none⟩ := (below_bw w p).cell h
theorem frozen_bw (w : World) (p : Regrown) (b o : Nat) (h : b < w.heap.size) : (bw w p).frozen? ⟨b, o, none⟩ = w.frozen? ⟨b, o, none⟩ := (below_bw w p).frozen h
theorem lt_bw (w : World) (p : Regrown) (n : Nat) (h : n < w.heap.size) : n < (bw w p).heap.size := Nat.lt_of_lt_of_le h (below_bw w p).size
theorem bw_start (w : World) : ∃ p : Regrown, { w with drawn := w.drawn + 1 } = bw w p := bw_of_below ⟨rfl, rfl, rfl, Nat.le_refl _, fun _ _ => rfl⟩
/-- A callee's contract that ends in 'Below', met in a world of the class. -/
theorem calls_bw {P : Program} {f : FuncId} {args : Array Value} {w : World} {p : Regrown} {v : Value}
    (h : Calls P f args (bw w p) fun e w' => e = .returned v ∧ Below (bw w p).heap.size (bw w p) w') : Calls P f args (bw w p) fun e w'' => e = .returned v ∧ ∃ p : Regrown, w'' = bw w p :=
  h.mono fun _ _ ⟨he, hb⟩ => ⟨he, bw_of_below ((below_bw w p).trans (hb.mono (below_bw w p).size))⟩
/-- .. of a callee that leaves the world alone. -/
theorem calls_bw_same {P : Program} {f : FuncId} {args : Array Value} {w : World} {p : Regrown} {v : Value}
    (h : Calls P f args (bw w p) fun e w' => e = .returned v ∧ bw w p = w') : Calls P f args (bw w p) fun e w'' => e = .returned v ∧ ∃ p : Regrown, w'' = bw w p :=
  h.mono fun _ _ ⟨he, hb⟩ => ⟨he, p, hb.symm⟩
theorem region_bw {P : Program} {id : Nat} {Q : Exit → Act → World → Prop} {a : Act} {w : World} {l : List Oper} (hm : P.follows .mixedOrders = true) (hB : Region.lexB .any l.toArray = true)
    (h : wpQuiet P l.toArray (fun w' => ∃ p : Regrown, w' = bw w p) (fun a' => ∀ w', (∃ p : Regrown, w' = bw w p) → Q .normal a' w') l a) : (Code.region id l.toArray true).wp P Q a w :=
  wp_region_quiet (C := fun w' => ∃ p : Regrown, w' = bw w p) hm hB (bw_start w) (by simpa using h)
end Go.Proofs.YtnbijfeidgddmaaGreatDoor

namespace Go.Proofs.YtnbijfeidgddmaaGreatDoor
open Go.ChangeShapes Go.WideShapes Go.ChangeAt Go.RowKit

section
variable (w : World) (A B C : Array Value) (t u v : TypeId) (j : Nat)
theorem box2_0 : ((w.alloc (.cells A t)).alloc (.cells B u)).cell? ⟨w.heap.size, j, none⟩ = A[j]? := by
  rw [World.cell?_alloc_past (hn := by simp), World.cell?_alloc_at (hn := rfl)]
theorem box2_1 : ((w.alloc (.cells A t)).alloc (.cells B u)).cell? ⟨w.heap.size + 1, j, none⟩ = B[j]? := by
  rw [World.cell?_alloc_at (hn := by simp)]
theorem box3_0 : (((w.alloc (.cells A t)).alloc (.cells B u)).alloc (.cells C v)).cell? ⟨w.heap.size, j, none⟩ = A[j]? := by
  rw [World.cell?_alloc_past (hn := by simp; omega)]; exact box2_0 w A B t u j
theorem box3_1 : (((w.alloc (.cells A t)).alloc (.cells B u)).alloc (.cells C v)).cell? ⟨w.heap.size + 1, j, none⟩ = B[j]? := by
  rw [World.cell?_alloc_past (hn := by simp)]; exact box2_1 w A B t u j
theorem box3_2 : (((w.alloc (.cells A t)).alloc (.cells B u)).alloc (.cells C v)).cell? ⟨w.heap.size + 2, j, none⟩ = C[j]? := by
  rw [World.cell?_alloc_at (hn := by simp)]
theorem box2f_0 : ((w.alloc (.cells A t)).alloc (.cells B u)).frozen? ⟨w.heap.size, j, none⟩ = false := by
  rw [World.frozen?_alloc_past (hn := by simp), World.frozen?_alloc_at (hn := rfl)]
theorem box2f_1 : ((w.alloc (.cells A t)).alloc (.cells B u)).frozen? ⟨w.heap.size + 1, j, none⟩ = false := by
  rw [World.frozen?_alloc_at (hn := by simp)]
theorem box3f_0 : (((w.alloc (.cells A t)).alloc (.cells B u)).alloc (.cells C v)).frozen? ⟨w.heap.size, j, none⟩ = false := by
  rw [World.frozen?_alloc_past (hn := by simp; omega)]; exact box2f_0 w A B t u j
theorem box3f_1 : (((w.alloc (.cells A t)).alloc (.cells B u)).alloc (.cells C v)).frozen? ⟨w.heap.size + 1, j, none⟩ = false := by
  rw [World.frozen?_alloc_past (hn := by simp)]; exact box2f_1 w A B t u j
theorem box3f_2 : (((w.alloc (.cells A t)).alloc (.cells B u)).alloc (.cells C v)).frozen? ⟨w.heap.size + 2, j, none⟩ = false := by
  rw [World.frozen?_alloc_at (hn := by simp)]
theorem box2_lt0 : w.heap.size < ((w.alloc (.cells A t)).alloc (.cells B u)).heap.size := by simp; omega
theorem box2_lt1 : w.heap.size + 1 < ((w.alloc (.cells A t)).alloc (.cells B u)).heap.size := by simp
theorem box3_lt0 : w.heap.size < (((w.alloc (.cells A t)).alloc (.cells B u)).alloc (.cells C v)).heap.size := by simp; omega
theorem box3_lt1 : w.heap.size + 1 < (((w.alloc (.cells A t)).alloc (.cells B u)).alloc (.cells C v)).heap.size := by simp
theorem box3_lt2 : w.heap.size + 2 < (((w.alloc (.cells A t)).alloc (.cells B u)).alloc (.cells C v)).heap.size := by simp
end
end Go.Proofs.YtnbijfeidgddmaaGreatDoor

namespace Go.Proofs.YtnbijfeidgddmaaGreatDoor
open Go.ChangeShapes Go.WideShapes Go.ChangeAt Go.RowKit

def szf (l : Int) (n : Nat) : Int := if l - (n : Int) < 0 then -1 else l - (n : Int)
theorem szf_no {l : Int} {n : Nat} (h : l - (n : Int) < 0) : szf l n = -1 := by unfold szf; rw [if_pos h]
theorem szf_yes {l : Int} {n : Nat} (h : ¬ l - (n : Int) < 0) : szf l n = l - (n : Int) := by unfold szf; rw [if_neg h]


/-- What a measuring leaves: no more than there was, and no more fields than it. -/
def SzF (n : Nat) (w : World) (e : Ending) (w' : World) : Prop := ∃ z : Int, e = .returned (.int .i64 z) ∧ -1 ≤ z ∧ z ≤ 1048576 ∧ (0 ≤ z → n ≤ 1048576) ∧ Below w.heap.size w w'



set_option maxHeartbeats 800000 in
theorem eqField_same (s : ByteArray) (k t z : Int) (w : World) :
    Calls Tryz.prog 23 #[.agg #[.string s, .int .i8 k, .int .i16 t, .int .i16 z], .agg #[.string s, .int .i8 k, .int .i16 t, .int .i16 z]] w fun e w' => e = .returned (.bool true) ∧ Below w.heap.size w w' := by
  go_enter Tryz.func23, Tryz.ntmps23
  go_wp2
  all_goals go_returns
  all_goals exact ⟨rfl, (by repeat' (first | (with_reducible exact Below.refl _ _) | (with_reducible assumption) | (with_reducible refine below_drewN ?_ _) | (with_reducible refine Below.drew ?_) | (with_reducible refine below_new ?_ _) | (with_reducible refine below_next ?_ (by with_reducible assumption)) | (with_reducible refine Below.setCell ?_ ?_ _) | go_size))⟩

set_option maxHeartbeats 1600000 in
theorem eqFieldS_same (ad bd : Option Addr) (cs : List Fd) (c d : Nat) (w : World) (ha : FieldsIn w ad cs) (hb : FieldsIn w bd cs) (hn : cs.length ≤ 1048576) :
    Calls Tryz.prog 7 #[.slice ad cs.length c, .slice bd cs.length d] w fun e w' => e = .returned (.bool true) ∧ Below w.heap.size w w' := by
  have A := Lib.hid ha
  have B := Lib.hid hb
  have hbw := cell_bw
  clear ha hb
  go_enter Tryz.func7, Tryz.ntmps7
  go_wp2
  go_loopw [5] (fun i wr => ∃ j : Nat, j ≤ cs.length ∧ i = .int .i64 j ∧ Below w.heap.size w wr) (fun i _ => cs.length - (intOf i).toNat)
  case atStart => exact ⟨0, Nat.zero_le _, rfl, Below.refl _ _⟩
  case round =>
    obtain ⟨j, hj, rfl, hB⟩ := hrel
    have BB := Lib.hid hB
    by_cases hjl : j < cs.length
    · have hd : decide ((j : Int) < (cs.length : Int)) = true := by simpa using hjl
      obtain ⟨_, b1, o1, rfl, hb1, p0, p1, p2, p3⟩ := A.out j hjl
      obtain ⟨_, b2, o2, rfl, hb2, q0, q1, q2, q3⟩ := B.out j hjl
      have d0 := (hB.cell (p := ⟨b1, o1 + j * 4, none⟩) hb1).trans p0
      have d1 := (hB.cell (p := ⟨b1, o1 + j * 4 + 1, none⟩) hb1).trans p1
      have d2 := (hB.cell (p := ⟨b1, o1 + j * 4 + 2, none⟩) hb1).trans p2
      have e0 := (hB.cell (p := ⟨b2, o2 + j * 4, none⟩) hb2).trans q0
      have e1 := (hB.cell (p := ⟨b2, o2 + j * 4 + 1, none⟩) hb2).trans q1
      have e2 := (hB.cell (p := ⟨b2, o2 + j * 4 + 2, none⟩) hb2).trans q2
      have d3 := (hB.cell (p := ⟨b1, o1 + j * 4 + 3, none⟩) hb1).trans p3
      have e3 := (hB.cell (p := ⟨b2, o2 + j * 4 + 3, none⟩) hb2).trans q3
      have y1 : b1 < wr.heap.size := Nat.lt_of_lt_of_le hb1 hB.size
      have y2 : b2 < wr.heap.size := Nat.lt_of_lt_of_le hb2 hB.size
      have i1 : (0 : Int) ≤ (j : Int) := by omega
      have i2 : (j : Int) < (cs.length : Int) := by omega
      generalize fdAt cs j = x at *
      obtain ⟨s, k, t, z⟩ := x
      simp only at d0 d1 d2 d3 e0 e1 e2 e3
      have K := Lib.hid fun W => eqField_same s k t z W
      clear hB p0 p1 p2 p3 q0 q1 q2 q3
      go_wp2_with fail
      refine region_bw (by kernel_rfl) (by kernel_rfl) ?_
      repeat (go_big_quiet_step (first | (go_at_call 23; exact calls_bw (K.out _))))
      refine wpQuiet_nil ?_; intro wq hq; replace hq := below_of_bw hq; obtain ⟨qc, qf, qz⟩ := bcell hq
      go_wp2_with fail
      exact ⟨⟨j + 1, hjl, by rw [Int.natCast_succ], BB.out.trans (hq.mono BB.out.size)⟩, by (simp [intOf]) <;> omega⟩
    · have e : j = cs.length := by omega
      subst e
      have hd : decide ((cs.length : Int) < (cs.length : Int)) = false := by simp
      clear hB
      go_wp2
      go_ret
      exact ⟨rfl, BB.out⟩

def cell4 (c : Fd) (r : Nat) : Value := if r = 0 then .string c.s else if r = 1 then .int .i8 c.k else if r = 2 then .int .i16 c.t else .int .i16 c.z
/-- k fields carried over, empty ones behind. -/
def rowF (cs : List Fd) (k : Nat) : List Value := (List.range (cs.length * 4)).map fun i => cell4 (if i / 4 < k then fdAt cs (i / 4) else default) (i % 4)
theorem rowF_len (cs : List Fd) (k : Nat) : (rowF cs k).length = cs.length * 4 := by unfold rowF; simp
theorem rowF_get (cs : List Fd) (k i : Nat) (h : i < cs.length * 4) : (rowF cs k)[i]? = some (cell4 (if i / 4 < k then fdAt cs (i / 4) else default) (i % 4)) := by
  unfold rowF; rw [List.getElem?_map, List.getElem?_range h]; rfl
theorem rowF_next (cs : List Fd) (k : Nat) (h : k < cs.length) :
    ((((rowF cs k).set (k * 4) (.string (fdAt cs k).s)).set (k * 4 + 1) (.int .i8 (fdAt cs k).k)).set (k * 4 + 2) (.int .i16 (fdAt cs k).t)).set (k * 4 + 3) (.int .i16 (fdAt cs k).z) = rowF cs (k + 1) := by
  apply List.ext_getElem?
  intro i
  rw [List.getElem?_set, List.getElem?_set, List.getElem?_set, List.getElem?_set]
  simp only [List.length_set, rowF_len]
  by_cases hi : i < cs.length * 4
  · rw [rowF_get cs (k + 1) i hi]
    by_cases e3 : k * 4 + 3 = i
    · subst e3
      rw [if_pos rfl, if_pos hi, show (k * 4 + 3) / 4 = k by omega, show (k * 4 + 3) % 4 = 3 by omega, if_pos (Nat.lt_succ_self k)]; rfl
    · rw [if_neg e3]
      by_cases e2 : k * 4 + 2 = i
      · subst e2
        rw [if_pos rfl, if_pos hi, show (k * 4 + 2) / 4 = k by omega, show (k * 4 + 2) % 4 = 2 by omega, if_pos (Nat.lt_succ_self k)]; rfl
      · rw [if_neg e2]
        by_cases e1 : k * 4 + 1 = i
        · subst e1
          rw [if_pos rfl, if_pos hi, show (k * 4 + 1) / 4 = k by omega, show (k * 4 + 1) % 4 = 1 by omega, if_pos (Nat.lt_succ_self k)]; rfl
        · rw [if_neg e1]
          by_cases e0 : k * 4 = i
          · subst e0
            rw [if_pos rfl, if_pos hi, show k * 4 / 4 = k by omega, show k * 4 % 4 = 0 by omega, if_pos (Nat.lt_succ_self k)]; rfl
          · rw [if_neg e0, rowF_get cs k i hi]
            by_cases c : i / 4 < k
            · rw [if_pos c, if_pos (by omega)]
            · rw [if_neg c, if_neg (by omega)]
  · rw [List.getElem?_eq_none (by rw [rowF_len]; omega), List.getElem?_eq_none (by rw [rowF_len]; omega)]
    repeat (split; · first | omega | rfl)
    first | rfl | (split <;> first | omega | rfl)

theorem rowF_zero (cs : List Fd) : (madeCells #[.string ByteArray.empty, .int .i8 0, .int .i16 0, .int .i16 0] (cs.length * 4)).toList = rowF cs 0 := by
  apply List.ext_getElem?
  intro i
  by_cases hi : i < cs.length * 4
  · rw [rowF_get cs 0 i hi, if_neg (Nat.not_lt_zero _)]
    have h3 : i % 4 = 0 ∨ i % 4 = 1 ∨ i % 4 = 2 ∨ i % 4 = 3 := by omega
    rcases h3 with h | h | h | h <;> simp [madeCells, hi, h, cell4] <;> rfl
  · rw [List.getElem?_eq_none (by simp [madeCells]; omega), List.getElem?_eq_none (by rw [rowF_len]; omega)]

theorem info_field : (Tryz.prog.info? 38).map (fun i => (i.zero, i.size, i.bytes)) = some (some (.agg #[.string ByteArray.empty, .int .i8 0, .int .i16 0, .int .i16 0]), 4, 24) := by kernel_rfl

theorem ownsRowF_below {w w' : World} {B e size n : Nat} {v : Value} {xs : List Value} (h : w.ownsRow B e size v n xs) (hb : Below w.heap.size w w') : w'.ownsRow B e size v n xs := by
  obtain ⟨h1, h2⟩ := h
  refine ⟨h1, ?_⟩
  rcases h2 with hn | ⟨g, cap, cur, rfl, hB, hg, rest⟩
  · exact .inl hn
  · exact .inr ⟨g, cap, cur, rfl, hB, (hb.block g (Array.getElem?_eq_some_iff.1 hg).1).trans hg, rest⟩

def NewF (cs : List Fd) (w : World) (e : Ending) (w' : World) : Prop := ∃ v, e = .returned v ∧ NewFields w.heap.size cs v w' ∧ Below w.heap.size w w'

end Go.Proofs.YtnbijfeidgddmaaGreatDoor

namespace Go.Proofs.YtnbijfeidgddmaaGreatDoor
open Go.ChangeShapes Go.WideShapes Go.ChangeAt Go.RowKit

def good (c : UInt8) : Bool := decide (97 ≤ c.toNat) && decide (c.toNat ≤ 122)
def lowB (s : ByteArray) : Bool := s.data.toList.all good
def nameOk (s : ByteArray) : Bool := (decide (1 ≤ s.size) && decide (s.size ≤ 16)) && lowB s
/-- The first k letters are good. -/
def GoodTo (s : ByteArray) (k : Nat) : Prop := ∀ (j : Nat) (h : j < s.size), j < k → good s[j] = true

theorem goodTo_zero (s : ByteArray) : GoodTo s 0 := fun _ _ h => absurd h (Nat.not_lt_zero _)
theorem goodTo_next {s : ByteArray} {k : Nat} (h : GoodTo s k) (hk : k < s.size) (hg : good s[k] = true) : GoodTo s (k + 1) := by
  intro j hj hlt
  by_cases e : j = k
  · subst e; exact hg
  · exact h j hj (by omega)
theorem low_true {s : ByteArray} (h : GoodTo s s.size) : lowB s = true := by
  unfold lowB
  rw [List.all_eq_true]
  intro c hc
  obtain ⟨j, hj, rfl⟩ := List.mem_iff_getElem.1 hc
  have hj' : j < s.size := by simpa using hj
  exact h j hj' hj'
theorem low_false {s : ByteArray} {k : Nat} (hk : k < s.size) (hg : good s[k] = false) : lowB s = false := by
  unfold lowB
  rw [List.all_eq_false]
  exact ⟨s[k], List.mem_iff_getElem.2 ⟨k, by simpa using hk, rfl⟩, by simp [hg]⟩
theorem good_yes {c : UInt8} (h1 : 97 ≤ c.toNat) (h2 : c.toNat ≤ 122) : good c = true := by unfold good; simp [h1, h2]
theorem good_lo {c : UInt8} (h1 : c.toNat < 97) : good c = false := by unfold good; simp; omega
theorem good_hi {c : UInt8} (h1 : 122 < c.toNat) : good c = false := by unfold good; simp; omega
theorem name_short {s : ByteArray} (h : s.size < 1) : nameOk s = false := by unfold nameOk; simp; omega
theorem name_long {s : ByteArray} (h : 16 < s.size) : nameOk s = false := by unfold nameOk; simp; omega
theorem name_low {s : ByteArray} (h : lowB s = false) : nameOk s = false := by unfold nameOk; simp [h]
theorem name_yes {s : ByteArray} (h1 : 1 ≤ s.size) (h2 : s.size ≤ 16) (h : lowB s = true) : nameOk s = true := by unfold nameOk; simp [h, h1, h2]
theorem ret_bool {x y : Bool} (h : x = y) : Ending.returned (.bool x) = .returned (.bool y) := by rw [h]

set_option maxHeartbeats 1600000 in
theorem iLetters_any (s : ByteArray) (hs : s.size ≤ maxLen) (w : World) :
    Calls Tryz.prog 98 #[.string s, .int .i64 16] w fun e w' => e = .returned (.bool (nameOk s)) ∧ w = w' := by
  unfold maxLen at hs
  by_cases h1 : s.size < 1
  · have f := Lib.hid (name_short h1)
    have d1 : decide ((s.size : Int) < 1) = true := by simp; omega
    go_enter Tryz.func98, Tryz.ntmps98
    go_wp2
    go_returns
    exact ⟨ret_bool f.out.symm, rfl⟩
  · by_cases h2 : 16 < s.size
    · have f := Lib.hid (name_long h2)
      have d1 : decide ((s.size : Int) < 1) = false := by simp; omega
      have d2 : decide ((16 : Int) < (s.size : Int)) = true := by simp; omega
      go_enter Tryz.func98, Tryz.ntmps98
      go_wp2
      go_returns
      exact ⟨ret_bool f.out.symm, rfl⟩
    · have d1 : decide ((s.size : Int) < 1) = false := by simp; omega
      have d2 : decide ((16 : Int) < (s.size : Int)) = false := by simp; omega
      go_enter Tryz.func98, Tryz.ntmps98
      go_wp2
      go_loop [17] (fun i => ∃ k : Nat, k ≤ s.size ∧ i = .int .i64 (k : Int) ∧ GoodTo s k) (fun i => s.size - (intOf i).toNat)
      case atStart => exact ⟨0, Nat.zero_le _, rfl, goodTo_zero s⟩
      case round =>
        obtain ⟨k, hk, rfl, hg⟩ := hrel
        have hg := Lib.hid hg
        by_cases hlt : k < s.size
        · by_cases c1 : s[k].toNat < 97
          · have f := Lib.hid (name_low (low_false hlt (good_lo c1)))
            have t1 : decide ((s[k].toNat : Int) < 97) = true := by simp; omega
            go_wp2
            go_returns
            exact ⟨ret_bool f.out.symm, rfl⟩
          · by_cases c2 : 122 < s[k].toNat
            · have f := Lib.hid (name_low (low_false hlt (good_hi c2)))
              have t1 : decide ((s[k].toNat : Int) < 97) = false := by simp; omega
              have t2 : decide ((122 : Int) < (s[k].toNat : Int)) = true := by simp; omega
              go_wp2
              go_returns
              exact ⟨ret_bool f.out.symm, rfl⟩
            · have f := Lib.hid (goodTo_next hg.out hlt (good_yes (by omega) (by omega)))
              have t1 : decide ((s[k].toNat : Int) < 97) = false := by simp; omega
              have t2 : decide ((122 : Int) < (s[k].toNat : Int)) = false := by simp; omega
              go_wp2
              go_round
              case rel => exact ⟨k + 1, by omega, by go_num, f.out⟩
              case measure => simp [intOf]; omega
        · obtain rfl : k = s.size := by omega
          have f := Lib.hid (name_yes (by omega) (by omega) (low_true hg.out))
          go_wp2
          go_returns
          exact ⟨ret_bool f.out.symm, rfl⟩

theorem iName_any (s : ByteArray) (hs : s.size ≤ maxLen) (w : World) :
    Calls Tryz.prog 72 #[.string s] w fun e w' => e = .returned (.bool (nameOk s)) ∧ w = w' := by
  go_enter Tryz.func72, Tryz.ntmps72
  go_wp2_with (go_at_call 98; refine (iLetters_any s hs _).mono ?_; rintro e w1 ⟨rfl, rfl⟩)
  go_returns
  exact ⟨rfl, rfl⟩


set_option maxHeartbeats 1600000 in
theorem sName_any (s : ByteArray) (hs : s.size ≤ maxLen) (w : World) :
    Calls Tryz.prog 63 #[.string s] w fun e w' => e = .returned (.bool (nameOk s)) ∧ w = w' := by
  unfold maxLen at hs
  go_enter Tryz.func63, Tryz.ntmps63
  go_wp2
  go_loop [3] (fun i => ∃ k : Nat, k ≤ s.size ∧ i = .int .i64 (k : Int) ∧ GoodTo s k) (fun i => s.size - (intOf i).toNat)
  case atStart => exact ⟨0, Nat.zero_le _, rfl, goodTo_zero s⟩
  case round =>
    obtain ⟨k, hk, rfl, hg⟩ := hrel
    have hg := Lib.hid hg
    by_cases hlt : k < s.size
    · by_cases c1 : s[k].toNat < 97
      · have f := Lib.hid (name_low (low_false hlt (good_lo c1)))
        have t1 : decide ((s[k].toNat : Int) < 97) = true := by simp; omega
        go_wp2
        go_returns
        exact ⟨ret_bool f.out.symm, rfl⟩
      · by_cases c2 : 122 < s[k].toNat
        · have f := Lib.hid (name_low (low_false hlt (good_hi c2)))
          have t1 : decide ((s[k].toNat : Int) < 97) = false := by simp; omega
          have t2 : decide ((122 : Int) < (s[k].toNat : Int)) = true := by simp; omega
          go_wp2
          go_returns
          exact ⟨ret_bool f.out.symm, rfl⟩
        · have f := Lib.hid (goodTo_next hg.out hlt (good_yes (by omega) (by omega)))
          have t1 : decide ((s[k].toNat : Int) < 97) = false := by simp; omega
          have t2 : decide ((122 : Int) < (s[k].toNat : Int)) = false := by simp; omega
          go_wp2
          go_round
          case rel => exact ⟨k + 1, by omega, by go_num, f.out⟩
          case measure => simp [intOf]; omega
    · obtain rfl : k = s.size := by omega
      by_cases h1 : s.size < 1
      · have f := Lib.hid (name_short h1)
        have d1 : decide ((1 : Int) ≤ (s.size : Int)) = false := by simp; omega
        go_wp2
        go_returns
        exact ⟨ret_bool f.out.symm, rfl⟩
      · by_cases h2 : 16 < s.size
        · have f := Lib.hid (name_long h2)
          have d1 : decide ((1 : Int) ≤ (s.size : Int)) = true := by simp; omega
          have d2 : decide ((s.size : Int) ≤ 16) = false := by simp; omega
          go_wp2
          go_returns
          exact ⟨ret_bool f.out.symm, rfl⟩
        · have f := Lib.hid (name_yes (by omega) (by omega) (low_true hg.out))
          have d1 : decide ((1 : Int) ≤ (s.size : Int)) = true := by simp; omega
          have d2 : decide ((s.size : Int) ≤ 16) = true := by simp; omega
          go_wp2
          go_returns
          exact ⟨ret_bool f.out.symm, rfl⟩
end Go.Proofs.YtnbijfeidgddmaaGreatDoor

namespace Go.Proofs.YtnbijfeidgddmaaGreatDoor
open Go.ChangeShapes Go.WideShapes Go.ChangeAt Go.RowKit

set_option maxHeartbeats 800000 in
theorem form_direct (s : ByteArray) (k st sz : Int) (h1 : 1 ≤ sz) (h2 : sz ≤ 32767) (w : World) :
    Calls Tryz.prog 99 #[.agg #[.string s, .int .i8 k, .int .i16 st, .int .i16 sz]] w fun e w' => e = .returned (.iface 143 (.int .i64 sz)) ∧ Below w.heap.size w w' := by
  go_enter Tryz.func99, Tryz.ntmps99
  go_wp2
  go_returns
  exact ⟨rfl, (by repeat' (first | (with_reducible exact Below.refl _ _) | (with_reducible assumption) | (with_reducible refine below_drewN ?_ _) | (with_reducible refine Below.drew ?_) | (with_reducible refine below_new ?_ _) | (with_reducible refine below_next ?_ (by with_reducible assumption)) | (with_reducible refine Below.setCell ?_ ?_ _) | go_size))⟩

set_option maxHeartbeats 800000 in
theorem layout_0 (s : ByteArray) (st sz : Int) (h1 : 1 ≤ sz) (h2 : sz ≤ 32767) (w : World) :
    Calls Tryz.prog 73 #[.agg #[.string s, .int .i8 0, .int .i16 st, .int .i16 sz]] w fun e w' => e = .returned (.iface 143 (.int .i64 sz)) ∧ Below w.heap.size w w' := by
  go_enter Tryz.func73, Tryz.ntmps73
  go_wp2
  go_region_held3 (fun w' => w'.cell? ⟨w.heap.size, 0, none⟩ = some (.string s) ∧ w'.cell? ⟨w.heap.size, 1, none⟩ = some (.int .i8 0) ∧ w'.cell? ⟨w.heap.size, 2, none⟩ = some (.int .i16 st) ∧ w'.cell? ⟨w.heap.size, 3, none⟩ = some (.int .i16 sz) ∧ w'.cell? ⟨w.heap.size + 1, 0, none⟩ = some (.func (.func 99) #[] #[]) ∧ Below w.heap.size w w')
    (first | (go_split_ands; refine ⟨?_, ?_, ?_, ?_, ?_, ?_⟩ <;> first | (simp; done) | (simp [go_sem]; done) | exact (hB.cell (by first | (simp; done) | (simp; omega))).trans (by with_reducible assumption) | ((repeat' (first | (with_reducible exact Below.refl _ _) | (with_reducible assumption) | (with_reducible refine below_drewN ?_ _) | (with_reducible refine Below.drew ?_) | (with_reducible refine below_new ?_ _) | (with_reducible refine below_next ?_ (by with_reducible assumption)) | (with_reducible refine Below.setCell ?_ ?_ _) | go_size)); done) | (trace_state; fail)))
    (first | (go_at_call 99; refine (form_direct _ _ _ _ h1 h2 _).mono ?_; rintro e w1 ⟨rfl, hB⟩))
  all_goals go_wp2
  all_goals go_returns
  all_goals (go_split_ands; exact ⟨rfl, by with_reducible assumption⟩)

set_option maxHeartbeats 800000 in
theorem form_sum (s : ByteArray) (k st sz : Int) (h1 : 1 ≤ sz) (h2 : sz ≤ 32767) (w : World) :
    Calls Tryz.prog 100 #[.agg #[.string s, .int .i8 k, .int .i16 st, .int .i16 sz]] w fun e w' => e = .returned (.iface 161 (.int .i64 sz)) ∧ Below w.heap.size w w' := by
  go_enter Tryz.func100, Tryz.ntmps100
  go_wp2
  go_returns
  exact ⟨rfl, (by repeat' (first | (with_reducible exact Below.refl _ _) | (with_reducible assumption) | (with_reducible refine below_drewN ?_ _) | (with_reducible refine Below.drew ?_) | (with_reducible refine below_new ?_ _) | (with_reducible refine below_next ?_ (by with_reducible assumption)) | (with_reducible refine Below.setCell ?_ ?_ _) | go_size))⟩

set_option maxHeartbeats 800000 in
theorem layout_1 (s : ByteArray) (st sz : Int) (h1 : 1 ≤ sz) (h2 : sz ≤ 32767) (w : World) :
    Calls Tryz.prog 73 #[.agg #[.string s, .int .i8 1, .int .i16 st, .int .i16 sz]] w fun e w' => e = .returned (.iface 161 (.int .i64 sz)) ∧ Below w.heap.size w w' := by
  go_enter Tryz.func73, Tryz.ntmps73
  go_wp2
  go_region_held3 (fun w' => w'.cell? ⟨w.heap.size, 0, none⟩ = some (.string s) ∧ w'.cell? ⟨w.heap.size, 1, none⟩ = some (.int .i8 1) ∧ w'.cell? ⟨w.heap.size, 2, none⟩ = some (.int .i16 st) ∧ w'.cell? ⟨w.heap.size, 3, none⟩ = some (.int .i16 sz) ∧ w'.cell? ⟨w.heap.size + 1, 1, none⟩ = some (.func (.func 100) #[] #[]) ∧ Below w.heap.size w w')
    (first | (go_split_ands; refine ⟨?_, ?_, ?_, ?_, ?_, ?_⟩ <;> first | (simp; done) | (simp [go_sem]; done) | exact (hB.cell (by first | (simp; done) | (simp; omega))).trans (by with_reducible assumption) | ((repeat' (first | (with_reducible exact Below.refl _ _) | (with_reducible assumption) | (with_reducible refine below_drewN ?_ _) | (with_reducible refine Below.drew ?_) | (with_reducible refine below_new ?_ _) | (with_reducible refine below_next ?_ (by with_reducible assumption)) | (with_reducible refine Below.setCell ?_ ?_ _) | go_size)); done) | (trace_state; fail)))
    (first | (go_at_call 100; refine (form_sum _ _ _ _ h1 h2 _).mono ?_; rintro e w1 ⟨rfl, hB⟩))
  all_goals go_wp2
  all_goals go_returns
  all_goals (go_split_ands; exact ⟨rfl, by with_reducible assumption⟩)

set_option maxHeartbeats 800000 in
theorem form_pairs (s : ByteArray) (k st sz : Int) (h1 : 1 ≤ sz) (h2 : sz ≤ 32767) (w : World) :
    Calls Tryz.prog 101 #[.agg #[.string s, .int .i8 k, .int .i16 st, .int .i16 sz]] w fun e w' => e = .returned (.iface 162 (.int .i64 sz)) ∧ Below w.heap.size w w' := by
  go_enter Tryz.func101, Tryz.ntmps101
  go_wp2
  go_returns
  exact ⟨rfl, (by repeat' (first | (with_reducible exact Below.refl _ _) | (with_reducible assumption) | (with_reducible refine below_drewN ?_ _) | (with_reducible refine Below.drew ?_) | (with_reducible refine below_new ?_ _) | (with_reducible refine below_next ?_ (by with_reducible assumption)) | (with_reducible refine Below.setCell ?_ ?_ _) | go_size))⟩

set_option maxHeartbeats 800000 in
theorem layout_2 (s : ByteArray) (st sz : Int) (h1 : 1 ≤ sz) (h2 : sz ≤ 32767) (w : World) :
    Calls Tryz.prog 73 #[.agg #[.string s, .int .i8 2, .int .i16 st, .int .i16 sz]] w fun e w' => e = .returned (.iface 162 (.int .i64 sz)) ∧ Below w.heap.size w w' := by
  go_enter Tryz.func73, Tryz.ntmps73
  go_wp2
  go_region_held3 (fun w' => w'.cell? ⟨w.heap.size, 0, none⟩ = some (.string s) ∧ w'.cell? ⟨w.heap.size, 1, none⟩ = some (.int .i8 2) ∧ w'.cell? ⟨w.heap.size, 2, none⟩ = some (.int .i16 st) ∧ w'.cell? ⟨w.heap.size, 3, none⟩ = some (.int .i16 sz) ∧ w'.cell? ⟨w.heap.size + 1, 2, none⟩ = some (.func (.func 101) #[] #[]) ∧ Below w.heap.size w w')
    (first | (go_split_ands; refine ⟨?_, ?_, ?_, ?_, ?_, ?_⟩ <;> first | (simp; done) | (simp [go_sem]; done) | exact (hB.cell (by first | (simp; done) | (simp; omega))).trans (by with_reducible assumption) | ((repeat' (first | (with_reducible exact Below.refl _ _) | (with_reducible assumption) | (with_reducible refine below_drewN ?_ _) | (with_reducible refine Below.drew ?_) | (with_reducible refine below_new ?_ _) | (with_reducible refine below_next ?_ (by with_reducible assumption)) | (with_reducible refine Below.setCell ?_ ?_ _) | go_size)); done) | (trace_state; fail)))
    (first | (go_at_call 101; refine (form_pairs _ _ _ _ h1 h2 _).mono ?_; rintro e w1 ⟨rfl, hB⟩))
  all_goals go_wp2
  all_goals go_returns
  all_goals (go_split_ands; exact ⟨rfl, by with_reducible assumption⟩)

set_option maxHeartbeats 800000 in
theorem form_binary (s : ByteArray) (k st sz : Int) (h1 : 1 ≤ sz) (h2 : sz ≤ 32767) (w : World) :
    Calls Tryz.prog 102 #[.agg #[.string s, .int .i8 k, .int .i16 st, .int .i16 sz]] w fun e w' => e = .returned (.iface 144 (.int .i64 sz)) ∧ Below w.heap.size w w' := by
  go_enter Tryz.func102, Tryz.ntmps102
  go_wp2
  go_returns
  exact ⟨rfl, (by repeat' (first | (with_reducible exact Below.refl _ _) | (with_reducible assumption) | (with_reducible refine below_drewN ?_ _) | (with_reducible refine Below.drew ?_) | (with_reducible refine below_new ?_ _) | (with_reducible refine below_next ?_ (by with_reducible assumption)) | (with_reducible refine Below.setCell ?_ ?_ _) | go_size))⟩

set_option maxHeartbeats 800000 in
theorem layout_3 (s : ByteArray) (st sz : Int) (h1 : 1 ≤ sz) (h2 : sz ≤ 32767) (w : World) :
    Calls Tryz.prog 73 #[.agg #[.string s, .int .i8 3, .int .i16 st, .int .i16 sz]] w fun e w' => e = .returned (.iface 144 (.int .i64 sz)) ∧ Below w.heap.size w w' := by
  go_enter Tryz.func73, Tryz.ntmps73
  go_wp2
  go_region_held3 (fun w' => w'.cell? ⟨w.heap.size, 0, none⟩ = some (.string s) ∧ w'.cell? ⟨w.heap.size, 1, none⟩ = some (.int .i8 3) ∧ w'.cell? ⟨w.heap.size, 2, none⟩ = some (.int .i16 st) ∧ w'.cell? ⟨w.heap.size, 3, none⟩ = some (.int .i16 sz) ∧ w'.cell? ⟨w.heap.size + 1, 3, none⟩ = some (.func (.func 102) #[] #[]) ∧ Below w.heap.size w w')
    (first | (go_split_ands; refine ⟨?_, ?_, ?_, ?_, ?_, ?_⟩ <;> first | (simp; done) | (simp [go_sem]; done) | exact (hB.cell (by first | (simp; done) | (simp; omega))).trans (by with_reducible assumption) | ((repeat' (first | (with_reducible exact Below.refl _ _) | (with_reducible assumption) | (with_reducible refine below_drewN ?_ _) | (with_reducible refine Below.drew ?_) | (with_reducible refine below_new ?_ _) | (with_reducible refine below_next ?_ (by with_reducible assumption)) | (with_reducible refine Below.setCell ?_ ?_ _) | go_size)); done) | (trace_state; fail)))
    (first | (go_at_call 102; refine (form_binary _ _ _ _ h1 h2 _).mono ?_; rintro e w1 ⟨rfl, hB⟩))
  all_goals go_wp2
  all_goals go_returns
  all_goals (go_split_ands; exact ⟨rfl, by with_reducible assumption⟩)

end Go.Proofs.YtnbijfeidgddmaaGreatDoor

namespace Go.Proofs.YtnbijfeidgddmaaGreatDoor
open Go.ChangeShapes Go.WideShapes Go.ChangeAt Go.RowKit

def inB (n lo hi : Int) : Bool := decide (lo ≤ n) && decide (n ≤ hi)
theorem inB_yes {n lo hi : Int} (h1 : lo ≤ n) (h2 : n ≤ hi) : inB n lo hi = true := by unfold inB; simp [h1, h2]
theorem inB_no {n lo hi : Int} (h : ¬ (lo ≤ n ∧ n ≤ hi)) : inB n lo hi = false := by unfold inB; simp; omega
def mostZ (k : Int) : Int := if k = 0 then 24 else if k = 3 then 12 else 4
def widthZ (k sz : Int) : Int := if k = 1 then 4 * sz else if k = 2 then 5 * sz else if k = 3 then sz + 1 else sz
def fieldOk (s : ByteArray) (k st sz : Int) : Bool := nameOk s && decide (0 ≤ k ∧ k ≤ 3 ∧ 0 ≤ st ∧ 1 ≤ sz ∧ sz ≤ mostZ k ∧ st + widthZ k sz ≤ 96)
theorem field_name {s : ByteArray} (k st sz : Int) (h : nameOk s = false) : fieldOk s k st sz = false := by unfold fieldOk; simp [h]
theorem field_no {s : ByteArray} {k st sz : Int} (h : ¬ (0 ≤ k ∧ k ≤ 3 ∧ 0 ≤ st ∧ 1 ≤ sz ∧ sz ≤ mostZ k ∧ st + widthZ k sz ≤ 96)) : fieldOk s k st sz = false := by
  unfold fieldOk; rw [decide_eq_false h]; simp
theorem field_yes {s : ByteArray} {k st sz : Int} (hn : nameOk s = true) (h : 0 ≤ k ∧ k ≤ 3 ∧ 0 ≤ st ∧ 1 ≤ sz ∧ sz ≤ mostZ k ∧ st + widthZ k sz ≤ 96) : fieldOk s k st sz = true := by
  unfold fieldOk; rw [decide_eq_true h, hn]; rfl

set_option maxHeartbeats 400000 in
theorem sIn_any (n lo hi : Int) (w : World) : Calls Tryz.prog 64 #[.int .i64 n, .int .i64 lo, .int .i64 hi] w fun e w' => e = .returned (.bool (inB n lo hi)) ∧ w = w' := by
  by_cases h : lo ≤ n
  · by_cases h2 : n ≤ hi
    · have f := Lib.hid (inB_yes h h2)
      go_enter Tryz.func64, Tryz.ntmps64
      go_wp2
      go_returns
      exact ⟨ret_bool f.out.symm, rfl⟩
    · have f := Lib.hid (inB_no (n := n) (lo := lo) (hi := hi) (fun x => h2 x.2))
      have d := decide_eq_false h2
      go_enter Tryz.func64, Tryz.ntmps64
      go_wp2
      go_returns
      exact ⟨ret_bool f.out.symm, rfl⟩
  · have f := Lib.hid (inB_no (n := n) (lo := lo) (hi := hi) (fun x => h x.1))
    have d := decide_eq_false h
    go_enter Tryz.func64, Tryz.ntmps64
    go_wp2
    go_returns
    exact ⟨ret_bool f.out.symm, rfl⟩

set_option maxHeartbeats 400000 in
theorem most_0 (sz : Int) (w : World) : Calls Tryz.prog 74 #[.iface 143 (.int .i64 sz)] w fun e w' => e = .returned (.int .i64 24) ∧ w = w' := by
  have a1 : ∀ w : World, (Instr.typeAssert (.iface 143 (.int .i64 sz)) 114 143 true).run Tryz.prog w = .ok (.tuple #[.int .i64 sz, .bool true]) w := fun _ => by kernel_rfl
  have a2 : ∀ w : World, (Instr.typeAssert (.iface 143 (.int .i64 sz)) 114 144 true).run Tryz.prog w = .ok (.tuple #[.int .i64 0, .bool false]) w := fun _ => by kernel_rfl
  go_enter Tryz.func74, Tryz.ntmps74
  go_wp2
  go_returns
  exact ⟨rfl, rfl⟩
set_option maxHeartbeats 400000 in
theorem holes_0 (sz : Int) (_h1 : 1 ≤ sz) (_h2 : sz ≤ 32767) (w : World) : Calls Tryz.prog 163 #[.int .i64 sz] w fun e w' => e = .returned (.int .i64 (sz)) ∧ w = w' := by
  go_enter Tryz.func163, Tryz.ntmps163
  go_wp2
  go_returns
  exact ⟨rfl, rfl⟩
set_option maxHeartbeats 400000 in
theorem sWidth_0 (sz : Int) (b1 : -32768 ≤ sz) (b2 : sz ≤ 32767) (g o : Nat) (w : World) (h1 : w.cell? ⟨g, o + 1, none⟩ = some (.int .i8 0)) (h3 : w.cell? ⟨g, o + 3, none⟩ = some (.int .i16 sz)) :
    Calls Tryz.prog 65 #[.pointer (some ⟨g, o, none⟩)] w fun e w' => e = .returned (.int .i64 (sz)) ∧ w = w' := by
  go_enter Tryz.func65, Tryz.ntmps65
  go_wp2
  go_returns
  exact ⟨rfl, rfl⟩
theorem widthZ_0 (sz : Int) : widthZ 0 sz = sz := by unfold widthZ; simp
theorem mostZ_0 : mostZ 0 = 24 := by unfold mostZ; simp

set_option maxHeartbeats 400000 in
theorem most_1 (sz : Int) (w : World) : Calls Tryz.prog 74 #[.iface 161 (.int .i64 sz)] w fun e w' => e = .returned (.int .i64 4) ∧ w = w' := by
  have a1 : ∀ w : World, (Instr.typeAssert (.iface 161 (.int .i64 sz)) 114 143 true).run Tryz.prog w = .ok (.tuple #[.int .i64 0, .bool false]) w := fun _ => by kernel_rfl
  have a2 : ∀ w : World, (Instr.typeAssert (.iface 161 (.int .i64 sz)) 114 144 true).run Tryz.prog w = .ok (.tuple #[.int .i64 0, .bool false]) w := fun _ => by kernel_rfl
  go_enter Tryz.func74, Tryz.ntmps74
  go_wp2
  go_returns
  exact ⟨rfl, rfl⟩
set_option maxHeartbeats 400000 in
theorem holes_1 (sz : Int) (h1 : 1 ≤ sz) (h2 : sz ≤ 32767) (w : World) : Calls Tryz.prog 175 #[.int .i64 sz] w fun e w' => e = .returned (.int .i64 (4 * sz)) ∧ w = w' := by
  go_enter Tryz.func175, Tryz.ntmps175
  go_wp2
  go_returns
  exact ⟨rfl, rfl⟩
set_option maxHeartbeats 400000 in
theorem sWidth_1 (sz : Int) (b1 : -32768 ≤ sz) (b2 : sz ≤ 32767) (g o : Nat) (w : World) (h1 : w.cell? ⟨g, o + 1, none⟩ = some (.int .i8 1)) (h3 : w.cell? ⟨g, o + 3, none⟩ = some (.int .i16 sz)) :
    Calls Tryz.prog 65 #[.pointer (some ⟨g, o, none⟩)] w fun e w' => e = .returned (.int .i64 (4 * sz)) ∧ w = w' := by
  go_enter Tryz.func65, Tryz.ntmps65
  go_wp2
  go_returns
  exact ⟨rfl, rfl⟩
theorem widthZ_1 (sz : Int) : widthZ 1 sz = 4 * sz := by unfold widthZ; simp
theorem mostZ_1 : mostZ 1 = 4 := by unfold mostZ; simp

set_option maxHeartbeats 400000 in
theorem most_2 (sz : Int) (w : World) : Calls Tryz.prog 74 #[.iface 162 (.int .i64 sz)] w fun e w' => e = .returned (.int .i64 4) ∧ w = w' := by
  have a1 : ∀ w : World, (Instr.typeAssert (.iface 162 (.int .i64 sz)) 114 143 true).run Tryz.prog w = .ok (.tuple #[.int .i64 0, .bool false]) w := fun _ => by kernel_rfl
  have a2 : ∀ w : World, (Instr.typeAssert (.iface 162 (.int .i64 sz)) 114 144 true).run Tryz.prog w = .ok (.tuple #[.int .i64 0, .bool false]) w := fun _ => by kernel_rfl
  go_enter Tryz.func74, Tryz.ntmps74
  go_wp2
  go_returns
  exact ⟨rfl, rfl⟩
set_option maxHeartbeats 400000 in
theorem holes_2 (sz : Int) (h1 : 1 ≤ sz) (h2 : sz ≤ 32767) (w : World) : Calls Tryz.prog 179 #[.int .i64 sz] w fun e w' => e = .returned (.int .i64 (5 * sz)) ∧ w = w' := by
  go_enter Tryz.func179, Tryz.ntmps179
  go_wp2
  go_returns
  exact ⟨rfl, rfl⟩
set_option maxHeartbeats 400000 in
theorem sWidth_2 (sz : Int) (b1 : -32768 ≤ sz) (b2 : sz ≤ 32767) (g o : Nat) (w : World) (h1 : w.cell? ⟨g, o + 1, none⟩ = some (.int .i8 2)) (h3 : w.cell? ⟨g, o + 3, none⟩ = some (.int .i16 sz)) :
    Calls Tryz.prog 65 #[.pointer (some ⟨g, o, none⟩)] w fun e w' => e = .returned (.int .i64 (5 * sz)) ∧ w = w' := by
  go_enter Tryz.func65, Tryz.ntmps65
  go_wp2
  go_returns
  exact ⟨rfl, rfl⟩
theorem widthZ_2 (sz : Int) : widthZ 2 sz = 5 * sz := by unfold widthZ; simp
theorem mostZ_2 : mostZ 2 = 4 := by unfold mostZ; simp

set_option maxHeartbeats 400000 in
theorem most_3 (sz : Int) (w : World) : Calls Tryz.prog 74 #[.iface 144 (.int .i64 sz)] w fun e w' => e = .returned (.int .i64 12) ∧ w = w' := by
  have a1 : ∀ w : World, (Instr.typeAssert (.iface 144 (.int .i64 sz)) 114 143 true).run Tryz.prog w = .ok (.tuple #[.int .i64 0, .bool false]) w := fun _ => by kernel_rfl
  have a2 : ∀ w : World, (Instr.typeAssert (.iface 144 (.int .i64 sz)) 114 144 true).run Tryz.prog w = .ok (.tuple #[.int .i64 sz, .bool true]) w := fun _ => by kernel_rfl
  go_enter Tryz.func74, Tryz.ntmps74
  go_wp2
  go_returns
  exact ⟨rfl, rfl⟩
set_option maxHeartbeats 400000 in
theorem holes_3 (sz : Int) (h1 : 1 ≤ sz) (h2 : sz ≤ 32767) (w : World) : Calls Tryz.prog 167 #[.int .i64 sz] w fun e w' => e = .returned (.int .i64 (sz + 1)) ∧ w = w' := by
  go_enter Tryz.func167, Tryz.ntmps167
  go_wp2
  go_returns
  exact ⟨rfl, rfl⟩
set_option maxHeartbeats 400000 in
theorem sWidth_3 (sz : Int) (b1 : -32768 ≤ sz) (b2 : sz ≤ 32767) (g o : Nat) (w : World) (h1 : w.cell? ⟨g, o + 1, none⟩ = some (.int .i8 3)) (h3 : w.cell? ⟨g, o + 3, none⟩ = some (.int .i16 sz)) :
    Calls Tryz.prog 65 #[.pointer (some ⟨g, o, none⟩)] w fun e w' => e = .returned (.int .i64 (sz + 1)) ∧ w = w' := by
  go_enter Tryz.func65, Tryz.ntmps65
  go_wp2
  go_returns
  exact ⟨rfl, rfl⟩
theorem widthZ_3 (sz : Int) : widthZ 3 sz = sz + 1 := by unfold widthZ; simp
theorem mostZ_3 : mostZ 3 = 12 := by unfold mostZ; simp

end Go.Proofs.YtnbijfeidgddmaaGreatDoor

namespace Go.Proofs.YtnbijfeidgddmaaGreatDoor
open Go.ChangeShapes Go.WideShapes Go.ChangeAt Go.RowKit

/-! ### Two contracts on one call speak of one value -/
theorem exists_above (l : List Nat) : ∃ N, ∀ x ∈ l, x < N := by
  induction l with
  | nil => exact ⟨0, fun x hx => absurd hx (by simp)⟩
  | cons y l ih =>
    obtain ⟨N, h⟩ := ih
    refine ⟨max N (y + 1), fun x hx => ?_⟩
    rcases List.mem_cons.1 hx with rfl | hx
    · omega
    · have := h x hx; omega

def endFrame (F : FuncId) : Frame := { fn := F, tmps := #[], todo := [.extern "" #[]], defers := [], mode := .returning, kind := .normal }

theorem step_endFrame {P : Program} {F : FuncId} {w : World} {v : Value} (h1 : P.funcs[F]? = none) (h2 : P.inits.idxOf? F = none) :
    step P (lone ((endFrame F).finish v) [] w) = .ended (.done v) w :=
  step_lone_ended (by simp [stepG, unwind, doReturn, endFrame, Frame.finish, h1, h2])

theorem calls_end {P : Program} {f : FuncId} {args : Array Value} {w : World} {v : Value} {R : World → Prop} (F : FuncId) (h1 : P.funcs[F]? = none) (h2 : P.inits.idxOf? F = none)
    (h : Calls P f args w fun e w' => e = .returned v ∧ R w') : ∃ n w', runN P n (lone (Frame.enter P f args .normal) [endFrame F] w) = .ended (.done v) w' := by
  obtain ⟨e, w', fr, ⟨rfl, hR⟩, hcomes, hfn, hleave⟩ := h [endFrame F]
  have hs : Steps P (lone (Frame.enter P f args .normal) [endFrame F] w) (lone fr [endFrame F] w') := hcomes
  obtain ⟨n, hn⟩ := hs
  refine ⟨n + 2, w', ?_⟩
  rw [runN_add, hn]
  simp [runN, step_leave_returned hleave, step_endFrame h1 h2]

theorem calls_same {P : Program} {f : FuncId} {args : Array Value} {w : World} {v v' : Value} {R R' : World → Prop}
    (h : Calls P f args w fun e w' => e = .returned v ∧ R w') (h' : Calls P f args w fun e w' => e = .returned v' ∧ R' w') : v = v' := by
  obtain ⟨N, hN⟩ := exists_above (P.funcs.size :: P.inits.toList)
  have h1 : P.funcs[N]? = none := Array.getElem?_eq_none (Nat.le_of_lt (hN _ (List.mem_cons_self ..)))
  have h2 : P.inits.idxOf? N = none := by
    rw [Array.idxOf?_eq_none_iff]
    intro hm
    exact Nat.lt_irrefl _ (hN N (List.mem_cons_of_mem _ (by simpa using hm)))
  obtain ⟨n, w1, e1⟩ := calls_end N h1 h2 h
  obtain ⟨m, w2, e2⟩ := calls_end N h1 h2 h'
  have a := runN_same_end e1 e2
  injection a

theorem quietUpon_same {P : Program} {C C' : World → Prop} {w : World} {v v' : Value} {r : Result Next} (h : Oper.quietUpon P C w v r) (h' : Oper.quietUpon P C' w v' r) : v = v' := by
  cases r with
  | ok n w' =>
    cases n <;> simp only [Oper.quietUpon] at h h'
    case value u => exact h.2.symm.trans h'.2
    case skip => exact h.2.trans h'.2.symm
    case enter f args => exact calls_same h.2 h'.2
  | halt x w' => simp only [Oper.quietUpon] at h

theorem quietUpon_class {P : Program} {C C' : World → Prop} {w : World} {v : Value} {r : Result Next} (hC : ∀ w', C w' → C' w') (h : Oper.quietUpon P C w v r) : Oper.quietUpon P C' w v r := by
  cases r with
  | ok n w' =>
    cases n <;> simp only [Oper.quietUpon] at h ⊢
    case value u => exact h
    case skip => exact h
    case enter f args => exact ⟨h.1, h.2.mono fun e w'' ⟨he, hw⟩ => ⟨he, hC _ hw⟩⟩
  | halt x w' => simp only [Oper.quietUpon] at h

/-! ### Worlds above a world -/
def Ab (w w' : World) : Prop := Below w.heap.size w w'
theorem Ab.refl (w : World) : Ab w w := Below.refl _ _
theorem Ab.trans {a b c : World} (h : Ab a b) (k : Ab b c) : Ab a c := Below.trans h (Below.mono k h.size)
def Cl (w : World) : World → Prop := fun w' => ∃ p : Regrown, w' = bw w p
theorem Cl.ab {w w' : World} (h : Cl w w') : Ab w w' := below_of_bw h
theorem Ab.cl {w w' : World} (h : Ab w w') : Cl w w' := bw_of_below h

/-- A contract at every world, met in a world of the class. -/
theorem calls_all {P : Program} {f : FuncId} {args : Array Value} {w : World} {p : Regrown} {v : Value}
    (c : ∀ W : World, Calls P f args W fun e w' => e = .returned v ∧ Below W.heap.size W w') : Calls P f args (bw w p) fun e w'' => e = .returned v ∧ ∃ p : Regrown, w'' = bw w p := calls_bw (c _)

/-! ### The float: every order -/
section
variable (P : Program) (ops : Array Oper) (md : Region.Mode) (W : World) {G : Type} (I : G → World → Prop) (early : G → Prop) (loud late pur : Nat → Bool)

/-- Quiet with one value in every world above W; a callee leaves a world above the one that it got. -/
def SQ (o : Oper) (a : Act) (v : Value) : Prop := ∀ w, Ab W w → Oper.quietUpon P (Ab w) w v ((execOp a.eval o).run P w)

/-- A value, or nothing, or a call that leads to such a value and world. -/
def Yld (P : Program) (R : Value → World → Prop) (w : World) : Result Next → Prop
  | .ok (.value v) w' => R v w'
  | .ok .skip w' => R undef w'
  | .ok (.enter f args) w' => w' = w ∧ Calls P f args w fun e w'' => ∃ v, e = .returned v ∧ R v w''
  | _ => False
theorem Yld.mono {P : Program} {R R' : Value → World → Prop} {w : World} {r : Result Next} (hR : ∀ v w', R v w' → R' v w') (h : Yld P R w r) : Yld P R' w r := by
  cases r with
  | ok n w' =>
    cases n <;> simp only [Yld] at h ⊢
    case value u => exact hR _ _ h
    case skip => exact hR _ _ h
    case enter f args => exact ⟨h.1, h.2.mono fun e w'' ⟨v, he, hv⟩ => ⟨v, he, hR _ _ hv⟩⟩
  | halt x w' => simp only [Yld] at h

/-- A value that does not hang on the world. -/
def PQ (P : Program) (o : Oper) (a : Act) (v : Value) : Prop := ∀ w, (execOp a.eval o).run P w = .ok (.value v) w

structure Loud (o : Oper) (a : Act) (g : G) (O : Value → G → Prop) : Prop where
  some : ∃ v g', O v g'
  run : ∀ w, I g w → Yld P (fun v w' => ∃ g', O v g' ∧ I g' w') w ((execOp a.eval o).run P w)

/-- What may come of one operation: values, and what is then kept. -/
def Fam (i : Nat) (o : Oper) (a : Act) (g : G) (O : Value → G → Prop) : Prop :=
  if Region.wanted o (yielded ops a.tmps) then (if pur i then ∃ v, PQ P o a v ∧ O = fun v' g' => v' = v ∧ g' = g else early g ∧ (if loud i then Loud P I o a g O ∧ (late i = false → ∀ v g', O v g' → early g') else ∃ v, SQ P W o a v ∧ O = fun v' g' => v' = v ∧ g' = g))
  else O = fun v' g' => v' = undef ∧ g' = g

def fOp (i : Nat) (K : Act → G → Prop) (a : Act) (g : G) : Prop :=
  match ops[i]? with
  | none => K a g
  | some o => ∃ O, Fam P ops W I early loud late pur i o a g O ∧ ∀ v g', O v g' → K (a.put o.dst v) g'

def wpAnyF (Q : Act → G → Prop) : Nat → Array Bool → Act → G → Prop
  | 0, listed, a, g => Region.ready md ops listed = [] ∧ Q a g
  | fuel + 1, listed, a, g =>
    (Region.ready md ops listed = [] → Q a g) ∧
    ∀ i ∈ Region.ready md ops listed, fOp P ops W I early loud late pur i (wpAnyF Q fuel (listed.setIfInBounds i true)) a g

/-- The order of the text, from number k on. -/
def lexW (Q : Act → G → Prop) : List Oper → Nat → Act → G → Prop
  | [], _, a, g => Q a g
  | _ :: l, k, a, g => fOp P ops W I early loud late pur k (lexW Q l (k + 1)) a g
end

section
variable {P : Program} {ops : Array Oper} {md : Region.Mode} {W : World} {G : Type} {I : G → World → Prop} {early : G → Prop} {loud late pur : Nat → Bool}

theorem fOp_mono {i : Nat} {a : Act} {g : G} {K K' : Act → G → Prop} (h : ∀ a g, K a g → K' a g) (hh : fOp P ops W I early loud late pur i K a g) : fOp P ops W I early loud late pur i K' a g := by
  unfold fOp at *
  split
  · rename_i ho; simp only [ho] at hh; exact h _ _ hh
  · rename_i o ho
    simp only [ho] at hh
    obtain ⟨O, h1, h2⟩ := hh
    exact ⟨O, h1, fun v g' hv => h _ _ (h2 v g' hv)⟩

theorem SQ.one {o : Oper} {a : Act} {v v' : Value} (h : SQ P W o a v) (h' : SQ P W o a v') : v = v' := quietUpon_same (h W (Ab.refl W)) (h' W (Ab.refl W))
theorem SQ.of_same {o : Oper} {a a' : Act} {v : Value} (h : SQ P W o a v) (he : execOp a'.eval o = execOp a.eval o) : SQ P W o a' v := by unfold SQ at *; rw [he]; exact h
theorem PQ.one {o : Oper} {a : Act} {v v' : Value} (h : PQ P o a v) (h' : PQ P o a v') : v = v' := by
  have := (h default).symm.trans (h' default)
  injection this with e _
  injection e
theorem PQ.of_same {o : Oper} {a a' : Act} {v : Value} (h : PQ P o a v) (he : execOp a'.eval o = execOp a.eval o) : PQ P o a' v := by unfold PQ at *; rw [he]; exact h
theorem Loud.of_same {o : Oper} {a a' : Act} {g : G} {O : Value → G → Prop} (h : Loud P I o a g O) (he : execOp a'.eval o = execOp a.eval o) : Loud P I o a' g O := ⟨h.some, by rw [he]; exact h.run⟩
theorem Fam.nonempty {i : Nat} {o : Oper} {a : Act} {g : G} {O : Value → G → Prop} (h : Fam P ops W I early loud late pur i o a g O) : ∃ v g', O v g' := by
  unfold Fam at h
  split at h
  · split at h
    · obtain ⟨v, _, rfl⟩ := h; exact ⟨v, g, rfl, rfl⟩
    · obtain ⟨_, h⟩ := h
      split at h
      · exact h.1.some
      · obtain ⟨v, _, rfl⟩ := h; exact ⟨v, g, rfl, rfl⟩
  · subst h; exact ⟨_, g, rfl, rfl⟩
theorem Fam.of_same {i : Nat} {o : Oper} {a a' : Act} {g : G} {O : Value → G → Prop} (h : Fam P ops W I early loud late pur i o a g O) (he : execOp a'.eval o = execOp a.eval o)
    (hw : Region.wanted o (yielded ops a'.tmps) = Region.wanted o (yielded ops a.tmps)) : Fam P ops W I early loud late pur i o a' g O := by
  unfold Fam at *
  rw [hw]
  split
  · rename_i hh
    rw [if_pos hh] at h
    by_cases hp : pur i = true
    · rw [if_pos hp] at h ⊢
      obtain ⟨v, h1, h2⟩ := h
      exact ⟨v, h1.of_same he, h2⟩
    · rw [if_neg hp] at h ⊢
      refine ⟨h.1, ?_⟩
      by_cases hl : loud i = true
      · rw [if_pos hl] at h ⊢; exact ⟨h.2.1.of_same he, h.2.2⟩
      · rw [if_neg hl] at h ⊢; obtain ⟨_, v, h1, h2⟩ := h; exact ⟨v, h1.of_same he, h2⟩
  · rename_i hh; rw [if_neg hh] at h; exact h

/-- Sound: whatever order is picked. -/
theorem wpAny_of_float {Q : Act → G → Prop} {Q' : Exit → Act → World → Prop} (hI1 : ∀ g w, early g → I g w → Ab W w) (hI2 : ∀ g w w', early g → I g w → Ab w w' → I g w') (hQ : ∀ a g w, I g w → Q a g → Q' .normal a w) :
    ∀ (fuel : Nat) (listed : Array Bool) (a : Act) (g : G) (w : World), I g w → wpAnyF P ops md W I early loud late pur Q fuel listed a g → wpAny P md ops Q' fuel listed a w
  | 0, _, _, _, _, hw, h => ⟨h.1, hQ _ _ _ hw h.2⟩
  | fuel + 1, listed, a, g, w, hw, h => by
    refine ⟨fun h0 => hQ _ _ _ hw (h.1 h0), fun i hi => ?_⟩
    have hh := h.2 i hi
    have go := fun a g w => wpAny_of_float hI1 hI2 hQ fuel (listed.setIfInBounds i true) a g w
    unfold fOp at hh
    unfold wpOp
    split
    · rename_i ho; simp only [ho] at hh; exact go _ _ _ hw hh
    · rename_i o ho
      simp only [ho] at hh
      obtain ⟨O, h1, h2⟩ := hh
      unfold Fam at h1
      split
      · rename_i hwn
        rw [if_pos hwn] at h1
        refine .inl ?_
        unfold Oper.wp
        by_cases hp : pur i = true
        · rw [if_pos hp] at h1
          obtain ⟨v, hv, rfl⟩ := h1
          rw [hv w]
          exact go _ _ _ hw (h2 _ _ ⟨rfl, rfl⟩)
        rw [if_neg hp] at h1
        obtain ⟨hearly, h1⟩ := h1
        split at h1
        · have h3 := h1.1.run w hw
          generalize (execOp a.eval o).run P w = r at h3
          cases r with
          | ok n w' =>
            cases n <;> simp only [Yld] at h3 <;> simp only [Oper.upon]
            case value u => obtain ⟨g', hO, hIw⟩ := h3; exact go _ _ _ hIw (h2 _ _ hO)
            case skip => obtain ⟨g', hO, hIw⟩ := h3; exact go _ _ _ hIw (h2 _ _ hO)
            case enter f args =>
              obtain ⟨e1, hc⟩ := h3
              rw [e1]
              exact hc.mono fun e w'' ⟨v, he, g', hO, hIw⟩ => by subst he; exact go _ _ _ hIw (h2 _ _ hO)
          | halt x w' => simp only [Yld] at h3
        · obtain ⟨v, hv, rfl⟩ := h1
          have h3 := hv w (hI1 _ _ hearly hw)
          generalize (execOp a.eval o).run P w = r at h3
          cases r with
          | ok n w' =>
            cases n <;> simp only [Oper.quietUpon] at h3 <;> simp only [Oper.upon]
            case value u => obtain ⟨e1, e2⟩ := h3; rw [e1, e2]; exact go _ _ _ hw (h2 _ _ ⟨rfl, rfl⟩)
            case skip => obtain ⟨e1, e2⟩ := h3; rw [e1, ← e2]; exact go _ _ _ hw (h2 _ _ ⟨rfl, rfl⟩)
            case enter f args =>
              obtain ⟨e1, hc⟩ := h3
              rw [e1]
              exact hc.mono fun e w'' ⟨he, hw''⟩ => by subst he; exact go _ _ _ (hI2 _ _ _ hearly hw hw'') (h2 _ _ ⟨rfl, rfl⟩)
          | halt x w' => simp only [Oper.quietUpon] at h3
      · rename_i hwn
        rw [if_neg hwn] at h1
        subst h1
        exact go _ _ _ hw (h2 _ _ ⟨rfl, rfl⟩)

/-- Operation 'oj' apart from 'oi', not both loud: 'oi' may be taken first. -/
theorem fOp_put {i j : Nat} {oi oj : Oper} {O : Value → G → Prop} (hj : ops[j]? = some oj) (hap : oi.apart ops oj = true)
    (hsi : ∀ cs b, oi.op ≠ .select cs b) (hsj : ∀ cs b, oj.op ≠ .select cs b) (hl : ¬ (loud i = true ∧ loud j = true)) (hlate : late j = false ∨ pur i = true) {K : Act → G → Prop} {a : Act} {g : G}
    (hy : Fam P ops W I early loud late pur i oi a g O) (h : ∀ v g', O v g' → fOp P ops W I early loud late pur j K (a.put oi.dst v) g') :
    fOp P ops W I early loud late pur j (fun a' g'' => ∃ O', Fam P ops W I early loud late pur i oi a' g'' O' ∧ ∀ v g', O' v g' → K (a'.put oi.dst v) g') a g := by
  obtain ⟨h1, h2, h3⟩ := Oper.apart_spec hap
  have keep : ∀ u, Fam P ops W I early loud late pur i oi (a.put oj.dst u) g O := fun u => hy.of_same (execOp_put oi hsi a oj.dst u h3) (wanted_put oi a oj.dst u h3)
  have hw0 : ∀ v, Region.wanted oj (yielded ops (a.put oi.dst v).tmps) = Region.wanted oj (yielded ops a.tmps) := fun v => wanted_put oj a oi.dst v h1
  have he0 : ∀ v, execOp (a.put oi.dst v).eval oj = execOp a.eval oj := fun v => execOp_put oj hsj a oi.dst v h1
  unfold fOp at *
  simp only [hj] at *
  -- one value, whatever has come of 'oi'
  have one : ∀ (u : Value), (∀ v g', O v g' → K ((a.put oi.dst v).put oj.dst u) g') →
      (∃ O', Fam P ops W I early loud late pur i oi (a.put oj.dst u) g O' ∧ ∀ v g', O' v g' → K ((a.put oj.dst u).put oi.dst v) g') := fun u hK =>
    ⟨O, keep u, fun v g' hv => by rw [← Act.put_comm a v u h2]; exact hK v g' hv⟩
  obtain ⟨v0, g0, hv0⟩ := hy.nonempty
  by_cases hw : Region.wanted oj (yielded ops a.tmps) = true
  · by_cases hpj : pur j = true
    · have hval : ∀ v g', O v g' → ∃ u, PQ P oj a u ∧ K ((a.put oi.dst v).put oj.dst u) g' := fun v g' hv => by
        obtain ⟨Oj, hOj, hK⟩ := h v g' hv
        unfold Fam at hOj
        rw [hw0, if_pos hw, if_pos hpj] at hOj
        obtain ⟨u, hu, rfl⟩ := hOj
        exact ⟨u, hu.of_same (he0 v).symm, hK _ _ ⟨rfl, rfl⟩⟩
      obtain ⟨u, hu, _⟩ := hval v0 g0 hv0
      refine ⟨fun v' g' => v' = u ∧ g' = g, ?_, ?_⟩
      · unfold Fam; rw [if_pos hw, if_pos hpj]; exact ⟨u, hu, rfl⟩
      · rintro u' g' ⟨rfl, rfl⟩
        exact one _ fun v g'' hv => by
          obtain ⟨u2, hu2, hK⟩ := hval v g'' hv
          rw [hu2.one hu] at hK
          exact hK
    by_cases hlj : loud j = true
    · -- the other one is loud: this one is not
      have hli : ¬ loud i = true := fun e => hl ⟨e, hlj⟩
      have hO : ∃ v, O = (fun v' g' => v' = v ∧ g' = g) ∧ ∀ (u : Value) (g' : G), (pur i = true ∨ early g') → Fam P ops W I early loud late pur i oi (a.put oj.dst u) g' (fun v' g'' => v' = v ∧ g'' = g') := by
        unfold Fam at hy
        by_cases hh : Region.wanted oi (yielded ops a.tmps) = true
        · rw [if_pos hh] at hy
          by_cases hp : pur i = true
          · rw [if_pos hp] at hy
            obtain ⟨v, hv, rfl⟩ := hy
            refine ⟨v, rfl, fun u g' _ => ?_⟩
            unfold Fam
            rw [wanted_put oi a oj.dst u h3, if_pos hh, if_pos hp]
            exact ⟨v, hv.of_same (execOp_put oi hsi a oj.dst u h3), rfl⟩
          · rw [if_neg hp, if_neg hli] at hy
            obtain ⟨_, v, hv, rfl⟩ := hy
            refine ⟨v, rfl, fun u g' hg' => ?_⟩
            unfold Fam
            rw [wanted_put oi a oj.dst u h3, if_pos hh, if_neg hp, if_neg hli]
            exact ⟨hg'.resolve_left hp, v, hv.of_same (execOp_put oi hsi a oj.dst u h3), rfl⟩
        · rw [if_neg hh] at hy
          refine ⟨undef, hy, fun u g' _ => ?_⟩
          unfold Fam
          rw [wanted_put oi a oj.dst u h3, if_neg hh]
      obtain ⟨v, rfl, hF⟩ := hO
      obtain ⟨Oj, hOj, hK⟩ := h v g ⟨rfl, rfl⟩
      unfold Fam at hOj
      rw [hw0, if_pos hw, if_neg hpj, if_pos hlj] at hOj
      refine ⟨Oj, ?_, fun u g' hu => ⟨_, hF u g' ?_, ?_⟩⟩
      · unfold Fam
        rw [if_pos hw, if_neg hpj, if_pos hlj]
        exact ⟨hOj.1, hOj.2.1.of_same (he0 v).symm, hOj.2.2⟩
      · rcases hlate with hlate | hlate
        · exact .inr (hOj.2.2 hlate u g' hu)
        · exact .inl hlate
      · rintro v' g'' ⟨rfl, rfl⟩
        rw [← Act.put_comm a v' u h2]
        exact hK u g'' hu
    · have hearly : early g := by
        have other : O v0 g → early g := fun hv => by
          obtain ⟨Oj, hOj, _⟩ := h v0 g hv
          unfold Fam at hOj
          rw [hw0, if_pos hw, if_neg hpj] at hOj
          exact hOj.1
        unfold Fam at hy
        by_cases hh : Region.wanted oi (yielded ops a.tmps) = true
        · rw [if_pos hh] at hy
          by_cases hp : pur i = true
          · rw [if_pos hp] at hy
            obtain ⟨v, _, rfl⟩ := hy
            exact other ⟨hv0.1, rfl⟩
          · rw [if_neg hp] at hy
            exact hy.1
        · rw [if_neg hh] at hy
          subst hy
          exact other ⟨hv0.1, rfl⟩
      have hval : ∀ v g', O v g' → ∃ u, SQ P W oj a u ∧ K ((a.put oi.dst v).put oj.dst u) g' := fun v g' hv => by
        obtain ⟨Oj, hOj, hK⟩ := h v g' hv
        unfold Fam at hOj
        rw [hw0, if_pos hw, if_neg hpj, if_neg hlj] at hOj
        obtain ⟨_, u, hu, rfl⟩ := hOj
        exact ⟨u, hu.of_same (he0 v).symm, hK _ _ ⟨rfl, rfl⟩⟩
      obtain ⟨u, hu, _⟩ := hval v0 g0 hv0
      refine ⟨fun v' g' => v' = u ∧ g' = g, ?_, ?_⟩
      · unfold Fam
        rw [if_pos hw, if_neg hpj, if_neg hlj]
        exact ⟨hearly, u, hu, rfl⟩
      · rintro u' g' ⟨rfl, rfl⟩
        exact one _ fun v g'' hv => by
          obtain ⟨u2, hu2, hK⟩ := hval v g'' hv
          rw [hu2.one hu] at hK
          exact hK
  · refine ⟨fun v' g' => v' = undef ∧ g' = g, ?_, ?_⟩
    · unfold Fam
      rw [if_neg hw]
    · rintro u' g' ⟨rfl, rfl⟩
      exact one _ fun v g'' hv => by
        obtain ⟨Oj, hOj, hK⟩ := h v g'' hv
        unfold Fam at hOj
        rw [hw0, if_neg hw] at hOj
        subst hOj
        exact hK _ _ ⟨rfl, rfl⟩

theorem fOp_of {i : Nat} {o : Oper} {a : Act} {g : G} {O : Value → G → Prop} {K : Act → G → Prop} (hi : ops[i]? = some o) (h : Fam P ops W I early loud late pur i o a g O) (hK : ∀ v g', O v g' → K (a.put o.dst v) g') : fOp P ops W I early loud late pur i K a g := by
  unfold fOp; simp only [hi]; exact ⟨O, h, hK⟩

/-- What is listed is closed: nothing has come up ahead of what it waits for. -/
def Region.Closed (md : Region.Mode) (ops : Array Oper) (listed : Array Bool) : Prop :=
  listed.size = ops.size ∧ ∀ j oj, ops[j]? = some oj → listed.getD j false = true → ∀ e ∈ oj.after, Region.binds md e = true → listed.getD e.on false = true
theorem Region.Closed.set {listed : Array Bool} {i : Nat} (h : Region.Closed md ops listed) (hi : i ∈ Region.ready md ops listed) : Region.Closed md ops (listed.setIfInBounds i true) := by
  obtain ⟨_, oi, hoi, hall⟩ := mem_ready.1 hi
  refine ⟨by simp [h.1], ?_⟩
  intro j oj hj hl e he hb
  by_cases hij : i = j
  · subst hij
    obtain rfl : oj = oi := Option.some.inj (hj.symm.trans hoi)
    exact getD_set_true (hall e he hb)
  · rw [getD_set_ne false hij] at hl
    exact getD_set_true (h.2 j oj hj hl e he hb)
theorem off_off {listed : Array Bool} {i : Nat} (h : listed.getD i true = false) : listed.getD i false = false := by
  rcases Nat.lt_or_ge i listed.size with h' | h'
  · simp [h'] at h ⊢; exact h
  · simp [Array.getElem?_eq_none h'] at h
/-- A late operation comes up last. -/
def Region.LateLast (md : Region.Mode) (ops : Array Oper) (late pur : Nat → Bool) : Prop :=
  ∀ listed, Region.Closed md ops listed → ∀ i, listed.getD i true = false → ∀ j ∈ Region.ready md ops listed, j ≠ i → late j = false ∨ pur i = true

theorem wpAnyF_first {Q : Act → G → Prop} {i : Nat} {oi : Oper} (hi : ops[i]? = some oi) (hsel : ∀ (j : Nat) (o : Oper) cs b, ops[j]? = some o → o.op ≠ .select cs b) (hlt : Region.LateLast md ops late pur) :
    ∀ (fuel : Nat) (listed : Array Bool) (a : Act) (g : G) (O : Value → G → Prop), Region.Closed md ops listed →
      (∀ j oj, ops[j]? = some oj → j ≠ i → listed.getD j true = false → (∀ e ∈ oj.after, Region.binds md e = true → e.on ≠ i) → oi.apart ops oj = true ∧ ¬ (loud i = true ∧ loud j = true)) →
      i ∈ Region.ready md ops listed → Fam P ops W I early loud late pur i oi a g O →
      (∀ v g', O v g' → wpAnyF P ops md W I early loud late pur Q fuel (listed.setIfInBounds i true) (a.put oi.dst v) g') → wpAnyF P ops md W I early loud late pur Q (fuel + 1) listed a g := by
  intro fuel
  induction fuel with
  | zero =>
    intro listed a g O _ _ hr hy H
    refine ⟨fun h => (by rw [h] at hr; cases hr), fun j hj => ?_⟩
    by_cases hji : j = i
    · subst hji; exact fOp_of hi hy H
    · have := ready_mono hj hji
      obtain ⟨v, g', hv⟩ := hy.nonempty
      rw [(H v g' hv).1] at this
      cases this
  | succ fuel ih =>
    intro listed a g O hcl hfree hr hy H
    refine ⟨fun h => (by rw [h] at hr; cases hr), fun j hj => ?_⟩
    by_cases hji : j = i
    · subst hji; exact fOp_of hi hy H
    · have h1 := fun v g' hv => (H v g' hv).2 j (ready_mono hj hji)
      obtain ⟨hjun, oj, hoj, hall⟩ := mem_ready.1 hj
      have hnot : ∀ e ∈ oj.after, Region.binds md e = true → e.on ≠ i := fun e he hb heq => by
        have h1 := hall e he hb
        have h0 := (mem_ready.1 hr).1
        rw [heq] at h1
        rcases Nat.lt_or_ge i listed.size with h' | h'
        · simp [h'] at h0 h1; rw [h0] at h1; cases h1
        · simp [Array.getElem?_eq_none h'] at h1
      obtain ⟨hap, hnl⟩ := hfree j oj hoj hji hjun hnot
      have h2 := fOp_put hoj hap (fun cs b => hsel i oi cs b hi) (fun cs b => hsel j oj cs b hoj) hnl (hlt listed hcl i (mem_ready.1 hr).1 j hj hji) hy h1
      have hfree' : ∀ k ok, ops[k]? = some ok → k ≠ i → (listed.setIfInBounds j true).getD k true = false →
          (∀ e ∈ ok.after, Region.binds md e = true → e.on ≠ i) → oi.apart ops ok = true ∧ ¬ (loud i = true ∧ loud k = true) := fun k ok hk hki hun hno => by
        refine hfree k ok hk hki ?_ hno
        by_cases hjk : j = k
        · subst hjk; exact hjun
        · rw [getD_set_ne true hjk] at hun; exact hun
      refine fOp_mono (fun a' g' ⟨O', h3, h4⟩ => ih (listed.setIfInBounds j true) a' g' O' (hcl.set hj) hfree' (ready_mono hr (Ne.symm hji)) h3 ?_) h2
      rw [Array.setIfInBounds_comm _ _ hji]
      exact h4

/-- Two loud ones: the later waits for the earlier. -/
def Region.loudFree (md : Region.Mode) (ops : Array Oper) (loud : Nat → Bool) (listed : Array Bool) (i : Nat) : Bool :=
  (List.range ops.size).all fun j => j == i || listed.getD j true || match ops[j]? with
      | some oj => oj.after.any (fun e => Region.binds md e && e.on == i) || !(loud i && loud j)
      | none => true
theorem Region.loudFree_spec {i : Nat} {listed : Array Bool} (h : Region.loudFree md ops loud listed i = true) (j : Nat) (oj : Oper)
    (hj : ops[j]? = some oj) (hne : j ≠ i) (hun : listed.getD j true = false) (hno : ∀ e ∈ oj.after, Region.binds md e = true → e.on ≠ i) : ¬ (loud i = true ∧ loud j = true) := by
  simp only [Region.loudFree, List.all_eq_true, List.mem_range] at h
  have h1 := h j (Array.getElem?_eq_some_iff.1 hj).1
  simp only [hj, Bool.or_eq_true, beq_iff_eq, hne, false_or, hun, Bool.false_eq_true] at h1
  rcases h1 with h1 | h1
  · obtain ⟨e, he, hb⟩ := Array.any_eq_true'.1 h1
    simp only [Bool.and_eq_true, beq_iff_eq] at hb
    exact absurd hb.2 (hno e he hb.1)
  · rintro ⟨a, b⟩; rw [a, b] at h1; simp at h1

def Region.lexFromL (md : Region.Mode) (ops : Array Oper) (loud : Nat → Bool) : Nat → Nat → Array Bool → Bool
  | 0, _, listed => (Region.ready md ops listed).isEmpty
  | fuel + 1, k, listed => (Region.ready md ops listed).contains k && Region.free md ops listed k && Region.loudFree md ops loud listed k && Region.lexFromL md ops loud fuel (k + 1) (listed.setIfInBounds k true)
def Region.lexBL (md : Region.Mode) (ops : Array Oper) (loud : Nat → Bool) : Bool := Region.noSelect ops && Region.lexFromL md ops loud ops.size 0 (Array.replicate ops.size false)

theorem wpAnyF_lex {Q : Act → G → Prop} (hs : Region.noSelect ops = true) (hlt : Region.LateLast md ops late pur) : ∀ (l : List Oper) (k : Nat) (listed : Array Bool) (a : Act) (g : G), Region.Closed md ops listed → (∀ j, l[j]? = ops[k + j]?) →
    Region.lexFromL md ops loud l.length k listed = true → lexW P ops W I early loud late pur Q l k a g → wpAnyF P ops md W I early loud late pur Q l.length listed a g
  | [], _, _, _, _, _, _, hB, h => ⟨by simpa [Region.lexFromL] using hB, h⟩
  | o :: l, k, listed, a, g, hcl, hl, hB, h => by
    have h0 : ops[k]? = some o := by simpa using (hl 0).symm
    simp only [List.length_cons, Region.lexFromL, Bool.and_eq_true] at hB
    obtain ⟨⟨⟨hr, hf⟩, hlf⟩, hB'⟩ := hB
    have hst : fOp P ops W I early loud late pur k (lexW P ops W I early loud late pur Q l (k + 1)) a g := h
    unfold fOp at hst
    simp only [h0] at hst
    obtain ⟨O, hO, hK⟩ := hst
    exact wpAnyF_first h0 (Region.noSelect_spec hs) hlt l.length listed a g O hcl (fun j oj hj hne hun hno => ⟨Region.free_spec h0 hf j oj hj hne hun hno, Region.loudFree_spec hlf j oj hj hne hun hno⟩) (by simpa using hr) hO
      (fun v g' hv => wpAnyF_lex hs hlt l (k + 1) _ _ g' (hcl.set (by simpa using hr)) (fun j => by have := hl (j + 1); simpa [Nat.add_assoc, Nat.add_comm 1 j] using this) hB' (hK v g' hv))

theorem closed_start : Region.Closed md ops (Array.replicate ops.size false) := ⟨by simp, fun j oj _ hl => by
  rcases Nat.lt_or_ge j ops.size with h | h <;> simp [h] at hl⟩
theorem late_none : Region.LateLast md ops (fun _ => false) pur := fun _ _ _ _ _ _ _ => .inl rfl
/-- Every one ahead of number n is waited for by a later one, up to n. -/
def Region.sinks (md : Region.Mode) (ops : Array Oper) (n : Nat) : Bool :=
  (List.range n).all fun i => (List.range (n + 1)).any fun j => decide (i < j) && match ops[j]? with
    | some oj => oj.after.any fun e => Region.binds md e && e.on == i
    | none => false
theorem late_of_sinks {n : Nat} (hs : Region.sinks md ops n = true) (hn : n < ops.size) : Region.LateLast md ops (fun i => i == n) (fun i => decide (n < i)) := by
  intro listed hcl
  have key : ∀ d i, n - i = d → i < n → listed.getD i true = false → n ∉ Region.ready md ops listed := by
    intro d
    induction d using Nat.strongRecOn with
    | _ d ih =>
      intro i hd hi hun hr
      have h1 := List.all_eq_true.1 hs i (List.mem_range.2 hi)
      obtain ⟨j, hj, hj2⟩ := List.any_eq_true.1 h1
      rw [Bool.and_eq_true, decide_eq_true_eq] at hj2
      obtain ⟨hij, hw⟩ := hj2
      cases hoj : ops[j]? with
      | none => rw [hoj] at hw; cases hw
      | some oj =>
        rw [hoj] at hw
        obtain ⟨e, he, hb⟩ := Array.any_eq_true'.1 hw
        simp only [Bool.and_eq_true, beq_iff_eq] at hb
        by_cases hjn : j = n
        · subst hjn
          obtain ⟨_, o2, ho2, hall⟩ := mem_ready.1 hr
          obtain rfl : oj = o2 := Option.some.inj (hoj.symm.trans ho2)
          have := hall e he hb.1
          rw [hb.2, off_off hun] at this
          cases this
        · have hjlt : j < n := by have := List.mem_range.1 hj; omega
          cases hl : listed.getD j false with
          | true =>
            have := hcl.2 j oj hoj hl e he hb.1
            rw [hb.2, off_off hun] at this
            cases this
          | false =>
            have hjs : j < listed.size := by rw [hcl.1]; omega
            exact ih (n - j) (by omega) j rfl hjlt (by simp [hjs] at hl ⊢; exact hl) hr
  intro i hun j hr hne
  by_cases hjn : j = n
  case neg => exact .inl (by simpa using hjn)
  subst hjn
  rcases Nat.lt_trichotomy i j with h | h | h
  · exact absurd hr (key _ i rfl h hun)
  · exact absurd h.symm hne
  · exact .inr (by simpa using h)

/-- A run of quiet operations, walked by the kit's own walk in the class above an arbitrary world. -/
theorem lexW_quiet {Q : Act → G → Prop} {R : Act → Prop} {rest : List Oper} {g : G} (hg : early g) : ∀ (l : List Oper) (k : Nat) (a : Act), (∀ j, j < l.length → l[j]? = ops[k + j]? ∧ loud (k + j) = false ∧ pur (k + j) = false) →
    (∀ a, R a → lexW P ops W I early loud late pur Q rest (k + l.length) a g) → (∀ w1, Ab W w1 → wpQuiet P ops (Cl w1) R l a) → lexW P ops W I early loud late pur Q (l ++ rest) k a g
  | [], k, a, _, hR, h => hR a (h W (Ab.refl W))
  | o :: l, k, a, hl, hR, h => by
    have h0 : ops[k]? = some o := by simpa using (hl 0 (by simp)).1.symm
    have hld : loud k = false := by simpa using (hl 0 (by simp)).2.1
    have hpu : pur k = false := by simpa using (hl 0 (by simp)).2.2
    have next : ∀ a', (∀ w1, Ab W w1 → wpQuiet P ops (Cl w1) R l a') → lexW P ops W I early loud late pur Q (l ++ rest) (k + 1) a' g := fun a' h' =>
      lexW_quiet hg l (k + 1) a' (fun j hj => by have := hl (j + 1) (by simp; omega); simpa [Nat.add_assoc, Nat.add_comm 1 j] using this)
        (fun a hRa => by have := hR a hRa; simpa [Nat.add_assoc, Nat.add_comm 1] using this) h'
    show fOp P ops W I early loud late pur k (lexW P ops W I early loud late pur Q (l ++ rest) (k + 1)) a g
    by_cases hw : Region.wanted o (yielded ops a.tmps) = true
    · have hq : ∀ w1, Ab W w1 → ∃ v, (∀ w, Cl w1 w → o.quietAt P a (Cl w1) w v) ∧ wpQuiet P ops (Cl w1) R l (a.put o.dst v) := fun w1 hw1 => by
        have := h w1 hw1
        simp only [wpQuiet] at this
        rw [if_pos hw] at this
        exact this
      obtain ⟨v, hv, _⟩ := hq W (Ab.refl W)
      have same : ∀ w1, Ab W w1 → ∀ v1, (∀ w, Cl w1 w → o.quietAt P a (Cl w1) w v1) → v1 = v := fun w1 hw1 v1 hv1 =>
        quietUpon_same (hv1 w1 (Ab.refl w1).cl) (hv w1 hw1.cl)
      have hSQ : SQ P W o a v := fun w1 hw1 => by
        obtain ⟨v1, hv1, _⟩ := hq w1 hw1
        have e := same w1 hw1 v1 hv1
        subst e
        exact quietUpon_class (fun _ h => Cl.ab h) (hv1 w1 (Ab.refl w1).cl)
      refine fOp_of h0 (O := fun v' g' => v' = v ∧ g' = g) ?_ ?_
      · unfold Fam; rw [if_pos hw, if_neg (by rw [hpu]; exact Bool.false_ne_true), if_neg (by rw [hld]; exact Bool.false_ne_true)]; exact ⟨hg, v, hSQ, rfl⟩
      · rintro v' g' ⟨rfl, rfl⟩
        refine next _ fun w1 hw1 => ?_
        obtain ⟨v1, hv1, hrest⟩ := hq w1 hw1
        rw [← same w1 hw1 v1 hv1]
        exact hrest
    · refine fOp_of h0 (O := fun v' g' => v' = undef ∧ g' = g) ?_ ?_
      · unfold Fam; rw [if_neg hw]
      · rintro v' g' ⟨rfl, rfl⟩
        refine next _ fun w1 hw1 => ?_
        have := h w1 hw1
        simp only [wpQuiet] at this
        rw [if_neg hw] at this
        exact this

/-! ### One new variable, one store into it -/
inductive Ph where | none | made (b : Nat) | full (b : Nat)
def PhI (W : World) (Z Z' : Obj) : Ph → World → Prop
  | .none, w => Ab W w
  | .made b, w => Ab W w ∧ W.heap.size ≤ b ∧ w.heap[b]? = some Z
  | .full b, w => Ab W w ∧ W.heap.size ≤ b ∧ w.heap[b]? = some Z'
theorem lt_of_block {w : World} {b : Nat} {o : Obj} (h : w.heap[b]? = some o) : b < w.heap.size := by
  rcases Nat.lt_or_ge b w.heap.size with h' | h'
  · exact h'
  · rw [Array.getElem?_eq_none h'] at h; cases h
theorem PhI.ab {W : World} {Z Z' : Obj} : ∀ (g : Ph) (w : World), True → PhI W Z Z' g w → Ab W w
  | .none, _, _, h => h
  | .made _, _, _, h => h.1
  | .full _, _, _, h => h.1
theorem PhI.on {W : World} {Z Z' : Obj} : ∀ (g : Ph) (w w' : World), True → PhI W Z Z' g w → Ab w w' → PhI W Z Z' g w'
  | .none, _, _, _, h, k => Ab.trans h k
  | .made _, _, _, _, h, k => ⟨h.1.trans k, h.2.1, by rw [k.block _ (lt_of_block h.2.2)]; exact h.2.2⟩
  | .full _, _, _, _, h, k => ⟨h.1.trans k, h.2.1, by rw [k.block _ (lt_of_block h.2.2)]; exact h.2.2⟩

/-- **One new variable (operation number iA), one store into it (number iS), all else quiet.** -/
theorem wp_region_float {P : Program} {id : Nat} {Q : Exit → Act → World → Prop} {a : Act} {w : World} {l1 l2 l3 : List Oper} {oA oS : Oper} (Z Z' : Obj)
    (hm : P.follows .mixedOrders = true)
    (hB : Region.lexBL .any (l1 ++ oA :: (l2 ++ oS :: l3)).toArray (fun i => i == l1.length || i == l1.length + 1 + l2.length) = true)
    (hgA : oA.guard = none) (hgS : oS.guard = none)
    (hA : ∀ (a : Act) (w' : World), (execOp a.eval oA).run P w' = .ok (.value (.pointer (some ⟨w'.heap.size, 0, none⟩))) (w'.alloc Z))
    (h : ∀ w1, Ab w w1 → wpQuiet P (l1 ++ oA :: (l2 ++ oS :: l3)).toArray (Cl w1) (fun a1 => ∀ b, w.heap.size ≤ b → ∀ w2, Ab w w2 → wpQuiet P (l1 ++ oA :: (l2 ++ oS :: l3)).toArray (Cl w2) (fun a2 =>
      (∀ w3, Ab w w3 → w3.heap[b]? = some Z → ∃ w4, (execOp a2.eval oS).run P w3 = .ok .skip w4 ∧ Ab w w4 ∧ w4.heap[b]? = some Z') ∧
      ∀ w5, Ab w w5 → wpQuiet P (l1 ++ oA :: (l2 ++ oS :: l3)).toArray (Cl w5) (fun a3 => ∀ w6, Ab w w6 → w6.heap[b]? = some Z' → Q .normal a3 w6) l3 (a2.put oS.dst undef)) l2 (a1.put oA.dst (.pointer (some ⟨b, 0, none⟩)))) l1 a) :
    (Code.region id (l1 ++ oA :: (l2 ++ oS :: l3)).toArray true).wp P Q a w := by
  obtain ⟨ops, hops⟩ : ∃ ops, ops = (l1 ++ oA :: (l2 ++ oS :: l3)).toArray := ⟨_, rfl⟩
  rw [← hops] at hB h ⊢
  have hget : ∀ j, (l1 ++ oA :: (l2 ++ oS :: l3))[j]? = ops[j]? := fun j => by rw [hops, List.getElem?_toArray]
  have hlen : ops.size = (l1 ++ oA :: (l2 ++ oS :: l3)).length := by rw [hops, List.size_toArray]
  simp only [Region.lexBL, Bool.and_eq_true] at hB
  have wantA : ∀ a : Act, Region.wanted oA (yielded ops a.tmps) = true := fun a => by simp [Region.wanted, hgA]
  have wantS : ∀ a : Act, Region.wanted oS (yielded ops a.tmps) = true := fun a => by simp [Region.wanted, hgS]
  have gA : ops[l1.length]? = some oA := by rw [← hget]; simp
  have gS : ops[l1.length + 1 + l2.length]? = some oS := by
    rw [← hget, List.getElem?_append_right (by omega)]
    have : l1.length + 1 + l2.length - l1.length = l2.length + 1 := by omega
    rw [this, List.getElem?_cons_succ, List.getElem?_append_right (by omega)]
    simp
  have g1 : ∀ j, j < l1.length → l1[j]? = ops[0 + j]? ∧ (fun i => i == l1.length || i == l1.length + 1 + l2.length) (0 + j) = false ∧ (fun _ => false) (0 + j) = false := fun j hj => by
    refine ⟨by rw [← hget, Nat.zero_add, List.getElem?_append_left hj], ?_, rfl⟩
    simp only [Bool.or_eq_false_iff, beq_eq_false_iff_ne]; omega
  have g2 : ∀ j, j < l2.length → l2[j]? = ops[l1.length + 1 + j]? ∧ (fun i => i == l1.length || i == l1.length + 1 + l2.length) (l1.length + 1 + j) = false ∧ (fun _ => false) (l1.length + 1 + j) = false := fun j hj => by
    refine ⟨?_, ?_, rfl⟩
    · rw [← hget, List.getElem?_append_right (by omega)]
      have : l1.length + 1 + j - l1.length = j + 1 := by omega
      rw [this, List.getElem?_cons_succ, List.getElem?_append_left hj]
    · simp only [Bool.or_eq_false_iff, beq_eq_false_iff_ne]; omega
  have g3 : ∀ j, j < l3.length → l3[j]? = ops[l1.length + 1 + l2.length + 1 + j]? ∧ (fun i => i == l1.length || i == l1.length + 1 + l2.length) (l1.length + 1 + l2.length + 1 + j) = false ∧ (fun _ => false) (l1.length + 1 + l2.length + 1 + j) = false := fun j hj => by
    refine ⟨?_, ?_, rfl⟩
    · rw [← hget, List.getElem?_append_right (by omega)]
      have : l1.length + 1 + l2.length + 1 + j - l1.length = (l2.length + (1 + j)) + 1 := by omega
      rw [this, List.getElem?_cons_succ, List.getElem?_append_right (by omega)]
      have : l2.length + (1 + j) - l2.length = j + 1 := by omega
      rw [this, List.getElem?_cons_succ]
    · simp only [Bool.or_eq_false_iff, beq_eq_false_iff_ne]; omega
  have base : Ab w { w with drawn := w.drawn + 1 } := ⟨rfl, rfl, rfl, Nat.le_refl _, fun _ _ => rfl⟩
  refine wp_region_any hm (wpAny_of_float (W := w) (I := PhI w Z Z') (early := fun _ => True) (loud := fun i => i == l1.length || i == l1.length + 1 + l2.length) (late := fun _ => false) (pur := fun _ => false)
    (Q := fun a' g => ∃ b, g = .full b ∧ ∀ w6, Ab w w6 → w6.heap[b]? = some Z' → Q .normal a' w6) PhI.ab PhI.on ?_ _ _ _ Ph.none _ base ?_)
  · rintro a' g w' hI ⟨b, rfl, hQ⟩
    exact hQ w' hI.1 hI.2.2
  · rw [hlen]
    refine wpAnyF_lex hB.1 late_none _ 0 _ _ _ (by rw [← hlen]; exact closed_start) (fun j => by rw [hget, Nat.zero_add]) (by rw [← hlen]; exact hB.2) ?_
    refine lexW_quiet trivial l1 0 a g1 (fun a1 h1 => ?_) h
    refine fOp_of (o := oA) (O := fun v g' => ∃ b, w.heap.size ≤ b ∧ v = .pointer (some ⟨b, 0, none⟩) ∧ g' = Ph.made b) (by rw [Nat.zero_add]; exact gA) ?_ ?_
    · unfold Fam
      rw [if_pos (wantA _), if_neg (by simp), if_pos (by simp)]
      refine ⟨trivial, ?_, fun _ _ _ _ => trivial⟩
      refine ⟨⟨_, _, w.heap.size, Nat.le_refl _, rfl, rfl⟩, fun w' hw' => ?_⟩
      rw [hA a1 w']
      refine ⟨_, ⟨w'.heap.size, Below.size hw', rfl, rfl⟩, ?_⟩
      refine ⟨Ab.trans hw' ⟨rfl, rfl, rfl, by show w'.heap.size ≤ (w'.heap.push Z).size; simp, fun k hk => Below.heap_alloc _ _ _ hk⟩, Below.size hw', ?_⟩
      show (w'.heap.push Z)[w'.heap.size]? = some Z
      simp
    · rintro v g' ⟨b, hb, rfl, rfl⟩
      rw [Nat.zero_add]
      refine lexW_quiet trivial l2 (l1.length + 1) _ g2 (fun a2 h2 => ?_) (h1 b hb)
      refine fOp_of (o := oS) (O := fun v g' => v = undef ∧ g' = Ph.full b) gS ?_ ?_
      · unfold Fam
        rw [if_pos (wantS _), if_neg (by simp), if_pos (by simp)]
        refine ⟨trivial, ?_, fun _ _ _ _ => trivial⟩
        refine ⟨⟨_, _, rfl, rfl⟩, fun w' hw' => ?_⟩
        obtain ⟨w4, hr, h4, h5⟩ := h2.1 w' hw'.1 hw'.2.2
        rw [hr]
        exact ⟨_, ⟨rfl, rfl⟩, h4, hb, h5⟩
      · rintro v g' ⟨rfl, rfl⟩
        have := lexW_quiet (P := P) (W := w) (I := PhI w Z Z') (early := fun _ => True) (loud := fun i => i == l1.length || i == l1.length + 1 + l2.length) (late := fun _ => false) (pur := fun _ => false) (Q := fun a' g => ∃ b, g = .full b ∧ ∀ w6, Ab w w6 → w6.heap[b]? = some Z' → Q .normal a' w6) (rest := []) (g := Ph.full b) trivial l3 (l1.length + 1 + l2.length + 1) _ g3 (fun a3 h3 => ⟨b, rfl, h3⟩) h2.2
        rwa [List.append_nil] at this

/-- The same, the region written out, its two loud operations told by their numbers: n, and m behind it. -/
theorem wp_region_at {P : Program} {id : Nat} {Q : Exit → Act → World → Prop} {a : Act} {w : World} {l : List Oper} {oA oS : Oper} (n m : Nat) (Z Z' : Obj)
    (hm : P.follows .mixedOrders = true)
    (hl : l.take n ++ oA :: ((l.drop (n + 1)).take m ++ oS :: l.drop (n + 1 + m + 1)) = l) (hn : (l.take n).length = n) (hm' : ((l.drop (n + 1)).take m).length = m)
    (hB : Region.lexBL .any l.toArray (fun i => i == n || i == n + 1 + m) = true)
    (hgA : oA.guard = none) (hgS : oS.guard = none)
    (hA : ∀ (a : Act) (w' : World), (execOp a.eval oA).run P w' = .ok (.value (.pointer (some ⟨w'.heap.size, 0, none⟩))) (w'.alloc Z))
    (h : ∀ w1, Ab w w1 → wpQuiet P l.toArray (fun w' => ∃ p : Regrown, w' = bw w1 p) (fun a1 => ∀ b, w.heap.size ≤ b → ∀ w2, Ab w w2 → wpQuiet P l.toArray (fun w' => ∃ p : Regrown, w' = bw w2 p) (fun a2 =>
      (∀ w3, Ab w w3 → w3.heap[b]? = some Z → ∃ w4, (execOp a2.eval oS).run P w3 = .ok .skip w4 ∧ Ab w w4 ∧ w4.heap[b]? = some Z') ∧
      ∀ w5, Ab w w5 → wpQuiet P l.toArray (fun w' => ∃ p : Regrown, w' = bw w5 p) (fun a3 => ∀ w6, Ab w w6 → w6.heap[b]? = some Z' → Q .normal a3 w6) (l.drop (n + 1 + m + 1)) (a2.put oS.dst undef)) ((l.drop (n + 1)).take m) (a1.put oA.dst (.pointer (some ⟨b, 0, none⟩)))) (l.take n) a) :
    (Code.region id l.toArray true).wp P Q a w := by
  have key := wp_region_float (id := id) (Q := Q) (a := a) (w := w) (l1 := l.take n) (l2 := (l.drop (n + 1)).take m) (l3 := l.drop (n + 1 + m + 1)) (oA := oA) (oS := oS) Z Z' hm
  rw [hl, hn, hm'] at key
  exact key hB hgA hgS hA h
end

/-! ### A last operation that waits for all others -/
section
/-- What 'move' and 'assign' give. -/
def pureVal (o : Oper) (a : Act) : Value := match o.op with
  | .move x => a.eval x
  | .assign x => a.eval x
  | _ => undef
def isPure (o : Oper) : Bool := o.guard.isNone && match o.op with
  | .move _ => true
  | .assign _ => true
  | _ => false
def pureRun : List Oper → Act → Act
  | [], a => a
  | o :: l, a => pureRun l (a.put o.dst (pureVal o a))
theorem pq_of_pure {P : Program} {o : Oper} {a : Act} (h : isPure o = true) : PQ P o a (pureVal o a) := by
  intro w
  unfold isPure at h
  rw [Bool.and_eq_true] at h
  have h2 := h.2
  unfold pureVal
  split at h2
  · rename_i x hx; exact BigFrame.run_move x hx w
  · rename_i x hx; exact BigFrame.run_assign x hx w
  · cases h2
theorem want_of_pure {ops : Array Oper} {o : Oper} {a : Act} (h : isPure o = true) : Region.wanted o (yielded ops a.tmps) = true := by
  unfold isPure at h
  rw [Bool.and_eq_true, Option.isNone_iff_eq_none] at h
  simp [Region.wanted, h.1]

theorem lexW_pure {P : Program} {ops : Array Oper} {W : World} {G : Type} {I : G → World → Prop} {early : G → Prop} {loud late pur : Nat → Bool} {Q : Act → G → Prop} {g : G} : ∀ (l : List Oper) (k : Nat) (a : Act), (∀ j, j < l.length → l[j]? = ops[k + j]? ∧ pur (k + j) = true) → l.all isPure = true →
    Q (pureRun l a) g → lexW P ops W I early loud late pur Q l k a g
  | [], _, _, _, _, h => h
  | o :: l, k, a, hl, hp, h => by
    have h0 : ops[k]? = some o := by simpa using (hl 0 (by simp)).1.symm
    have hpk : pur k = true := by simpa using (hl 0 (by simp)).2
    rw [List.all_cons, Bool.and_eq_true] at hp
    refine fOp_of h0 (O := fun v' g' => v' = pureVal o a ∧ g' = g) ?_ ?_
    · unfold Fam; rw [if_pos (want_of_pure hp.1), if_pos hpk]; exact ⟨_, pq_of_pure hp.1, rfl⟩
    · rintro v' g' ⟨rfl, rfl⟩
      exact lexW_pure l (k + 1) _ (fun j hj => by have := hl (j + 1) (by simp; omega); simpa [Nat.add_assoc, Nat.add_comm 1 j] using this) hp.2 h

/-- **All quiet, but number n, for which every one ahead of it is waited; behind it moves alone.** -/
theorem wp_region_store {P : Program} {id : Nat} {Q : Exit → Act → World → Prop} {a : Act} {w : World} {l : List Oper} {oS : Oper} (n : Nat)
    (hm : P.follows .mixedOrders = true) (hl : l.take n ++ oS :: l.drop (n + 1) = l) (hn : (l.take n).length = n) (hpu : (l.drop (n + 1)).all isPure = true)
    (hB : Region.lexBL .any l.toArray (fun i => i == n) = true) (hSk : Region.sinks .any l.toArray n = true) (hgS : oS.guard = none)
    (h : ∀ w1, Ab w w1 → wpQuiet P l.toArray (fun w' => ∃ p : Regrown, w' = bw w1 p) (fun a1 => ∀ w3, Ab w w3 → Yld P (fun v w4 => Q .normal (pureRun (l.drop (n + 1)) (a1.put oS.dst v)) w4) w3 ((execOp a1.eval oS).run P w3)) (l.take n) a) :
    (Code.region id l.toArray true).wp P Q a w := by
  obtain ⟨ops, hops⟩ : ∃ ops, ops = l.toArray := ⟨_, rfl⟩
  obtain ⟨l1, hl1⟩ : ∃ l1, l1 = l.take n := ⟨_, rfl⟩
  obtain ⟨l3, hl3⟩ : ∃ l3, l3 = l.drop (n + 1) := ⟨_, rfl⟩
  rw [← hops] at hB hSk h ⊢
  rw [← hl1, ← hl3] at hl h
  rw [← hl1] at hn
  rw [← hl3] at hpu
  have hget : ∀ j, l[j]? = ops[j]? := fun j => by rw [hops, List.getElem?_toArray]
  have hlen : ops.size = (l1 ++ oS :: l3).length := by rw [hops, List.size_toArray, hl]
  simp only [Region.lexBL, Bool.and_eq_true] at hB
  have wantS : ∀ a : Act, Region.wanted oS (yielded ops a.tmps) = true := fun a => by simp [Region.wanted, hgS]
  have gS : ops[n]? = some oS := by rw [← hget, ← hl, ← hn]; simp
  have g1 : ∀ j, j < l1.length → l1[j]? = ops[0 + j]? ∧ (fun i => i == n) (0 + j) = false ∧ (fun i => decide (n < i)) (0 + j) = false := fun j hj => by
    refine ⟨by rw [← hget, Nat.zero_add, ← hl, List.getElem?_append_left hj], ?_, ?_⟩
    · simp only [beq_eq_false_iff_ne]; omega
    · simp only [decide_eq_false_iff_not]; omega
  have g3 : ∀ j, j < l3.length → l3[j]? = ops[n + 1 + j]? ∧ (fun i => decide (n < i)) (n + 1 + j) = true := fun j hj => by
    refine ⟨?_, by simp only [decide_eq_true_eq]; omega⟩
    rw [← hget, ← hl, List.getElem?_append_right (by omega)]
    have : n + 1 + j - l1.length = j + 1 := by omega
    rw [this, List.getElem?_cons_succ]
  have base : Ab w { w with drawn := w.drawn + 1 } := ⟨rfl, rfl, rfl, Nat.le_refl _, fun _ _ => rfl⟩
  refine wp_region_any hm (wpAny_of_float (G := Option (World → Prop)) (W := w) (I := fun g w' => match g with | none => Ab w w' | some R => R w') (early := fun g => g = none) (loud := fun i => i == n) (late := fun i => i == n) (pur := fun i => decide (n < i))
    (Q := fun a' g => ∃ R, g = some R ∧ ∀ w', R w' → Q .normal a' w') ?_ ?_ ?_ _ _ _ none _ base ?_)
  · rintro g w' rfl h; exact h
  · rintro g w' w'' rfl h k; exact Ab.trans h k
  · rintro a' g w' hI ⟨R, rfl, hQ⟩; exact hQ w' hI
  · rw [hlen]
    refine wpAnyF_lex hB.1 (late_of_sinks hSk (by rw [hlen]; simp [hn])) (l1 ++ oS :: l3) 0 _ _ _ (by rw [← hlen]; exact closed_start) (fun j => by rw [hl, hget, Nat.zero_add]) (by rw [← hlen]; exact hB.2) ?_
    refine lexW_quiet (loud := fun i => i == n) (early := fun g => g = none) (pur := fun i => decide (n < i)) rfl l1 0 a g1 (fun a1 h1 => ?_) h
    rw [Nat.zero_add, hn]
    refine fOp_of (o := oS) (O := fun v g' => g' = some (fun w' => Q .normal (pureRun l3 (a1.put oS.dst v)) w')) gS ?_ ?_
    · unfold Fam
      rw [if_pos (wantS _), if_neg (by simp), if_pos (by simp)]
      refine ⟨rfl, ⟨⟨undef, _, rfl⟩, fun w' hw' => ?_⟩, fun hlate => absurd hlate (by simp)⟩
      exact Yld.mono (fun v w4 hQ => ⟨_, rfl, hQ⟩) (h1 w' hw')
    · rintro v g' rfl
      exact lexW_pure l3 (n + 1) _ g3 hpu ⟨_, rfl, fun w' h' => h'⟩

/-- The same with nothing behind it. -/
theorem wp_region_last {P : Program} {id : Nat} {Q : Exit → Act → World → Prop} {a : Act} {w : World} {l : List Oper} {oS : Oper} (n : Nat)
    (hm : P.follows .mixedOrders = true) (hl : l.take n ++ [oS] = l) (hn : (l.take n).length = n)
    (hB : Region.lexBL .any l.toArray (fun i => i == n) = true) (hSk : Region.sinks .any l.toArray n = true) (hgS : oS.guard = none)
    (h : ∀ w1, Ab w w1 → wpQuiet P l.toArray (fun w' => ∃ p : Regrown, w' = bw w1 p) (fun a1 => ∀ w3, Ab w w3 → Yld P (fun v w4 => Q .normal (a1.put oS.dst v) w4) w3 ((execOp a1.eval oS).run P w3)) (l.take n) a) :
    (Code.region id l.toArray true).wp P Q a w := by
  have hd : l.drop (n + 1) = [] := by
    have := congrArg List.length hl
    rw [List.length_append, hn] at this
    exact List.drop_eq_nil_of_le (by simp at this; omega)
  refine wp_region_store n hm (by rw [hd]; exact hl) hn (by rw [hd]; rfl) hB hSk hgS ?_
  rw [hd]
  exact h
end

/-! ### A block as a whole -/
theorem cell_of_block {w : World} {b : Nat} {C : Array Value} {t : TypeId} (h : w.heap[b]? = some (.cells C t (0, 0))) (j : Nat) : w.cell? ⟨b, j, none⟩ = C[j]? := by simp [World.cell?, h]
theorem free_of_block {w : World} {b : Nat} {C : Array Value} {t : TypeId} (h : w.heap[b]? = some (.cells C t (0, 0))) (j : Nat) : w.frozen? ⟨b, j, none⟩ = false := by simp [World.frozen?, h]
theorem block_setCell {w : World} {b j : Nat} {C : Array Value} {t : TypeId} {r : Nat × Nat} (v : Value) (h : w.heap[b]? = some (.cells C t r)) : (w.setCell ⟨b, j, none⟩ v).heap[b]? = some (.cells (C.setIfInBounds j v) t r) := by
  have hlt := lt_of_block h
  have h' : w.heap[b] = .cells C t r := by simpa [Array.getElem?_eq_getElem hlt] using h
  show (w.heap.modify b _)[b]? = _
  rw [Array.getElem?_eq_getElem (by simpa using hlt), Array.getElem_modify_self, h']
  rfl
theorem Ab.setCell {w w1 : World} {b j : Nat} (v : Value) (h : Ab w w1) (hb : w.heap.size ≤ b) : Ab w (w1.setCell ⟨b, j, none⟩ v) := Below.setCell h hb v
/-- A block of the run's own in a world above. -/
theorem Ab.block {w w' : World} {b : Nat} {o : Obj} (h : Ab w w') (hb : w.heap[b]? = some o) : w'.heap[b]? = some o := (Below.block h b (lt_of_block hb)).trans hb
theorem block_alloc (w : World) (o : Obj) : (w.alloc o).heap[w.heap.size]? = some o := by show (w.heap.push o)[w.heap.size]? = some o; simp
theorem block_alloc2 (w : World) (o p : Obj) : ((w.alloc o).alloc p).heap[w.heap.size]? = some o ∧ ((w.alloc o).alloc p).heap[w.heap.size + 1]? = some p := by
  show ((w.heap.push o).push p)[w.heap.size]? = some o ∧ ((w.heap.push o).push p)[w.heap.size + 1]? = some p
  exact ⟨by rw [Array.getElem?_push, if_neg (by simp)]; simp, by rw [Array.getElem?_push, if_pos (by simp)]⟩
end Go.Proofs.YtnbijfeidgddmaaGreatDoor

namespace Go.Proofs.YtnbijfeidgddmaaGreatDoor
open Go.ChangeShapes Go.WideShapes Go.ChangeAt Go.RowKit

/-- A digit. -/
def dig (k : Nat) : ByteArray := ⟨#[UInt8.ofNat (48 + k)]⟩
/-- A number of at most two digits. -/
def dec2 (n : Nat) : ByteArray := if n < 10 then dig n else dig (n / 10) ++ dig (n % 10)
theorem conv_oneD (W : World) (u : UInt8) : (convert 76 9 (.slice (some ⟨W.heap.size, 0, none⟩) 1 1)).run Tryz.prog (W.alloc (.cells #[.int .u8 (u.toNat : Int)] 5)) = .ok (.string ⟨#[u]⟩) (W.alloc (.cells #[.int .u8 (u.toNat : Int)] 5)) := by
  have h := run_convert_bytes_back (P := Tryz.prog) (W.alloc (.cells #[.int .u8 (u.toNat : Int)] 5)) 76 9 5 ⟨W.heap.size, 0, none⟩ 1 [u] Tryz.underlying76 Tryz.underlying5 Tryz.underlying9 (fun j hj => by
    have hj0 : j = 0 := by simp at hj; omega
    subst hj0
    simp [Addr.add])
  simpa using h
theorem conv_at (W : World) (b : Nat) (u : UInt8) (hb : W.cell? ⟨b, 0, none⟩ = some (.int .u8 (u.toNat : Int))) : (convert 76 9 (.slice (some ⟨b, 0, none⟩) 1 1)).run Tryz.prog W = .ok (.string ⟨#[u]⟩) W := by
  have h := run_convert_bytes_back (P := Tryz.prog) W 76 9 5 ⟨b, 0, none⟩ 1 [u] Tryz.underlying76 Tryz.underlying5 Tryz.underlying9 (fun j hj => by
    have hj0 : j = 0 := by simp at hj; omega
    subst hj0
    simp [Addr.add, hb])
  simpa using h
theorem dig_byte {k : Nat} (h : k < 10) : ((UInt8.ofNat (48 + k)).toNat : Int) = 48 + (k : Int) := by rw [UInt8.toNat_ofNat']; omega

set_option maxRecDepth 100000 in
set_option maxHeartbeats 1600000 in
theorem sDec1_any (n : Nat) (hn : n < 10) (w : World) :
    Calls Tryz.prog 106 #[.int .i64 (n : Int)] w fun e w' => e = .returned (.string (dec2 n)) ∧ Below w.heap.size w w' := by
  have d1 : decide ((n : Int) < 10) = true := decide_eq_true (by omega)
  have v1 : (n : Int).tmod 10 = (n : Int) := by rw [Int.tmod_eq_emod_of_nonneg (by omega)]; omega
  have v2 : IntKind.i64.wrap (n : Int) = (n : Int) := IntWalk.i64_in _ (by omega)
  have v3 : IntKind.i64.wrap (48 + (n : Int)) = 48 + (n : Int) := IntWalk.i64_in _ (by omega)
  have e : dec2 n = ⟨#[UInt8.ofNat (48 + n)]⟩ := if_pos hn
  rw [e]
  have hu := dig_byte hn
  generalize UInt8.ofNat (48 + n) = u at *
  have v4 : IntKind.u8.wrap (48 + (n : Int)) = (u.toNat : Int) := by rw [hu]; exact IntWalk.u8_in _ ⟨by omega, by omega⟩
  have cv := conv_oneD w u
  clear hu e
  go_enter Tryz.func106, Tryz.ntmps106
  go_wp2
  go_ret
  exact ⟨rfl, (by repeat' (first | (with_reducible exact Below.refl _ _) | (with_reducible assumption) | (with_reducible refine below_drewN ?_ _) | (with_reducible refine Below.drew ?_) | (with_reducible refine below_new ?_ _) | (with_reducible refine below_next ?_ (by with_reducible assumption)) | (with_reducible refine Below.setCell ?_ ?_ _) | go_size))⟩

set_option maxRecDepth 100000 in
set_option maxHeartbeats 3200000 in
theorem sDec_any (n : Nat) (hn : n < 100) (w : World) :
    Calls Tryz.prog 106 #[.int .i64 (n : Int)] w fun e w' => e = .returned (.string (dec2 n)) ∧ Below w.heap.size w w' := by
  by_cases h : n < 10
  · exact sDec1_any n h w
  · have d1 : decide ((n : Int) < 10) = false := decide_eq_false (by omega)
    obtain ⟨m, hm⟩ : ∃ m, m = n / 10 := ⟨_, rfl⟩
    obtain ⟨r, hr⟩ : ∃ r, r = n % 10 := ⟨_, rfl⟩
    have v0 : (n : Int).tdiv 10 = (m : Int) := by rw [Int.tdiv_eq_ediv_of_nonneg (by omega)]; omega
    have v1 : (n : Int).tmod 10 = (r : Int) := by rw [Int.tmod_eq_emod_of_nonneg (by omega)]; omega
    have v5 : IntKind.i64.wrap (m : Int) = (m : Int) := IntWalk.i64_in _ (by omega)
    have v2 : IntKind.i64.wrap (r : Int) = (r : Int) := IntWalk.i64_in _ (by omega)
    have v3 : IntKind.i64.wrap (48 + (r : Int)) = 48 + (r : Int) := IntWalk.i64_in _ (by omega)
    have e : dec2 n = dig m ++ ⟨#[UInt8.ofNat (48 + r)]⟩ := by unfold dec2; rw [if_neg h, hm, hr]; rfl
    have em : dec2 m = dig m := if_pos (by omega)
    have D := fun W => sDec1_any m (by omega) W
    rw [em] at D
    rw [e]
    have hu := dig_byte (k := r) (by omega)
    have sd : (dig m).size = 1 := rfl
    generalize UInt8.ofNat (48 + r) = u at *
    generalize dig m = s at *
    have v4 : IntKind.u8.wrap (48 + (r : Int)) = (u.toNat : Int) := by rw [hu]; exact IntWalk.u8_in _ ⟨by omega, by omega⟩
    have cv := fun W b hb => conv_at W b u hb
    have sz : (ByteArray.mk #[u]).size = 1 := rfl
    have sl : ¬ 9223372036854775807 < s.size + 1 := by omega
    have D := Lib.hid D
    clear hu e em hm hr
    go_enter Tryz.func106, Tryz.ntmps106
    go_upto_region 3 with fail
    go_region_with (go_at_call 106; refine (D.out _).mono ?_; rintro e w2 ⟨rfl, hB⟩; obtain ⟨qc, qf, qz⟩ := bcell hB)
    all_goals go_wp2
    all_goals go_ret
    all_goals exact ⟨rfl, (by repeat' (first | (with_reducible exact Below.refl _ _) | (with_reducible assumption) | (with_reducible refine below_drewN ?_ _) | (with_reducible refine Below.drew ?_) | (with_reducible refine below_new ?_ _) | (with_reducible refine below_next ?_ (by with_reducible assumption)) | (with_reducible refine Below.setCell ?_ ?_ _) | go_size))⟩
end Go.Proofs.YtnbijfeidgddmaaGreatDoor

namespace Go.Proofs.YtnbijfeidgddmaaGreatDoor
open Go.ChangeShapes Go.WideShapes Go.ChangeAt Go.RowKit

/-- The slice's numbers are these, in a row of the call's own from block B on. -/
def OwnInts (B : Nat) (zs : List Int) (v : Value) (w : World) : Prop := w.ownsRow B 2 1 v zs.length (zs.map (Value.int .i64))
theorem ownInts_in {B : Nat} {zs : List Int} {v : Value} {w : World} (h : OwnInts B zs v w) : ∃ a c, v = .slice a zs.length c ∧ IntsIn w a zs := by
  have h0 := h
  obtain ⟨_, h2⟩ := h
  rcases h2 with ⟨rfl, hn⟩ | ⟨g, cap, cur, rfl, hb, hg, _⟩
  · exact ⟨none, 0, by rw [hn], fun i hi => by omega⟩
  · refine ⟨_, cap, rfl, fun i hi => ⟨g, 0, rfl, (Array.getElem?_eq_some_iff.1 hg).1, ?_⟩⟩
    have := World.ownsRow.cellAt h0 i (by omega)
    rw [Nat.zero_add, this, List.getElem?_map, List.getElem?_eq_getElem hi]
    simp [List.getD, hi]
/-- What lies from block B on: nothing below it is touched by a world that is the same from there downwards. -/
theorem ownInts_kept {B : Nat} {zs : List Int} {v : Value} {w w' : World} (h : OwnInts B zs v w) (hb : Below w.heap.size w w') : OwnInts B zs v w' := by
  obtain ⟨h1, h2⟩ := h
  refine ⟨h1, ?_⟩
  rcases h2 with hn | ⟨g, cap, cur, rfl, hB, hg, rest⟩
  · exact .inl hn
  · exact .inr ⟨g, cap, cur, rfl, hB, (hb.block g (Array.getElem?_eq_some_iff.1 hg).1).trans hg, rest⟩

/-- The marks from k on. -/
def marks (k : Int) (n : Nat) : List Int := (List.range n).map fun i : Nat => k + (i : Int)
theorem marks_len (k : Int) (n : Nat) : (marks k n).length = n := by unfold marks; simp
theorem marks_get (k : Int) (n i : Nat) (h : i < n) : (marks k n).getD i 0 = k + (i : Int) := by unfold marks; simp [List.getD, h]
/-- j marks, then the old numbers. -/
def markTo (zs : List Int) (k : Int) (j : Nat) : List Int := (List.range zs.length).map fun i : Nat => if i < j then k + (i : Int) else zs.getD i 0
theorem markTo_len (zs : List Int) (k : Int) (j : Nat) : (markTo zs k j).length = zs.length := by unfold markTo; simp
theorem markTo_zero (zs : List Int) (k : Int) : markTo zs k 0 = zs := by
  apply List.ext_getElem?
  intro i
  unfold markTo
  by_cases h : i < zs.length
  · simp [h, List.getD]
  · simp [h]
theorem markTo_all (zs : List Int) (k : Int) : markTo zs k zs.length = marks k zs.length := by
  apply List.ext_getElem?
  intro i
  unfold markTo marks
  by_cases h : i < zs.length
  · simp [h]
  · simp [h]
theorem markTo_next (zs : List Int) (k : Int) (j : Nat) (h : j < zs.length) : ((markTo zs k j).map (Value.int .i64)).set j (.int .i64 (k + (j : Int))) = (markTo zs k (j + 1)).map (Value.int .i64) := by
  apply List.ext_getElem?
  intro i
  rw [List.getElem?_set]
  unfold markTo
  by_cases e : j = i
  · subst e; simp [h]
  · rw [if_neg e]
    by_cases hi : i < zs.length
    · by_cases h1 : i < j
      · simp [hi, h1, show i < j + 1 by omega]
      · simp [hi, h1, show ¬ i < j + 1 by omega]
    · simp [hi]
theorem markTo_get (zs : List Int) (k : Int) (j : Nat) (h : j < zs.length) : (markTo zs k j).getD j 0 = zs.getD j 0 := by unfold markTo; simp [List.getD, h]



end Go.Proofs.YtnbijfeidgddmaaGreatDoor

namespace Go.Proofs.YtnbijfeidgddmaaGreatDoor
open Go.ChangeShapes Go.WideShapes Go.ChangeAt Go.RowKit

/-- Bytes that lie in a block of the call's own, with room behind them that may be written. -/
def OwnG (B : Nat) (bs : List UInt8) (v : Value) (w : World) : Prop := ∃ g cap, v = .slice (some ⟨g, 0, none⟩) bs.length cap ∧ B ≤ g ∧ g < w.heap.size ∧ bs.length ≤ cap ∧
  (∀ j u, (Lib.byteCells bs)[j]? = some u → w.cell? ⟨g, j, none⟩ = some u) ∧ (∀ j, bs.length ≤ j → j < cap → (w.cell? ⟨g, j, none⟩).isSome = true ∧ w.frozen? ⟨g, j, none⟩ = false)
theorem ownG_kept {B : Nat} {bs : List UInt8} {v : Value} {w w' : World} (h : OwnG B bs v w) (hb : Below w.heap.size w w') : OwnG B bs v w' := by
  obtain ⟨g, cap, rfl, h1, h2, h3, h4, h5⟩ := h
  exact ⟨g, cap, rfl, h1, Nat.lt_of_lt_of_le h2 hb.size, h3, fun j u hj => (hb.cell h2).trans (h4 j u hj), fun j a b => by rw [hb.cell (p := ⟨g, j, none⟩) h2, hb.frozen (p := ⟨g, j, none⟩) h2]; exact h5 j a b⟩
theorem ownG_weak {B B' : Nat} {bs : List UInt8} {v : Value} {w : World} (h : OwnG B bs v w) (hb : B' ≤ B) : OwnG B' bs v w := by
  obtain ⟨g, cap, rfl, h1, h2⟩ := h
  exact ⟨g, cap, rfl, Nat.le_trans hb h1, h2⟩
theorem byteC_app (xs ys : List UInt8) : Lib.byteCells (xs ++ ys) = Lib.byteCells xs ++ Lib.byteCells ys := by unfold Lib.byteCells; rw [List.map_append]
theorem byteC_len (xs : List UInt8) : (Lib.byteCells xs).length = xs.length := by unfold Lib.byteCells; rw [List.length_map]
theorem byteC_one (xs : List UInt8) : ∀ u ∈ Lib.byteCells xs, u.oneCell' = true := fun u hu => by
  unfold Lib.byteCells at hu
  obtain ⟨b, _, rfl⟩ := List.mem_map.1 hu
  rfl
theorem ownG_of_row {B : Nat} {bs : List UInt8} {v : Value} {w : World} {e : TypeId} (h : w.ownsRow B e 1 v bs.length (Lib.byteCells bs)) (h0 : 0 < bs.length) : OwnG B bs v w := by
  have hc := h
  obtain ⟨_, h2⟩ := h
  rcases h2 with ⟨_, hz⟩ | ⟨g, cap, cur, rfl, hb, hg, hcap, _, hsz, htk⟩
  · omega
  · refine ⟨g, cap, rfl, hb, (Array.getElem?_eq_some_iff.1 hg).1, hcap, fun j u hj => ?_, fun j a b => ⟨?_, ?_⟩⟩
    · have hlt : j < bs.length := by have := (List.getElem?_eq_some_iff.1 hj).1; rwa [byteC_len] at this
      rw [World.ownsRow.cellAt hc j (by omega)]; exact hj
    · simp [World.cell?, hg, hsz, b]
    · exact World.ownsRow.frozenAt hc j
theorem cell_in {w : World} {p : Addr} (h : (w.cell? p).isSome = true) : ∃ v, w.cell? p = some v := Option.isSome_iff_exists.1 h
theorem heap_setCellsG {g k : Nat} (hne : k ≠ g) : ∀ (vs : List Value) (o : Nat) (w : World), (w.setCells g o vs).heap[k]? = w.heap[k]?
  | [], _, _ => rfl
  | v :: vs, o, w => (heap_setCellsG hne vs (o + 1) (w.setCell ⟨g, o, none⟩ v)).trans (Below.heap_setCell _ _ _ _ hne)
/-- What an append leaves: the row, what may have been written, and where the row lies now. -/
def Grn (B : Nat) (bs : List UInt8) (v : Value) (w : World) (v' : Value) (w' : World) : Prop := OwnG B bs v' w' ∧ w.grownBy w' v.ownBlock ∧ (v'.ownBlock = v.ownBlock ∨ ∃ g, v'.ownBlock = some g ∧ w.heap.size ≤ g)
/-- The row behind an append in place. -/
theorem ownG_room {B g cap : Nat} {bs ys : List UInt8} {w : World} (hB : B ≤ g) (hg : g < w.heap.size) (hc : bs.length + ys.length ≤ cap)
    (h4 : ∀ j u, (Lib.byteCells bs)[j]? = some u → w.cell? ⟨g, j, none⟩ = some u) (h5 : ∀ j, bs.length ≤ j → j < cap → (w.cell? ⟨g, j, none⟩).isSome = true ∧ w.frozen? ⟨g, j, none⟩ = false) :
    Grn B (bs ++ ys) (.slice (some ⟨g, 0, none⟩) bs.length cap) w (.slice (some ⟨g, 0, none⟩) (bs.length + ys.length) cap) (w.setCells g bs.length (Lib.byteCells ys)) := by
  have hbw := Lib.below_setCells_w hB (Lib.byteCells ys) bs.length w
  refine ⟨⟨g, cap, by rw [List.length_append], hB, Nat.lt_of_lt_of_le hg hbw.size, by rw [List.length_append]; exact hc, fun j u hj => ?_, fun j a b => ?_⟩, ⟨hbw.os, hbw.tape, hbw.output, hbw.size, fun k _ hne => heap_setCellsG (fun e => hne (by rw [e]; rfl)) _ _ _⟩, .inl rfl⟩
  · rw [byteC_app] at hj
    by_cases hlt : j < bs.length
    · rw [List.getElem?_append_left (by rw [byteC_len]; exact hlt)] at hj
      rw [World.cell?_setCells_out g _ _ _ _ (fun _ _ => .inl hlt)]
      exact h4 j u hj
    · rw [List.getElem?_append_right (by rw [byteC_len]; omega), byteC_len] at hj
      obtain ⟨hl, he⟩ := List.getElem?_eq_some_iff.1 hj
      have hi := World.cell?_setCells_in g (Lib.byteCells ys) bs.length w (fun i hi => (h5 (bs.length + i) (by omega) (by rw [byteC_len] at hi; omega)).1) (j - bs.length) hl
      rw [show bs.length + (j - bs.length) = j by omega] at hi
      rw [hi, he]
  · rw [List.length_append] at a
    rw [World.cell?_setCells_out g _ _ _ _ (fun _ _ => .inr (by rw [byteC_len]; exact a)), World.frozen?_setCells]
    exact h5 j (by omega) b

/-- One byte more. -/
theorem wp_pushG {P : Program} (w : World) {ops : Array Oper} {rest : List Oper} {o : Oper} {a : Act} {Q : Exit → Act → World → Prop} (hgd : o.guard = none) (s x : Operand) (t : TypeId)
    (ho : o.op = .call { callee := .builtin .append, args := #[s, x], argTypes := #[t, t] }) (e : TypeId) (i : TypeInfo) (ht : P.underlying t = some (.slice e)) (hi : P.info? e = some i) (hz : i.zero = some (.int .u8 0)) (hs1 : i.size = 1) (hb1 : i.bytes = 1)
    (B : Nat) (bs : List UInt8) (v : Value) (hs : a.eval s = v) (hO : OwnG B bs v w) (hB : B ≤ w.heap.size) (hl : bs.length ≤ 100000)
    (ad : Addr) (c : Nat) (u : UInt8) (hx : a.eval x = .slice (some ad) 1 c) (hc : w.cell? (ad.add 0) = some (.int .u8 (u.toNat : Int)))
    (h : ∀ v' w', Grn B (bs ++ [u]) v w v' w' → wpList P ops Q rest (a.put o.dst v') w') : wpList P ops Q (o :: rest) a w := by
  obtain ⟨g, cap, rfl, h1, h2, h3, h4, h5⟩ := hO
  refine wpList_append_arg w hgd s x t ho e i (.int .u8 0) 1 1 ht hi hz hs1 hb1 rfl (by decide) g 0 bs.length cap (Lib.byteCells bs) hs (by rw [byteC_len, Nat.mul_one]) (fun j u hj => by rw [Nat.zero_add]; exact h4 j u hj)
    ad 1 c [.int .u8 (u.toNat : Int)] hx rfl (fun j y hj => ?_) (fun y hy => by simp at hy; subst hy; rfl) (fun hr j hj => ?_) (by unfold maxLen; omega) (by omega) (fun hr => ?_) (fun _ v' w' hown hgr => ?_)
  · match j, hj with
    | 0, hj => simp at hj; subst hj; exact hc
  · simp only [List.length_cons, List.length_nil] at hj
    rw [Nat.zero_add, Nat.mul_one]
    exact h5 (bs.length + j) (by omega) (by omega)
  · have k := ownG_room (ys := [u]) h1 h2 hr h4 h5
    rw [Nat.zero_add, Nat.mul_one]
    exact h _ _ k
  · have hr : w'.ownsRow w.heap.size e 1 v' (bs ++ [u]).length (Lib.byteCells (bs ++ [u])) := by rw [List.length_append, byteC_app]; exact hown
    have hG := ownG_of_row hr (by rw [List.length_append]; simp)
    exact h _ _ ⟨ownG_weak hG hB, ⟨hgr.os, hgr.tape, hgr.output, hgr.size, fun k hk _ => hgr.block k hk (by simp)⟩, .inr (by obtain ⟨g2, c2, rfl, q, _⟩ := hG; exact ⟨g2, rfl, q⟩)⟩

/-- A text more. -/
theorem run_appendG {P : Program} (w : World) (t u ty e : TypeId) (i : TypeInfo) (ht : P.underlying t = some (.slice e)) (hu : P.underlying u = some .string) (hi : P.info? e = some i) (hz : i.zero = some (.int .u8 0)) (hs1 : i.size = 1) (hb1 : i.bytes = 1)
    (B : Nat) (bs : List UInt8) (v : Value) (hO : OwnG B bs v w) (hB : B ≤ w.heap.size) (hl : bs.length ≤ 100000) (s : ByteArray) (hsz : s.size ≤ 100000) (h0 : 0 < bs.length) :
    ∃ v' w', (Builtin.append_ #[t, u] ty #[v, .string s]).run P w = .ok v' w' ∧ Grn B (bs ++ s.data.toList) v w v' w' := by
  obtain ⟨g, cap, rfl, h1, h2, h3, h4, h5⟩ := hO
  have sl : s.data.toList.length = s.size := Array.length_toList
  have sc : Lib.strCells s = Lib.byteCells s.data.toList := Lib.strCells_eq s
  by_cases hr : bs.length + s.size ≤ cap
  · have k := ownG_room (ys := s.data.toList) h1 h2 (by rw [sl]; exact hr) h4 h5
    have hf := Lib.run_firstCells_string (P := P) w i.size s
    have hst := run_storeCells_cells (P := P) g bs.length (Lib.byteCells s.data.toList) 0 w (fun j hj => by rw [byteC_len, sl] at hj; rw [Nat.add_zero]; exact (h5 (bs.length + j) (by omega) (by omega)).1) (fun j hj => by rw [byteC_len, sl] at hj; rw [Nat.add_zero]; exact (h5 (bs.length + j) (by omega) (by omega)).2) (byteC_one _)
    simp only [Nat.add_zero] at hst
    refine ⟨_, _, ?_, k⟩
    rw [sc] at hf
    rw [sl]
    simp [Builtin.append_, run_underlying ht, run_underlying hu, sizeOf, typeInfo, hi, hs1, Builtin.lenOf, hr, Addr.add_lit]
    rw [hs1] at hf
    simp [hf, hst]
  · have hrun := Lib.run_append_grow_string (P := P) w t u ty e i (.int .u8 0) ht hu hi hz ⟨g, 0, none⟩ bs.length cap (Lib.byteCells bs) (by rw [byteC_len, hs1, Nat.mul_one]) (fun j y hj => by rw [Addr.add_lit, Nat.zero_add]; exact h4 j y hj) s (by omega) (by omega) (by rw [hb1]; exact growslice_fits (by omega) (by omega))
    refine ⟨_, _, hrun, ?_, ⟨rfl, rfl, rfl, by simp, fun k hk _ => Below.heap_alloc w.drew _ _ hk⟩, .inr ⟨w.heap.size, rfl, Nat.le_refl _⟩⟩
    · rw [sc]
      have hge := grownCap_ge w (bs.length + s.size) cap e
      have hcm := grownCap_le_maxLen w (bs.length + s.size) cap e (by unfold maxLen; omega)
      refine ownG_weak (B := w.heap.size) (ownG_of_row (e := e) ⟨by rw [byteC_len, Nat.mul_one], .inr ⟨w.heap.size, _, _, by rw [List.length_append, sl], Nat.le_refl _, heap_alloc_new w.drew _, by rw [List.length_append, sl]; exact hge, hcm, ?_, ?_⟩⟩ (by rw [List.length_append]; omega)) hB
      · have hz1 : (Value.int IntKind.u8 0).cells.size = 1 := rfl
        simp only [Array.size_append, List.size_toArray, size_zeroCells, hz1, byteC_len, sl]
        omega
      · rw [byteC_app, List.length_append, sl]
        simp only [Array.toList_append, List.append_assoc]
        rw [← List.append_assoc]
        rw [show (bs.length + s.size) * 1 = (Lib.byteCells bs ++ Lib.byteCells s.data.toList).length by rw [List.length_append, byteC_len, byteC_len, sl, Nat.mul_one]]
        exact List.take_left
theorem wp_pushS {P : Program} (w : World) {ops : Array Oper} {rest : List Oper} {o : Oper} {a : Act} {Q : Exit → Act → World → Prop} (hgd : o.guard = none) (s x : Operand) (t u : TypeId)
    (ho : o.op = .call { callee := .builtin .append, args := #[s, x], argTypes := #[t, u] }) (e : TypeId) (i : TypeInfo) (ht : P.underlying t = some (.slice e)) (hu : P.underlying u = some .string) (hi : P.info? e = some i) (hz : i.zero = some (.int .u8 0)) (hs1 : i.size = 1) (hb1 : i.bytes = 1)
    (B : Nat) (bs : List UInt8) (v : Value) (hs : a.eval s = v) (hO : OwnG B bs v w) (hB : B ≤ w.heap.size) (hl : bs.length ≤ 100000) (h0 : 0 < bs.length) (z : ByteArray) (hx : a.eval x = .string z) (hsz : z.size ≤ 100000)
    (h : ∀ v' w', Grn B (bs ++ z.data.toList) v w v' w' → wpList P ops Q rest (a.put o.dst v') w') : wpList P ops Q (o :: rest) a w := by
  refine wpList_plain hgd fun K hK => ?_
  obtain ⟨v', w', hr, h2⟩ := run_appendG (P := P) w t u o.type e i ht hu hi hz hs1 hb1 B bs v hO hB hl z hsz h0
  unfold Oper.wp execOp
  simp only [ho, resolve, invoke, builtin, Sem.run_bind, Sem.run_pure, Result.andThen_ok, List.map_toArray, List.map_cons, List.map_nil, hs, hx, hr]
  exact hK _ _ (h v' w' h2)
/-- Back to a text. -/
theorem conv_backG {P : Program} {src dst e : TypeId} {B : Nat} {bs : List UInt8} {v : Value} {w : World} (hO : OwnG B bs v w) (hs : P.underlying src = some (.slice e)) (he : P.underlying e = some (.int .u8)) (hd : P.underlying dst = some .string) :
    (convert src dst v).run P w = .ok (.string ⟨bs.toArray⟩) w := by
  obtain ⟨g, cap, rfl, _, _, _, h4, _⟩ := hO
  exact run_convert_bytes_back w src dst e ⟨g, 0, none⟩ cap bs hs he hd fun j hj => by
    rw [Addr.add_lit, Nat.zero_add]
    exact h4 j _ (by unfold Lib.byteCells; rw [List.getElem?_map, List.getElem?_eq_getElem hj]; rfl)
/-- A text as bytes. -/
theorem conv_toG {P : Program} {src dst e : TypeId} (s : ByteArray) (w : World) {d : TypeDesc} (hs : P.underlying src = some d) (hd : P.underlying dst = some (.slice e)) (he : P.underlying e = some (.int .u8)) :
    ∃ v W, (convert src dst (.string s)).run P w = .ok v W ∧ OwnG w.heap.size s.data.toList v W ∧ Below w.heap.size w W := by
  have sl : s.data.toList.length = s.size := Array.length_toList
  have hge := grownCap_ge w s.size 0 e
  have hsz : (Lib.bytesCells w e s).size = grownCap w s.size 0 e := by
    unfold Lib.bytesCells
    rw [Array.size_append, Array.size_map, Array.size_replicate]
    show s.size + _ = _
    omega
  refine ⟨_, _, Lib.run_convert_string_bytes w src dst e s hs hd he, ⟨w.heap.size, _, by rw [sl], Nat.le_refl _, by rw [Lib.bytesWorld_size]; omega, by rw [sl]; exact hge, fun j u hj => ?_, fun j a b => ⟨?_, ?_⟩⟩, ?_⟩
  · have hlt : j < s.size := by have := (List.getElem?_eq_some_iff.1 hj).1; rw [byteC_len, sl] at this; exact this
    rw [Lib.bytesWorld_cell w e s j hlt, ← hj]
    unfold Lib.byteCells
    rw [List.getElem?_map, List.getD, List.getElem?_eq_getElem (by rw [sl]; exact hlt)]
    rfl
  · simp [World.cell?, Lib.bytesWorld_at_new, hsz, b]
  · simp only [World.frozen?, Lib.bytesWorld_at_new, hsz]
    simp
    omega
  · exact ⟨rfl, rfl, rfl, by rw [Lib.bytesWorld_size]; omega, fun k hk => Lib.bytesWorld_at_old w e s k hk⟩
end Go.Proofs.YtnbijfeidgddmaaGreatDoor

namespace Go.Proofs.YtnbijfeidgddmaaGreatDoor
open Go.ChangeShapes Go.WideShapes Go.ChangeAt Go.RowKit Go.Shelf

theorem info_by : (Tryz.prog.info? 5).map (fun i => (i.zero, i.size, i.bytes)) = some (some (.int .u8 0), 1, 1) := by kernel_rfl
theorem dec2_eqA {n : Nat} (h : n < 100) : (⟨(Lib.decDigits n).toArray⟩ : ByteArray) = dec2 n := by
  unfold dec2
  by_cases h1 : n < 10
  · rw [Lib.decDigits, dif_pos h1, if_pos h1]; rfl
  · rw [Lib.decDigits, dif_neg h1, if_neg h1, Lib.decDigits, dif_pos (by omega)]
    apply ByteArray.ext
    rw [ByteArray.data_append]
    rfl
theorem dec2_le {n : Nat} (_h : n < 100) : (dec2 n).size ≤ 2 := by
  unfold dec2
  split
  · exact (show 1 ≤ 2 by omega)
  · rw [ByteArray.size_append]; exact (show 1 + 1 ≤ 2 by omega)
theorem small_any (n : Nat) (hn : n < 100) (w : World) : Calls Tryz.prog 118 #[.int .i64 (n : Int)] w fun e w' => e = .returned (.string (dec2 n)) ∧ w' = w := by
  rw [← dec2_eqA hn]
  exact Any.internal_strconv_small Tryz.lays283 n hn w
/-- Bytes of the call's own are handed back. -/
def ByR (B : Nat) (bs : List UInt8) (v : Value) (w : World) (e : Ending) (w' : World) : Prop := ∃ v', e = .returned v' ∧ Grn B bs v w v' w'

set_option maxRecDepth 100000 in
set_option maxHeartbeats 1600000 in
theorem appU_any (B : Nat) (bs : List UInt8) (v : Value) (n : Nat) (hn : n < 100) (w : World) (hO : OwnG B bs v w) (hB : B ≤ w.heap.size) (hl : bs.length ≤ 100000) (h0 : 0 < bs.length) :
    Calls Tryz.prog 104 #[v, .int .u64 (n : Int), .int .i64 10] w (ByR B (bs ++ (dec2 n).data.toList) v w) := by
  obtain ⟨i0, hi, hz0, hz1, hz2⟩ := info_parts info_by
  have d1 : decide ((n : Int) < 100) = true := decide_eq_true (by omega)
  have x1 : IntKind.i64.wrap (n : Int) = (n : Int) := IntWalk.i64_in _ (by omega)
  have S := Lib.hid fun W => small_any n hn W
  have sz := dec2_le hn
  obtain ⟨g, cap, hv, h1⟩ := hO
  subst hv
  have OO := Lib.hid (show OwnG B bs (.slice (some ⟨g, 0, none⟩) bs.length cap) w from ⟨g, cap, rfl, h1⟩)
  clear h1
  go_enter Tryz.func104, Tryz.ntmps104
  go_wp2_with (first
    | (go_at_call 118; refine (S.out _).mono ?_; rintro e w1 ⟨rfl, hw⟩; subst hw)
    | (at_builtin; refine wp_pushS _ rfl _ _ 76 9 rfl 5 i0 Tryz.underlying76 Tryz.underlying9 hi hz0 hz1 hz2 B bs _ rfl OO.out hB hl h0 _ rfl (by omega) ?_; intro v2 w2 hO2; have O2 := Lib.hid hO2; clear hO2))
  go_ret
  exact ⟨_, rfl, O2.out⟩
set_option maxRecDepth 100000 in
set_option maxHeartbeats 1600000 in
theorem appI_any (B : Nat) (bs : List UInt8) (v : Value) (n : Nat) (hn : n < 100) (w : World) (hO : OwnG B bs v w) (hB : B ≤ w.heap.size) (hl : bs.length ≤ 100000) (h0 : 0 < bs.length) :
    Calls Tryz.prog 45 #[v, .int .i64 (n : Int), .int .i64 10] w (ByR B (bs ++ (dec2 n).data.toList) v w) := by
  have d1 : decide ((n : Int) < 0) = false := decide_eq_false (by omega)
  have x1 : IntKind.u64.wrap (n : Int) = (n : Int) := IntWalk.u64_in _ (by omega)
  have U := Lib.hid (appU_any B bs v n hn w hO hB hl h0)
  obtain ⟨g, cap, hv, h1⟩ := hO
  subst hv
  clear h1
  have I : Hid (Calls Tryz.prog 77 #[.slice (some ⟨g, 0, none⟩) bs.length cap, .int .i64 (n : Int), .int .i64 10] w (ByR B (bs ++ (dec2 n).data.toList) (.slice (some ⟨g, 0, none⟩) bs.length cap) w)) := by
    refine Lib.hid ?_
    go_enter Tryz.func77, Tryz.ntmps77
    go_wp2_with (go_at_call 104; refine U.out.mono ?_; rintro e w1 ⟨v1, rfl, hO1⟩; have O1 := Lib.hid hO1; clear hO1)
    go_ret
    exact ⟨_, rfl, O1.out⟩
  go_enter Tryz.func45, Tryz.ntmps45
  go_wp2_with (go_at_call 77; refine I.out.mono ?_; rintro e w1 ⟨v1, rfl, hO1⟩; have O1 := Lib.hid hO1; clear hO1)
  go_ret
  exact ⟨_, rfl, O1.out⟩
end Go.Proofs.YtnbijfeidgddmaaGreatDoor

namespace Go.Proofs.YtnbijfeidgddmaaGreatDoor
open Go.ChangeShapes Go.WideShapes Go.ChangeAt Go.RowKit

theorem wpow (m : Int) (h0 : 0 ≤ m) (h1 : m < 64) : IntKind.u64.wrap (2 ^ m.toNat) = 2 ^ m.toNat := by
  rw [IntKind.wrap_u64]
  have : (2 : Int) ^ m.toNat < 2 ^ 64 := by
    have h : m.toNat < 64 := by omega
    exact_mod_cast Nat.pow_lt_pow_right (by decide : 1 < 2) h
  have h3 : (0 : Int) ≤ 2 ^ m.toNat := Int.pow_nonneg (by decide)
  omega

/-- The two numbers of the mask of one hole. -/
def b0 (n : Int) : Int := if n < 64 then 2 ^ n.toNat else 0
def b1 (n : Int) : Int := if n < 64 then 0 else 2 ^ (n - 64).toNat
/-- The two numbers of a mask that is moved up. -/
def up0 (a n : Int) : Int := if n < 64 then IntKind.u64.wrap (a * 2 ^ n.toNat) else 0
def up1 (a b n : Int) : Int := if n < 64 then bits .or .u64 (IntKind.u64.wrap (b * 2 ^ n.toNat)) (a / 2 ^ (64 - n).toNat) else IntKind.u64.wrap (a * 2 ^ (n - 64).toNat)
/-- Is the hole n in the mask? -/
def hasB (a b n : Int) : Bool := if n < 64 then a / 2 ^ n.toNat % 2 == 1 else b / 2 ^ (n - 64).toNat % 2 == 1

theorem or_zero_zero : bits .or .u64 0 0 = 0 := by decide

theorem up0_one (n : Int) (h0 : 0 ≤ n) : up0 1 n = b0 n := by
  unfold up0 b0
  split
  · rw [Int.one_mul, wpow n h0 (by assumption)]
  · rfl
theorem up1_one (n : Int) (h0 : 0 ≤ n) (h1 : n ≤ 95) : up1 1 0 n = b1 n := by
  unfold up1 b1
  split
  · have h : (1 : Int) / 2 ^ (64 - n).toNat = 0 := by
      refine Int.ediv_eq_zero_of_lt (by decide) ?_
      have h : 1 ≤ (64 - n).toNat := by omega
      have : (2 : Int) ^ 1 ≤ 2 ^ (64 - n).toNat := by exact_mod_cast Nat.pow_le_pow_right (by decide : 0 < 2) h
      omega
    rw [h, Int.zero_mul, show IntKind.u64.wrap 0 = 0 from by decide, or_zero_zero]
  · rw [Int.one_mul, wpow (n - 64) (by omega) (by omega)]

theorem u64_b0 (n : Int) (h0 : 0 ≤ n) : U64 (b0 n) := by
  unfold b0
  split
  · refine ⟨Int.pow_nonneg (by decide), ?_⟩
    have h : n.toNat < 64 := by omega
    have : (2 : Int) ^ n.toNat < 2 ^ 64 := by exact_mod_cast Nat.pow_lt_pow_right (by decide : 1 < 2) h
    omega
  · exact ⟨by decide, by decide⟩
theorem u64_b1 (n : Int) (h1 : n ≤ 95) : U64 (b1 n) := by
  unfold b1
  split
  · exact ⟨by decide, by decide⟩
  · refine ⟨Int.pow_nonneg (by decide), ?_⟩
    have h : (n - 64).toNat < 64 := by omega
    have : (2 : Int) ^ (n - 64).toNat < 2 ^ 64 := by exact_mod_cast Nat.pow_lt_pow_right (by decide : 1 < 2) h
    omega

theorem and_zero_left (a : Int) (h : U64 a) : bits .and .u64 0 a = 0 := by
  rw [Go.u64_and 0 a (by decide) (by decide) h.1 h.2]; simp
theorem and_zero_right (a : Int) (h : U64 a) : bits .and .u64 a 0 = 0 := by
  rw [Go.u64_and a 0 h.1 h.2 (by decide) (by decide)]; simp

theorem and_bit (a : Int) (h : U64 a) (k : Nat) (hk : k < 64) : (bits .and .u64 (2 ^ k) a == 2 ^ k) = (a / 2 ^ k % 2 == 1) := by
  have hp : (0 : Int) ≤ 2 ^ k := Int.pow_nonneg (by decide)
  have hq : (2 : Int) ^ k < 18446744073709551616 := by
    have : (2 : Int) ^ k < 2 ^ 64 := by exact_mod_cast Nat.pow_lt_pow_right (by decide : 1 < 2) hk
    omega
  rw [Go.u64_and _ a hp hq h.1 h.2]
  obtain ⟨x, rfl⟩ := Int.eq_ofNat_of_zero_le h.1
  have e : ((2 : Int) ^ k).toNat = 2 ^ k := by rw [show ((2 : Int) ^ k) = ((2 ^ k : Nat) : Int) from by simp]; rfl
  rw [e, Int.toNat_natCast, Nat.and_comm, Go.nat_bit]
  have e2 : (x : Int) / 2 ^ k % 2 = ((x / 2 ^ k % 2 : Nat) : Int) := by simp
  rw [e2]
  have h2 : x / 2 ^ k % 2 = 0 ∨ x / 2 ^ k % 2 = 1 := by omega
  have h3 : 0 < 2 ^ k := Nat.pow_pos (by decide)
  rcases h2 with h2 | h2 <;> rw [h2]
  · simp; omega
  · simp

/-- The mask of a hole is within a mask if the hole is in it. -/
theorem within_bit (a b n : Int) (ha : U64 a) (hb : U64 b) (h0 : 0 ≤ n) (h1 : n ≤ 95) :
    (bits .and .u64 (b0 n) a == b0 n && bits .and .u64 (b1 n) b == b1 n) = hasB a b n := by
  unfold b0 b1 hasB
  by_cases h : n < 64
  · simp only [h, if_true]
    rw [and_zero_left b hb, and_bit a ha _ (by omega)]; simp
  · simp only [h, if_false]
    rw [and_zero_left a ha, and_bit b hb _ (by omega)]; simp

set_option maxHeartbeats 1600000 in
theorem iMoveUp_any (a b n : Int) (h0 : 0 ≤ n) (h1 : n ≤ 95) (w : World) :
    Calls Tryz.prog 75 #[.agg #[.int .u64 a, .int .u64 b], .int .i64 n] w fun e w' => e = .returned (.agg #[.int .u64 (up0 a n), .int .u64 (up1 a b n)]) ∧ Below w.heap.size w w' := by
  by_cases h : n < 64
  · have hd : decide (64 ≤ n) = false := by simp; omega
    have hs : IntKind.i64.wrap (64 - n) = 64 - n := IntWalk.i64_in _ (by omega)
    have hp : 0 ≤ 64 - n := by omega
    go_enter Tryz.func75, Tryz.ntmps75
    go_wp2
    go_region_held3 (fun w' => w'.cell? ⟨w.heap.size, 0, none⟩ = some (.int .u64 a) ∧ w'.cell? ⟨w.heap.size, 1, none⟩ = some (.int .u64 b)) (simp [go_sem]) (fail)
    all_goals go_wp2
    all_goals go_returns
    all_goals exact ⟨by unfold up0 up1; rw [if_pos h, if_pos h], (by repeat' (first | (with_reducible exact Below.refl _ _) | (with_reducible assumption) | (with_reducible refine below_drewN ?_ _) | (with_reducible refine Below.drew ?_) | (with_reducible refine below_new ?_ _) | (with_reducible refine below_next ?_ (by with_reducible assumption)) | (with_reducible refine Below.setCell ?_ ?_ _) | go_size))⟩
  · have hd : decide (64 ≤ n) = true := by simp; omega
    go_enter Tryz.func75, Tryz.ntmps75
    go_wp2
    go_returns
    exact ⟨by unfold up0 up1; rw [if_neg (by omega), if_neg (by omega)], (by repeat' (first | (with_reducible exact Below.refl _ _) | (with_reducible assumption) | (with_reducible refine below_drewN ?_ _) | (with_reducible refine Below.drew ?_) | (with_reducible refine below_new ?_ _) | (with_reducible refine below_next ?_ (by with_reducible assumption)) | (with_reducible refine Below.setCell ?_ ?_ _) | go_size))⟩

set_option maxHeartbeats 1600000 in
theorem iOne_any (n : Int) (h0 : 0 ≤ n) (h1 : n ≤ 95) (w : World) :
    Calls Tryz.prog 83 #[.int .i64 n] w fun e w' => e = .returned (.agg #[.int .u64 (b0 n), .int .u64 (b1 n)]) ∧ Below w.heap.size w w' := by
  have e0 := up0_one n h0
  have e1 := up1_one n h0 h1
  have H := Lib.hid e0
  have H1 := Lib.hid e1
  clear e0 e1
  go_enter Tryz.func83, Tryz.ntmps83
  go_wp2_with (go_at_call 75; refine (iMoveUp_any _ _ _ h0 h1 _).mono ?_; rintro e w1 ⟨rfl, hB⟩; obtain ⟨hc, hf, hz⟩ := bcell hB)
  rw [H.out, H1.out]
  refine bodyPost_ret (by simp [results, Tryz.results83, go_sem,  hc]; try rfl) rfl ?_
  exact ⟨rfl, (by repeat' (first | (with_reducible exact Below.refl _ _) | (with_reducible assumption) | (with_reducible refine below_drewN ?_ _) | (with_reducible refine Below.drew ?_) | (with_reducible refine below_new ?_ _) | (with_reducible refine below_next ?_ (by with_reducible assumption)) | (with_reducible refine Below.setCell ?_ ?_ _) | go_size))⟩

set_option maxHeartbeats 1600000 in
theorem sBit_any (n : Int) (h0 : 0 ≤ n) (h1 : n ≤ 95) (w : World) :
    Calls Tryz.prog 66 #[.int .i64 n] w fun e w' => e = .returned (.agg #[.int .u64 (b0 n), .int .u64 (b1 n)]) ∧ Below w.heap.size w w' := by
  by_cases h : n < 64
  · have hd : n / 64 = 0 := by omega
    have hm : n % 64 = n := by omega
    have hw := wpow n h0 h
    go_enter Tryz.func66, Tryz.ntmps66
    go_wp2
    go_returns
    exact ⟨by unfold b0 b1; rw [if_pos h, if_pos h], (by repeat' (first | (with_reducible exact Below.refl _ _) | (with_reducible assumption) | (with_reducible refine below_drewN ?_ _) | (with_reducible refine Below.drew ?_) | (with_reducible refine below_new ?_ _) | (with_reducible refine below_next ?_ (by with_reducible assumption)) | (with_reducible refine Below.setCell ?_ ?_ _) | go_size))⟩
  · obtain ⟨m, rfl⟩ : ∃ m, n = 64 + m := ⟨n - 64, by omega⟩
    have g0 : 0 ≤ m := by omega
    have g1 : m ≤ 31 := by omega
    have hd : (64 + m) / 64 = 1 := by omega
    have hm : (64 + m) % 64 = m := by omega
    have hw := wpow m g0 (by omega)
    go_enter Tryz.func66, Tryz.ntmps66
    go_wp2
    go_returns
    exact ⟨by unfold b0 b1; rw [if_neg (by omega), if_neg (by omega), show 64 + m - 64 = m from by omega], (by repeat' (first | (with_reducible exact Below.refl _ _) | (with_reducible assumption) | (with_reducible refine below_drewN ?_ _) | (with_reducible refine Below.drew ?_) | (with_reducible refine below_new ?_ _) | (with_reducible refine below_next ?_ (by with_reducible assumption)) | (with_reducible refine Below.setCell ?_ ?_ _) | go_size))⟩

set_option maxHeartbeats 1600000 in
theorem sHas_any (a b n : Int) (ha : U64 a) (hb : U64 b) (h0 : 0 ≤ n) (h1 : n ≤ 95) (w : World) :
    Calls Tryz.prog 122 #[.agg #[.int .u64 a, .int .u64 b], .int .i64 n] w fun e w' => e = .returned (.bool (hasB a b n)) ∧ Below w.heap.size w w' := by
  by_cases h : n < 64
  · have hd : n / 64 = 0 := by omega
    have hm : n % 64 = n := by omega
    have ht : (a / 2 ^ n.toNat).tmod 2 = a / 2 ^ n.toNat % 2 := Int.tmod_eq_emod_of_nonneg (Int.ediv_nonneg ha.1 (Int.pow_nonneg (by decide)))
    go_enter Tryz.func122, Tryz.ntmps122
    go_wp2
    go_returns
    exact ⟨by unfold hasB; rw [if_pos h]; simp , (by repeat' (first | (with_reducible exact Below.refl _ _) | (with_reducible assumption) | (with_reducible refine below_drewN ?_ _) | (with_reducible refine Below.drew ?_) | (with_reducible refine below_new ?_ _) | (with_reducible refine below_next ?_ (by with_reducible assumption)) | (with_reducible refine Below.setCell ?_ ?_ _) | go_size))⟩
  · obtain ⟨m, rfl⟩ : ∃ m, n = 64 + m := ⟨n - 64, by omega⟩
    have g0 : 0 ≤ m := by omega
    have g1 : m ≤ 31 := by omega
    have hd : (64 + m) / 64 = 1 := by omega
    have hm : (64 + m) % 64 = m := by omega
    have ht : (b / 2 ^ m.toNat).tmod 2 = b / 2 ^ m.toNat % 2 := Int.tmod_eq_emod_of_nonneg (Int.ediv_nonneg hb.1 (Int.pow_nonneg (by decide)))
    go_enter Tryz.func122, Tryz.ntmps122
    go_wp2
    go_returns
    exact ⟨by unfold hasB; rw [if_neg (by omega), show 64 + m - 64 = m from by omega]; simp , (by repeat' (first | (with_reducible exact Below.refl _ _) | (with_reducible assumption) | (with_reducible refine below_drewN ?_ _) | (with_reducible refine Below.drew ?_) | (with_reducible refine below_new ?_ _) | (with_reducible refine below_next ?_ (by with_reducible assumption)) | (with_reducible refine Below.setCell ?_ ?_ _) | go_size))⟩
end Go.Proofs.YtnbijfeidgddmaaGreatDoor

namespace Go.Proofs.YtnbijfeidgddmaaGreatDoor
open Go.ChangeShapes Go.WideShapes Go.ChangeAt Go.RowKit

/-- The numbers below k of which a test says yes. -/
def hol (f : Int → Bool) (k : Nat) : List Int := ((List.range k).map fun i : Nat => (i : Int)).filter f
theorem hol_zero (f : Int → Bool) : hol f 0 = [] := rfl
theorem hol_yes {f : Int → Bool} {k : Nat} (h : f (k : Int) = true) : hol f (k + 1) = hol f k ++ [(k : Int)] := by
  unfold hol; rw [List.range_succ, List.map_append, List.filter_append]; simp [h]
theorem hol_no {f : Int → Bool} {k : Nat} (h : f (k : Int) = false) : hol f (k + 1) = hol f k := by
  unfold hol; rw [List.range_succ, List.map_append, List.filter_append]; simp [h]
theorem hol_len (f : Int → Bool) (k : Nat) : (hol f k).length ≤ k := by
  unfold hol
  have := List.length_filter_le f ((List.range k).map fun i : Nat => (i : Int))
  simpa using this
theorem one_new (w : World) (x : Value) (t : TypeId) : ∀ j u, [x][j]? = some u → (w.alloc (.cells #[x] t)).cell? ((⟨w.heap.size, 0, none⟩ : Addr).add j) = some u := by
  intro j u h
  cases j with
  | zero => simp at h; subst h; simp [Addr.add]
  | succ => simp at h
theorem own_push {B : Nat} {zs : List Int} {x : Int} {v : Value} {w : World} (h : w.ownsRow B 2 1 v (zs.length + 1) (zs.map (Value.int .i64) ++ [.int .i64 x])) : OwnInts B (zs ++ [x]) v w := by unfold OwnInts; simpa using h
theorem own_lt {B : Nat} {zs : List Int} {v : Value} {w : World} (h : OwnInts B zs v w) : ∀ j, v.ownBlock = some j → B ≤ j := fun j hj => (World.ownsRow.lt h j hj).1

theorem own_none {w : World} {n B : Nat} (hn : n = w.heap.size) (hB : B ≤ w.heap.size) : OwnInts B [] (.slice (some ⟨n, 0, none⟩) 0 0) (w.alloc (.cells #[] 2)) := by
  subst hn; exact World.ownsRow_made w #[] 0 hB (Nat.zero_le _) rfl

set_option maxHeartbeats 1600000 in
theorem sHoles_any (a b : Int) (ha : U64 a) (hb : U64 b) (w : World) :
    Calls Tryz.prog 105 #[.agg #[.int .u64 a, .int .u64 b]] w fun e w' => ∃ v, e = .returned v ∧ OwnInts w.heap.size (hol (hasB a b) 96) v w' ∧ Below w.heap.size w w' := by
  obtain ⟨i0, hi, hz0, hz1, hz2⟩ := info_parts info_i64
  have H := Lib.hid fun (k : Nat) (h : k ≤ 95) W => sHas_any a b (k : Int) ha hb (by omega) (by omega) W
  clear ha hb
  go_enter Tryz.func105, Tryz.ntmps105
  go_wp2
  go_loopw [3, 4] (fun v i wr => ∃ k : Nat, k ≤ 96 ∧ i = .int .i64 k ∧ OwnInts (w.heap.size + 1) (hol (hasB a b) k) v wr ∧ wr.cell? ⟨w.heap.size, 0, none⟩ = some (.int .u64 a) ∧ wr.cell? ⟨w.heap.size, 1, none⟩ = some (.int .u64 b) ∧ w.heap.size + 1 ≤ wr.heap.size ∧ Below w.heap.size w wr)
    (fun _ i _ => 96 - (intOf i).toNat)
  case atStart => exact ⟨0, Nat.zero_le _, rfl, own_none (by simp) (by simp), by simp, by simp, by simp, (by repeat' (first | (with_reducible exact Below.refl _ _) | (with_reducible assumption) | (with_reducible refine below_drewN ?_ _) | (with_reducible refine Below.drew ?_) | (with_reducible refine below_new ?_ _) | (with_reducible refine below_next ?_ (by with_reducible assumption)) | (with_reducible refine Below.setCell ?_ ?_ _) | go_size))⟩
  case round =>
    obtain ⟨k, hk, rfl, O, c0, c1, hsz, hB⟩ := hrel
    by_cases hkl : k < 96
    · have hd : decide ((k : Int) < 96) = true := by simp; omega
      have hl := hol_len (hasB a b) k
      have K := Lib.hid (H.out k (by omega))
      have BB := Lib.hid hB
      have OO := Lib.hid O
      clear O
      cases q : hasB a b (k : Int)
      · rw [q] at K
        have hn := Lib.hid (hol_no (f := hasB a b) (k := k) q)
        clear q
        go_wp2_with (go_at_call 122; refine (K.out _).mono ?_; rintro e w1 ⟨rfl, hB1⟩; have B1 := Lib.hid hB1; have k0 := (hB1.cell (by first | omega | (simp; omega))).trans c0; have k1 := (hB1.cell (by first | omega | (simp; omega))).trans c1; have s1 := hB1.size; clear hB1)
        exact ⟨⟨k + 1, hkl, by rw [Int.natCast_succ], by rw [hn.out]; exact ownInts_kept OO.out B1.out, k0, k1, by omega, below_next BB.out B1.out⟩, by simp [intOf]; omega⟩
      · rw [q] at K
        have hn := Lib.hid (hol_yes (f := hasB a b) (k := k) q)
        clear q
        go_wp2_with (first
          | (go_at_call 122; refine (K.out _).mono ?_; rintro e w1 ⟨rfl, hB1⟩; have B1 := Lib.hid hB1; have k0 := (hB1.cell (by first | omega | (simp; omega))).trans c0; have k1 := (hB1.cell (by first | omega | (simp; omega))).trans c1; have s1 := hB1.size; have O1 := Lib.hid (ownInts_kept OO.out hB1); clear hB1)
          | (at_builtin; refine wpList_append_own _ rfl _ _ 92 rfl (w.heap.size + 1) 2 i0 (.int .i64 0) 1 8 Tryz.underlying92 hi hz0 hz1 hz2 rfl (by decide) _ _ _ rfl (O1.out.alloc _) ⟨w1.heap.size, 0, none⟩ 1 1 [.int .i64 (k : Int)] rfl rfl (one_new _ _ _) (fun x hx => by simp at hx; subst hx; rfl) (by unfold maxLen; omega) (by omega) (by simp; omega) ?_; intro v' w2 hown hgrow _; have P := Lib.hid (own_push hown); have G := Lib.hid hgrow; clear hown hgrow))
        have hb2 : Below (w.heap.size + 1) (w1.alloc (.cells #[.int .i64 (k : Int)] 2)) w2 := Below.grown (Below.refl _ _) G.out (by simp; omega) (own_lt O1.out)
        have e0 : w2.cell? ⟨w.heap.size, 0, none⟩ = some (.int .u64 a) := (hb2.cell (Nat.lt_succ_self _)).trans (by rw [World.cell?_alloc_past (hn := by omega)]; exact k0)
        have e1 : w2.cell? ⟨w.heap.size, 1, none⟩ = some (.int .u64 b) := (hb2.cell (Nat.lt_succ_self _)).trans (by rw [World.cell?_alloc_past (hn := by omega)]; exact k1)
        have s2 := hb2.size
        simp at s2
        refine ⟨⟨k + 1, hkl, by rw [Int.natCast_succ], by rw [hn.out]; exact P.out, e0, e1, by omega, ?_⟩, by simp [intOf]; omega⟩
        exact ((below_next BB.out B1.out).alloc (by omega) _).trans (hb2.mono (by omega))
    · have e : k = 96 := by omega
      subst e
      have OO := Lib.hid O
      clear O
      go_wp2
      go_ret
      exact ⟨_, rfl, ⟨OO.out.1, OO.out.2.imp id fun ⟨g, cap, cur, h1, h2, h3⟩ => ⟨g, cap, cur, h1, by omega, h3⟩⟩, hB⟩
end Go.Proofs.YtnbijfeidgddmaaGreatDoor

namespace Go.Proofs.YtnbijfeidgddmaaGreatDoor
open Go.ChangeShapes Go.WideShapes Go.ChangeAt Go.RowKit

theorem and_i64_127 (n : Nat) (h : n < 9223372036854775808) : bits .and .i64 (n : Int) 127 = ((n % 128 : Nat) : Int) := by
  show IntKind.i64.wrap ((BitVec.ofInt 64 (n : Int) &&& BitVec.ofInt 64 127).toNat : Int) = _
  have h1 : (BitVec.ofInt 64 (n : Int)).toNat = n := by
    rw [BitVec.ofInt_natCast, BitVec.toNat_ofNat]; exact Nat.mod_eq_of_lt (by omega)
  have h2 : (BitVec.ofInt 64 127).toNat = 127 := by decide
  rw [BitVec.toNat_and, h1, h2, show (127 : Nat) = 2 ^ 7 - 1 from rfl, Nat.and_two_pow_sub_one_eq_mod]
  exact IntWalk.i64_in _ (by omega)

set_option maxHeartbeats 800000 in
theorem ones_any (x : Nat) (hx : x < 18446744073709551616) (w : World) :
    Calls Tryz.prog 108 #[.int .u64 (x : Int)] w fun e w' => e = .returned (.int .i64 (M.pop 64 x : Int)) ∧ w = w' := by
  obtain ⟨y1, e1⟩ : ∃ y, y = (x / 2 &&& 6148914691236517205) + (x &&& 6148914691236517205) := ⟨_, rfl⟩
  obtain ⟨y2, e2⟩ : ∃ y, y = (y1 / 4 &&& 3689348814741910323) + (y1 &&& 3689348814741910323) := ⟨_, rfl⟩
  obtain ⟨y3, e3⟩ : ∃ y, y = (y2 / 16 + y2) &&& 1085102592571150095 := ⟨_, rfl⟩
  obtain ⟨y4, e4⟩ : ∃ y, y = y3 + y3 / 256 := ⟨_, rfl⟩
  obtain ⟨y5, e5⟩ : ∃ y, y = y4 + y4 / 65536 := ⟨_, rfl⟩
  obtain ⟨y6, e6⟩ : ∃ y, y = y5 + y5 / 4294967296 := ⟨_, rfl⟩
  obtain ⟨hr, b1, b2, b2', b3, b4, b5, b6⟩ := M.swar x y1 y2 y3 y4 y5 y6 e1 e2 e3 e4 e5 e6
  have cd : ∀ (p : Nat) (k : Nat), ((p : Int) / (k : Int)) = ((p / k : Nat) : Int) := fun p k => (Int.natCast_ediv p k).symm
  have and' : ∀ p q : Nat, p < 18446744073709551616 → q < 18446744073709551616 → bits .and .u64 (p : Int) (q : Int) = ((p &&& q : Nat) : Int) := fun p q hp hq => Go.u64_and_nat p q hp hq
  have wr : ∀ p : Nat, p < 18446744073709551616 → IntKind.u64.wrap (p : Int) = p := fun p hp => IntWalk.u64_in _ ⟨by omega, by omega⟩
  have f1 : IntKind.u64.wrap (bits .and .u64 ((x : Int) / 2) 6148914691236517205 + bits .and .u64 (x : Int) 6148914691236517205) = (y1 : Int) := by
    have a1 := and' (x / 2) 6148914691236517205 (by omega) (by decide)
    have a2 := and' x 6148914691236517205 hx (by decide)
    have c := cd x 2
    simp only [Int.cast_ofNat_Int] at a1 a2 c
    rw [c, a1, a2, ← Int.natCast_add, ← e1]; exact wr y1 b1
  have f2 : IntKind.u64.wrap (bits .and .u64 ((y1 : Int) / 4) 3689348814741910323 + bits .and .u64 (y1 : Int) 3689348814741910323) = (y2 : Int) := by
    have a1 := and' (y1 / 4) 3689348814741910323 (by omega) (by decide)
    have a2 := and' y1 3689348814741910323 b1 (by decide)
    have c := cd y1 4
    simp only [Int.cast_ofNat_Int] at a1 a2 c
    rw [c, a1, a2, ← Int.natCast_add, ← e2]; exact wr y2 b2
  have f3 : bits .and .u64 (IntKind.u64.wrap ((y2 : Int) / 16 + (y2 : Int))) 1085102592571150095 = (y3 : Int) := by
    have a1 := and' (y2 / 16 + y2) 1085102592571150095 b2' (by decide)
    have c := cd y2 16
    simp only [Int.cast_ofNat_Int] at a1 c
    rw [c, ← Int.natCast_add, wr _ b2', a1, ← e3]
  have f4 : IntKind.u64.wrap ((y3 : Int) + (y3 : Int) / 256) = (y4 : Int) := by
    have c := cd y3 256
    simp only [Int.cast_ofNat_Int] at c
    rw [c, ← Int.natCast_add, ← e4]; exact wr y4 b4
  have f5 : IntKind.u64.wrap ((y4 : Int) + (y4 : Int) / 65536) = (y5 : Int) := by
    have c := cd y4 65536
    simp only [Int.cast_ofNat_Int] at c
    rw [c, ← Int.natCast_add, ← e5]; exact wr y5 b5
  have f6 : IntKind.u64.wrap ((y5 : Int) + (y5 : Int) / 4294967296) = (y6 : Int) := by
    have c := cd y5 4294967296
    simp only [Int.cast_ofNat_Int] at c
    rw [c, ← Int.natCast_add, ← e6]; exact wr y6 (by omega)
  have f7 : IntKind.i64.wrap (y6 : Int) = (y6 : Int) := IntWalk.i64_in _ (by omega)
  have f8 : bits .and .i64 (y6 : Int) 127 = (M.pop 64 x : Int) := by rw [and_i64_127 y6 b6, hr]
  clear e1 e2 e3 e4 e5 e6 hr b1 b2 b2' b3 b4 b5 b6 cd and' wr hx
  go_enter Tryz.func108, Tryz.ntmps108
  go_wp2
  go_returns
  exact ⟨rfl, rfl⟩

/-- How many bits of a mask are set. -/
def cnt (x y : Nat) : Nat := M.pop 64 x + M.pop 64 y
theorem cnt_le (x y : Nat) : cnt x y ≤ 128 := by have := M.pop_le 64 x; have := M.pop_le 64 y; unfold cnt; omega

set_option maxHeartbeats 800000 in
theorem iCount_any (x y : Nat) (hx : x < 18446744073709551616) (hy : y < 18446744073709551616) (w : World) :
    Calls Tryz.prog 87 #[.agg #[.int .u64 (x : Int), .int .u64 (y : Int)]] w fun e w' => e = .returned (.int .i64 (cnt x y : Int)) ∧ Below w.heap.size w w' := by
  have ox := fun W => ones_any x hx W
  have oy := fun W => ones_any y hy W
  have p1 := M.pop_le 64 x
  have p2 := M.pop_le 64 y
  have s1 : IntKind.i64.wrap ((M.pop 64 x : Int) + (M.pop 64 y : Int)) = (M.pop 64 x : Int) + (M.pop 64 y : Int) := IntWalk.i64_in _ (by omega)
  have X := Lib.hid ox
  have Y := Lib.hid oy
  clear ox oy hx hy
  go_enter Tryz.func87, Tryz.ntmps87
  go_wp2_with fail
  go_region_held3 (fun w' => w'.cell? ⟨w.heap.size, 0, none⟩ = some (.int .u64 (x : Int)) ∧ w'.cell? ⟨w.heap.size, 1, none⟩ = some (.int .u64 (y : Int)))
    (first | (refine ⟨?_, ?_⟩ <;> first | (simp; done) | (simp [go_sem]; done)))
    (first | (go_at_call_of 108 (Value.int IntKind.u64 (x : Int)); refine (X.out _).mono ?_; rintro e w1 ⟨rfl, rfl⟩) | (go_at_call_of 108 (Value.int IntKind.u64 (y : Int)); refine (Y.out _).mono ?_; rintro e w1 ⟨rfl, rfl⟩))
  all_goals go_wp2
  all_goals go_returns
  all_goals exact ⟨congrArg (fun n : Int => Ending.returned (.int .i64 n)) (by unfold cnt; simp), (by repeat' (first | (with_reducible exact Below.refl _ _) | (with_reducible assumption) | (with_reducible refine below_drewN ?_ _) | (with_reducible refine Below.drew ?_) | (with_reducible refine below_new ?_ _) | (with_reducible refine below_next ?_ (by with_reducible assumption)) | (with_reducible refine Below.setCell ?_ ?_ _) | go_size))⟩

theorem pop_half (u : Nat) (h : u < 18446744073709551616) : M.pop 64 u = u % 2 + M.pop 64 (u / 2) := by
  have e : M.pop 64 (u / 2) = M.pop 63 (u / 2) := by
    have := M.pop_add 63 1 (u / 2)
    rw [this, show u / 2 / 2 ^ 63 = 0 from by omega]
    simp [M.pop]
  rw [e]; rfl

theorem tdiv_two (u : Nat) : ((u : Int)).tdiv 2 = ((u / 2 : Nat) : Int) := by
  rw [Int.tdiv_eq_ediv_of_nonneg (by omega)]; omega
theorem tmod_two (u : Nat) : ((u : Int)).tmod 2 = ((u % 2 : Nat) : Int) := by
  rw [Int.tmod_eq_emod_of_nonneg (by omega)]; omega

end Go.Proofs.YtnbijfeidgddmaaGreatDoor

namespace Go.Proofs.YtnbijfeidgddmaaGreatDoor
open Go.ChangeShapes Go.WideShapes Go.ChangeAt Go.RowKit

theorem and_one (x : Int) (h : U64 x) : bits .and .u64 x 1 = x % 2 := by
  rw [Go.u64_and x 1 h.1 h.2 (by decide) (by decide)]
  obtain ⟨n, rfl⟩ := Int.eq_ofNat_of_zero_le h.1
  simp only [Int.toNat_natCast]
  rw [show (1 : Int).toNat = 1 from rfl, Nat.and_one_is_mod]; omega
theorem u64_div (x : Int) (h : U64 x) (k : Nat) : U64 (x / 2 ^ k) := by
  have hp : (0 : Int) < 2 ^ k := Int.pow_pos (by decide)
  refine ⟨Int.ediv_nonneg h.1 (by omega), ?_⟩
  have := Int.ediv_le_self (2 ^ k) h.1
  have := h.2
  omega
theorem has_lo (a b : Int) (k : Nat) (h : k < 64) : hasB a b (k : Int) = (a / 2 ^ k % 2 == 1) := by
  unfold hasB; rw [if_pos (by omega)]; simp
theorem has_hi (a b : Int) (k : Nat) : hasB a b ((64 + k : Nat) : Int) = (b / 2 ^ k % 2 == 1) := by
  unfold hasB; rw [if_neg (by omega), show (((64 + k : Nat) : Int) - 64).toNat = k from by omega]
/-- Nothing above. -/
theorem div_zero_up (x : Int) (h0 : 0 ≤ x) (k i : Nat) (hk : x / 2 ^ k = 0) (hi : k ≤ i) : x / 2 ^ i = 0 := by
  have hp : (0 : Int) < 2 ^ k := Int.pow_pos (by decide)
  have h1 : x < 2 ^ k := by
    have e := Int.mul_ediv_add_emod x (2 ^ k)
    rw [hk, Int.mul_zero, Int.zero_add] at e
    have := Int.emod_lt_of_pos x hp
    omega
  have h2 : (2 : Int) ^ k ≤ 2 ^ i := by exact_mod_cast Nat.pow_le_pow_right (by decide) hi
  exact Int.ediv_eq_zero_of_lt h0 (by omega)
theorem hol_flat (f : Int → Bool) (k : Nat) : ∀ n, (∀ i, k ≤ i → i < k + n → f (i : Int) = false) → hol f (k + n) = hol f k
  | 0, _ => rfl
  | n + 1, h => by
    rw [← Nat.add_assoc, hol_no (h (k + n) (by omega) (by omega))]
    exact hol_flat f k n (fun i h1 h2 => h i h1 (by omega))
theorem lo_end (a b : Int) (ha : U64 a) (k : Nat) (hk : k ≤ 64) (h : a / 2 ^ k = 0) : hol (hasB a b) 64 = hol (hasB a b) k := by
  have := hol_flat (hasB a b) k (64 - k) (fun i h1 h2 => by rw [has_lo a b i (by omega), div_zero_up a ha.1 k i h h1]; rfl)
  rwa [show k + (64 - k) = 64 from by omega] at this
theorem hi_end (a b : Int) (hb : U64 b) (k : Nat) (hk : k ≤ 32) (h : b / 2 ^ k = 0) : hol (hasB a b) 96 = hol (hasB a b) (64 + k) := by
  have := hol_flat (hasB a b) (64 + k) (32 - k) (fun i h1 h2 => by
    obtain ⟨j, rfl⟩ : ∃ j, i = 64 + j := ⟨i - 64, by omega⟩
    rw [has_hi a b j, div_zero_up b hb.1 k j h (by omega)]; rfl)
  rwa [show 64 + k + (32 - k) = 96 from by omega] at this
theorem div_max (x : Int) (h : 0 ≤ x) (k : Nat) (hx : x < 2 ^ k) : x / 2 ^ k = 0 := Int.ediv_eq_zero_of_lt h hx

set_option maxRecDepth 100000 in
set_option maxHeartbeats 1600000 in
theorem iHoles_ok (a b : Nat) (ha : a < 18446744073709551616) (hb : b < 4294967296) (w : World) :
    Calls Tryz.prog 54 #[.agg #[.int .u64 (a : Int), .int .u64 (b : Int)]] w fun e w' => ∃ v, e = .returned (.tuple #[v, .int .i64 0]) ∧ OwnInts w.heap.size (hol (hasB a b) 96) v w' ∧ Below w.heap.size w w' := by
  obtain ⟨i0, hi, hz0, hz1, hz2⟩ := info_parts info_i64
  have C := Lib.hid fun W => iCount_any a b ha (by omega) W
  have cl := cnt_le a b
  have hv : (((b : Int)) / 4294967296 == 0) = true := by simp; omega
  have A := Lib.hid ha
  have B := Lib.hid hb
  clear ha hb
  go_enter Tryz.func54, Tryz.ntmps54
  go_wp2_with fail
  go_step3
  go_wp2_with (first
    | (go_at_call 87; refine (C.out _).mono ?_; rintro e w1 ⟨rfl, hB⟩; have B1 := Lib.hid hB; have c0 : w1.cell? ⟨w.heap.size, 0, none⟩ = some (.int .u64 (a : Int)) := (hB.cell (box2_lt0 ..)).trans (box2_0 ..); have c1 : w1.cell? ⟨w.heap.size, 1, none⟩ = some (.int .u64 (b : Int)) := (hB.cell (box2_lt0 ..)).trans (box2_0 ..); have s1 : w.heap.size + 1 ≤ w1.heap.size := (by have := hB.size; simp at this; omega); clear hB)
    | (at_make; refine wpList_make_own _ rfl _ _ 92 rfl (w.heap.size + 1) 2 i0 (.int .i64 0) 1 Tryz.underlying92 hi hz0 hz1 .i64 .i64 _ (cnt a b) rfl rfl rfl (by rw [hz2]; omega) (by unfold maxLen; omega) (by omega) ?_; intro w2 hown hgrow; have O2 := Lib.hid hown; have G2 := Lib.hid hgrow; clear hown hgrow)
    | go_in)
  have O3 : OwnInts (w.heap.size + 1) (hol (hasB a b) 0) (.slice (some ⟨w1.heap.size, 0, none⟩) 0 (cnt a b)) w2 := O2.out
  have bw2 : Below w1.heap.size w1 w2 := Below.grown (Below.refl _ _) G2.out (Nat.le_refl _) (fun j hj => by cases hj)
  have b2 : Below w.heap.size w w2 := below_next (below_next (below_new (below_new (Below.refl _ _) _) _) B1.out) bw2
  have s2 := bw2.size
  have e0 : w2.cell? ⟨w.heap.size, 0, none⟩ = some (.int .u64 (a : Int)) := (bw2.cell (show w.heap.size < w1.heap.size by omega)).trans c0
  have e1 : w2.cell? ⟨w.heap.size, 1, none⟩ = some (.int .u64 (b : Int)) := (bw2.cell (show w.heap.size < w1.heap.size by omega)).trans c1
  have O4 := Lib.hid O3
  have B4 := Lib.hid b2
  clear hv c0 c1 O2 G2 B1 O3 bw2 b2 C
  have ix0 : ∀ w, (Instr.index 51 (.agg #[.int .u64 (a : Int), .int .u64 (b : Int)]) (.int .i64 0)).run Tryz.prog w = .ok (.int .u64 (a : Int)) w := fun _ => by kernel_rfl
  have ix1 : ∀ w, (Instr.index 51 (.agg #[.int .u64 (a : Int), .int .u64 (b : Int)]) (.int .i64 1)).run Tryz.prog w = .ok (.int .u64 (b : Int)) w := fun _ => by kernel_rfl
  go_step3
  go_wp2_with fail
  refine wp_loop_rounds 3 ?_
  rw [rounds_succ]; go_wp2_with fail
  go_loopw [4, 7] (fun v i wr => ∃ k : Nat, k ≤ 64 ∧ i = .int .i64 k ∧ OwnInts (w.heap.size + 1) (hol (hasB a b) k) v wr ∧ w.heap.size + 1 ≤ wr.heap.size ∧ Below w.heap.size w wr) (fun _ i _ => 64 - (intOf i).toNat)
  case atStart => exact ⟨0, Nat.zero_le _, rfl, O4.out, by omega, B4.out⟩
  case round =>
    obtain ⟨k, hk, rfl, O, hsz, hB⟩ := hrel
    have O5 := Lib.hid O
    have B5 := Lib.hid hB
    clear O hB
    have wu : U64 (a : Int) := ⟨by omega, by have := A.out; have := B.out; omega⟩
    have du := u64_div (a : Int) wu k
    have hl := hol_len (hasB a b) (k)
    by_cases hq : (a : Int) / 2 ^ k = 0
    · have q1 : ((a : Int) / 2 ^ k == 0) = true := by simp [hq]
      have E := Lib.hid (lo_end a b wu k hk hq)
      clear hq wu du
      have O6 : Hid (OwnInts (w.heap.size + 1) (hol (hasB a b) (64 + 0)) u4 wr) := Lib.hid (by rw [Nat.add_zero, E.out]; exact O5.out)
      go_wp2_with fail
      rw [rounds_succ]; go_wp2_with fail
      have B6 := B5
      clear O4 B4 O5 B5
      have O4 := O6
      have B4 := B6
      clear O6 B6 E q1
      obtain ⟨wo, rfl⟩ : ∃ wo : World, wo = wr := ⟨_, rfl⟩
      go_loopw [4, 7] (fun v i wr => ∃ k : Nat, k ≤ 32 ∧ i = .int .i64 k ∧ OwnInts (w.heap.size + 1) (hol (hasB a b) (64 + k)) v wr ∧ w.heap.size + 1 ≤ wr.heap.size ∧ Below w.heap.size w wr) (fun _ i _ => 32 - (intOf i).toNat)
      case atStart => exact ⟨0, Nat.zero_le _, rfl, O4.out, by omega, B4.out⟩
      case round =>
        obtain ⟨k, hk, rfl, O, hsz, hB⟩ := hrel
        have O5 := Lib.hid O
        have B5 := Lib.hid hB
        clear O hB
        have wu : U64 (b : Int) := ⟨by omega, by have := A.out; have := B.out; omega⟩
        have du := u64_div (b : Int) wu k
        have hl := hol_len (hasB a b) (64 + k)
        by_cases hq : (b : Int) / 2 ^ k = 0
        · have q1 : ((b : Int) / 2 ^ k == 0) = true := by simp [hq]
          have E := Lib.hid (hi_end a b ⟨by omega, by have := B.out; omega⟩ k hk hq)
          clear hq wu du
          go_wp2_with fail
          rw [rounds_succ]; go_wp2_with fail
          (try rw [Exit.noGoto_ret])
          go_ret2
          exact ⟨_, rfl, by rw [E.out]; exact ⟨O5.out.1, O5.out.2.imp id fun ⟨g, cap, cur, h1, h2, h3⟩ => ⟨g, cap, cur, h1, by omega, h3⟩⟩, B5.out⟩
        · have q1 : ((b : Int) / 2 ^ k == 0) = false := by simp [hq]
          have hkl : k < 32 := by
            rcases Nat.lt_or_ge k 32 with h | h
            · exact h
            · exact absurd (div_max (b : Int) wu.1 k (by rw [show k = 32 from by omega]; have := A.out; have := B.out; omega)) hq
          have ao := and_one _ du
          have DU := Lib.hid du
          clear hq wu du
          have v1 : IntKind.i64.wrap ((k : Int) + 1) = (k : Int) + 1 := IntWalk.i64_in _ (by omega)
          have v2 : IntKind.i64.wrap (64 + (k : Int)) = 64 + (k : Int) := IntWalk.i64_in _ (by omega)
          cases q2 : ((b : Int) / 2 ^ k % 2 == 1)
          · have q3 : (bits .and .u64 ((b : Int) / 2 ^ k) 1 == 1) = false := by rw [ao]; exact q2
            have hn := Lib.hid (hol_no (f := hasB a b) (k := 64 + k) (by rw [has_hi a b k]; exact q2))
            clear ao q2
            go_wp2_with fail
            exact ⟨⟨k + 1, hkl, by rw [Int.natCast_succ], by first | (rw [hn.out]; exact O5.out) | (rw [← Nat.add_assoc, hn.out]; exact O5.out), hsz, B5.out⟩, by simp [intOf]; omega⟩
          · have q3 : (bits .and .u64 ((b : Int) / 2 ^ k) 1 == 1) = true := by rw [ao]; exact q2
            have hn := Lib.hid (hol_yes (f := hasB a b) (k := 64 + k) (by rw [has_hi a b k]; exact q2))
            clear ao q2
            go_wp2_with (at_builtin; refine wpList_append_own _ rfl _ _ 92 rfl (w.heap.size + 1) 2 i0 (.int .i64 0) 1 8 Tryz.underlying92 hi hz0 hz1 hz2 rfl (by decide) _ _ _ rfl (O5.out.alloc _) ⟨wr.heap.size, 0, none⟩ 1 1 [.int .i64 (64 + (k : Int))] rfl rfl (one_new _ _ _) (fun x hx => by simp at hx; subst hx; rfl) (by unfold maxLen; omega) (by omega) (by simp; omega) ?_; intro v' w3 hown hgrow _; have P := Lib.hid (own_push hown); have G := Lib.hid hgrow; clear hown hgrow)
            have hb2 : Below (w.heap.size + 1) (wr.alloc (.cells #[.int .i64 (64 + (k : Int))] 2)) w3 := Below.grown (Below.refl _ _) G.out (by simp; omega) (own_lt O5.out)
            have s3 := hb2.size
            simp at s3
            exact ⟨⟨k + 1, hkl, by rw [Int.natCast_succ], by first | (rw [hn.out]; exact P.out) | (rw [← Nat.add_assoc, hn.out]; have p := P.out; simpa using p), by omega, (B5.out.alloc (by omega) _).trans (hb2.mono (by omega))⟩, by simp [intOf]; omega⟩
    · have q1 : ((a : Int) / 2 ^ k == 0) = false := by simp [hq]
      have hkl : k < 64 := by
        rcases Nat.lt_or_ge k 64 with h | h
        · exact h
        · exact absurd (div_max (a : Int) wu.1 k (by rw [show k = 64 from by omega]; have := A.out; have := B.out; omega)) hq
      have ao := and_one _ du
      have DU := Lib.hid du
      clear hq wu du
      have v1 : IntKind.i64.wrap ((k : Int) + 1) = (k : Int) + 1 := IntWalk.i64_in _ (by omega)
      cases q2 : ((a : Int) / 2 ^ k % 2 == 1)
      · have q3 : (bits .and .u64 ((a : Int) / 2 ^ k) 1 == 1) = false := by rw [ao]; exact q2
        have hn := Lib.hid (hol_no (f := hasB a b) (k := k) (by rw [has_lo a b k (by omega)]; exact q2))
        clear ao q2
        go_wp2_with fail
        exact ⟨⟨k + 1, hkl, by rw [Int.natCast_succ], by first | (rw [hn.out]; exact O5.out) | (rw [← Nat.add_assoc, hn.out]; exact O5.out), hsz, B5.out⟩, by simp [intOf]; omega⟩
      · have q3 : (bits .and .u64 ((a : Int) / 2 ^ k) 1 == 1) = true := by rw [ao]; exact q2
        have hn := Lib.hid (hol_yes (f := hasB a b) (k := k) (by rw [has_lo a b k (by omega)]; exact q2))
        clear ao q2
        go_wp2_with (at_builtin; refine wpList_append_own _ rfl _ _ 92 rfl (w.heap.size + 1) 2 i0 (.int .i64 0) 1 8 Tryz.underlying92 hi hz0 hz1 hz2 rfl (by decide) _ _ _ rfl (O5.out.alloc _) ⟨wr.heap.size, 0, none⟩ 1 1 [.int .i64 ((k : Int))] rfl rfl (one_new _ _ _) (fun x hx => by simp at hx; subst hx; rfl) (by unfold maxLen; omega) (by omega) (by simp; omega) ?_; intro v' w3 hown hgrow _; have P := Lib.hid (own_push hown); have G := Lib.hid hgrow; clear hown hgrow)
        have hb2 : Below (w.heap.size + 1) (wr.alloc (.cells #[.int .i64 ((k : Int))] 2)) w3 := Below.grown (Below.refl _ _) G.out (by simp; omega) (own_lt O5.out)
        have s3 := hb2.size
        simp at s3
        exact ⟨⟨k + 1, hkl, by rw [Int.natCast_succ], by first | (rw [hn.out]; exact P.out) | (rw [← Nat.add_assoc, hn.out]; have p := P.out; simpa using p), by omega, (B5.out.alloc (by omega) _).trans (hb2.mono (by omega))⟩, by simp [intOf]; omega⟩
end Go.Proofs.YtnbijfeidgddmaaGreatDoor

namespace Go.Proofs.YtnbijfeidgddmaaGreatDoor
open Go.ChangeShapes Go.WideShapes Go.ChangeAt Go.RowKit

def HolR (zs : List Int) (c : Int) (w : World) (e : Ending) (w' : World) : Prop := ∃ v, e = .returned (.tuple #[v, .int .i64 c]) ∧ OwnInts w.heap.size zs v w' ∧ Below w.heap.size w w'
theorem HolR.mk {zs : List Int} {c d : Int} {w w' : World} {v : Value} (hc : c = d) (ho : OwnInts w.heap.size zs v w') (hb : Below w.heap.size w w') : HolR zs c w (.returned (.tuple #[v, .int .i64 d])) w' := ⟨v, by rw [hc], ho, hb⟩
def maskOkB (b : Int) : Bool := b / 4294967296 == 0
/-- The answer's numbers, and its code. -/
def hzL (a b : Int) : List Int := if maskOkB b then hol (hasB a b) 96 else []
theorem hz_len (a b : Int) : (hzL a b).length ≤ 96 := by unfold hzL; split; exact hol_len _ _; simp
theorem hz_yes (a : Int) {b : Int} (h : (b / 4294967296 == 0) = true) : hzL a b = hol (hasB a b) 96 := by unfold hzL maskOkB; rw [if_pos h]
theorem hz_no (a : Int) {b : Int} (h : (b / 4294967296 == 0) = false) : hzL a b = [] := by unfold hzL maskOkB; rw [h]; rfl
def hzC (b : Int) : Int := if maskOkB b then 0 else 1
theorem hzC_yes {b : Int} (h : (b / 4294967296 == 0) = true) : hzC b = 0 := by unfold hzC maskOkB; rw [if_pos h]
theorem hzC_no {b : Int} (h : (b / 4294967296 == 0) = false) : hzC b = 1 := by unfold hzC maskOkB; rw [h]; rfl
theorem own_nil (B : Nat) (w : World) : OwnInts B [] (.slice none 0 0) w := World.ownsRow_nil w B _ _

set_option maxHeartbeats 1600000 in
theorem iHolesIn_any (a b : Int) (ha : U64 a) (hb : U64 b) (w : World) :
    Calls Tryz.prog 54 #[.agg #[.int .u64 a, .int .u64 b]] w (HolR (hzL a b) (hzC b) w) := by
  cases q : (b / 4294967296 == 0)
  · have hn := Lib.hid (hz_no a q)
    have hc := Lib.hid (hzC_no q)
    clear ha hb
    go_enter Tryz.func54, Tryz.ntmps54
    go_wp2_with fail
    go_step3
    go_wp2
    (try rw [Exit.noGoto_ret])
    go_ret2
    exact HolR.mk hc.out (by rw [hn.out]; exact own_nil _ _) (by repeat' (first | (with_reducible exact Below.refl _ _) | (with_reducible assumption) | (with_reducible refine below_drewN ?_ _) | (with_reducible refine Below.drew ?_) | (with_reducible refine below_new ?_ _) | (with_reducible refine below_next ?_ (by with_reducible assumption)) | (with_reducible refine Below.setCell ?_ ?_ _) | go_size))
  · rw [hz_yes a q, hzC_yes q]
    obtain ⟨x, rfl⟩ := Int.eq_ofNat_of_zero_le ha.1
    obtain ⟨y, rfl⟩ := Int.eq_ofNat_of_zero_le hb.1
    exact (iHoles_ok x y (by have := ha.2; omega) (by simp at q; omega) w).mono fun _ _ h => h

end Go.Proofs.YtnbijfeidgddmaaGreatDoor

namespace Go.Proofs.YtnbijfeidgddmaaGreatDoor
open Go.ChangeShapes Go.WideShapes Go.ChangeAt Go.RowKit

def maskOk (b : Int) : Bool := b / 4294967296 == 0
def cardOk (s : ByteArray) (b : Int) : Bool := nameOk s && maskOk b
theorem cardOk_no {s : ByteArray} (b : Int) (h : nameOk s = false) : cardOk s b = false := by unfold cardOk; simp [h]
theorem cardOk_yes {s : ByteArray} (b : Int) (h : nameOk s = true) : cardOk s b = maskOk b := by unfold cardOk; simp [h]

set_option maxHeartbeats 1600000 in
theorem iValidCard_any (s : ByteArray) (a b : Int) (hs : s.size ≤ maxLen) (w : World) :
    Calls Tryz.prog 84 #[.agg #[.string s, .int .u64 a, .int .u64 b]] w fun e w' => e = .returned (.bool (cardOk s b)) ∧ Below w.heap.size w w' := by
  have S := Lib.hid hs
  clear hs
  cases hn : nameOk s
  · have f := Lib.hid (cardOk_no b hn)
    go_enter Tryz.func84, Tryz.ntmps84
    go_wp2_with (go_at_call 72; refine (iName_any _ S.out _).mono ?_; rintro e w1 ⟨rfl, rfl⟩)
    go_returns
    exact ⟨ret_bool f.out.symm, (by repeat' (first | (with_reducible exact Below.refl _ _) | (with_reducible assumption) | (with_reducible refine below_drewN ?_ _) | (with_reducible refine Below.drew ?_) | (with_reducible refine below_new ?_ _) | (with_reducible refine below_next ?_ (by with_reducible assumption)) | (with_reducible refine Below.setCell ?_ ?_ _) | go_size))⟩
  · have f := Lib.hid (cardOk_yes b hn)
    go_enter Tryz.func84, Tryz.ntmps84
    go_wp2_with (first | (go_at_call 72; refine (iName_any _ S.out _).mono ?_; rintro e w1 ⟨rfl, rfl⟩) | go_in)
    go_returns
    exact ⟨ret_bool f.out.symm, (by repeat' (first | (with_reducible exact Below.refl _ _) | (with_reducible assumption) | (with_reducible refine below_drewN ?_ _) | (with_reducible refine Below.drew ?_) | (with_reducible refine below_new ?_ _) | (with_reducible refine below_next ?_ (by with_reducible assumption)) | (with_reducible refine Below.setCell ?_ ?_ _) | go_size))⟩
set_option maxHeartbeats 1600000 in
theorem sOk_any (s : ByteArray) (b : Int) (hs : s.size ≤ maxLen) (g o : Nat) (w : World) (a : Int) (h0 : w.cell? ⟨g, o, none⟩ = some (.string s)) (h1 : w.cell? ⟨g, o + 1, none⟩ = some (.int .u64 a)) (h2 : w.cell? ⟨g, o + 2, none⟩ = some (.int .u64 b)) :
    Calls Tryz.prog 78 #[.pointer (some ⟨g, o, none⟩)] w fun e w' => e = .returned (.bool (cardOk s b)) ∧ Below w.heap.size w w' := by
  have S := Lib.hid hs
  clear hs
  cases hn : nameOk s
  · have f := Lib.hid (cardOk_no b hn)
    go_enter Tryz.func78, Tryz.ntmps78
    go_wp2_with (go_at_call 63; refine (sName_any _ S.out _).mono ?_; rintro e w1 ⟨rfl, rfl⟩)
    go_returns
    exact ⟨ret_bool f.out.symm, (by repeat' (first | (with_reducible exact Below.refl _ _) | (with_reducible assumption) | (with_reducible refine below_drewN ?_ _) | (with_reducible refine Below.drew ?_) | (with_reducible refine below_new ?_ _) | (with_reducible refine below_next ?_ (by with_reducible assumption)) | (with_reducible refine Below.setCell ?_ ?_ _) | go_size))⟩
  · have f := Lib.hid (cardOk_yes b hn)
    go_enter Tryz.func78, Tryz.ntmps78
    go_wp2_with (first | (go_at_call 63; refine (sName_any _ S.out _).mono ?_; rintro e w1 ⟨rfl, rfl⟩) | go_in)
    go_returns
    exact ⟨ret_bool f.out.symm, (by repeat' (first | (with_reducible exact Below.refl _ _) | (with_reducible assumption) | (with_reducible refine below_drewN ?_ _) | (with_reducible refine Below.drew ?_) | (with_reducible refine below_new ?_ _) | (with_reducible refine below_next ?_ (by with_reducible assumption)) | (with_reducible refine Below.setCell ?_ ?_ _) | go_size))⟩
end Go.Proofs.YtnbijfeidgddmaaGreatDoor

namespace Go.Proofs.YtnbijfeidgddmaaGreatDoor
open Go.ChangeShapes Go.WideShapes Go.ChangeAt Go.RowKit

/-- The text behind the first n holes. -/
def cdN (s : ByteArray) (zs : List Int) : Nat → ByteArray
  | 0 => s
  | n + 1 => cdN s zs n ++ (⟨#[32]⟩ ++ dec2 (zs.getD n 0).toNat)
theorem cdN_next (s : ByteArray) (zs : List Int) (n : Nat) : cdN s zs (n + 1) = cdN s zs n ++ (⟨#[32]⟩ ++ dec2 (zs.getD n 0).toNat) := rfl
theorem cdN_bytes (s : ByteArray) (zs : List Int) (n : Nat) : (cdN s zs n).data.toList ++ [32] ++ (dec2 (zs.getD n 0).toNat).data.toList = (cdN s zs (n + 1)).data.toList := by
  rw [cdN_next, ByteArray.data_append, ByteArray.data_append, Array.toList_append, Array.toList_append, List.append_assoc]
theorem back_eq (x : ByteArray) : (⟨x.data.toList.toArray⟩ : ByteArray) = x := by
  apply ByteArray.ext
  exact Array.toArray_toList
theorem mem_holX {f : Int → Bool} {n : Nat} {z : Int} (h : z ∈ hol f n) : 0 ≤ z ∧ z < n := by
  unfold hol at h
  rw [List.mem_filter, List.mem_map] at h
  obtain ⟨⟨i, hi, rfl⟩, _⟩ := h
  have := List.mem_range.1 hi
  omega
theorem hol_atX {f : Int → Bool} {n j : Nat} (h : j < (hol f n).length) : 0 ≤ (hol f n).getD j 0 ∧ (hol f n).getD j 0 < n := by
  rw [List.getD, List.getElem?_eq_getElem h]
  exact mem_holX (List.getElem_mem h)
theorem cdN_size (s : ByteArray) {zs : List Int} (hz : ∀ j, j < zs.length → 0 ≤ zs.getD j 0 ∧ zs.getD j 0 < 96) : ∀ n, n ≤ zs.length → (cdN s zs n).size ≤ s.size + 3 * n
  | 0, _ => Nat.le_refl _
  | n + 1, hn => by
    have ih := cdN_size s hz n (by omega)
    have h := hz n (by omega)
    have := dec2_le (n := (zs.getD n 0).toNat) (by omega)
    rw [cdN_next, ByteArray.size_append, ByteArray.size_append]
    have e : (⟨#[32]⟩ : ByteArray).size = 1 := rfl
    omega
theorem cdN_pos {s : ByteArray} (hs : 0 < s.size) (zs : List Int) : ∀ n, 0 < (cdN s zs n).size
  | 0 => hs
  | n + 1 => by rw [cdN_next, ByteArray.size_append]; have := cdN_pos hs zs n; omega
theorem nameOk_size {s : ByteArray} (h : nameOk s = true) : 1 ≤ s.size ∧ s.size ≤ 16 := by
  unfold nameOk at h
  simp only [Bool.and_eq_true, decide_eq_true_eq] at h
  exact h.1
theorem ret_strC {x y : ByteArray} (h : x = y) : Ending.returned (.string x) = Ending.returned (.string y) := by rw [h]
/-- The text of a card. -/
def cdT (s : ByteArray) (a b : Int) : ByteArray := if cardOk s b = true then cdN s (hol (hasB a b) 96) (hol (hasB a b) 96).length else ByteArray.empty
end Go.Proofs.YtnbijfeidgddmaaGreatDoor
