/- Slices of cards: opened, carried over, new ones. -/
import Derived.Test.YtpkpjkceiikakaaGreatDoorInts
import Derived.Deep.Slices
import Derived.OpenShut
namespace Go.Proofs.YtpkpjkceiikakaaGreatDoor
open Go.ChangeShapes Go.WideShapes Go.ChangeAt Go.RowKit

/-- A card as it lies in memory: three cells. -/
structure Cd where
  s : ByteArray
  a : Int
  b : Int
instance : Inhabited Cd := ⟨⟨ByteArray.empty, 0, 0⟩⟩
def Cd.fits (c : Cd) : Prop := c.s.size ≤ maxLen ∧ U64 c.a ∧ U64 c.b
def cdAt (cs : List Cd) (i : Nat) : Cd := cs.getD i default
theorem cdAt_map (f : Nat → Cd) (n i : Nat) (h : i < n) : cdAt ((List.range n).map f) i = f i := by
  unfold cdAt; simp [List.getD, h]

/-- The cells of the card with index i lie behind an address. -/
def CdCell (w : World) (a : Option Addr) (i : Nat) (c : Cd) : Prop := c.fits ∧ ∃ b off, a = some ⟨b, off, none⟩ ∧ b < w.heap.size ∧
  w.cell? ⟨b, off + i * 3, none⟩ = some (.string c.s) ∧ w.cell? ⟨b, off + i * 3 + 1, none⟩ = some (.int .u64 c.a) ∧ w.cell? ⟨b, off + i * 3 + 2, none⟩ = some (.int .u64 c.b)
/-- The cards of a slice lie in memory. -/
def CardsIn (w : World) (a : Option Addr) (cs : List Cd) : Prop := ∀ i, i < cs.length → CdCell w a i (cdAt cs i)
theorem cdCell_below {w w' : World} {a : Option Addr} {i : Nat} {c : Cd} (h : CdCell w a i c) (hb : Below w.heap.size w w') : CdCell w' a i c := by
  obtain ⟨hf, b, off, ha, hlt, h0, h1, h2⟩ := h
  exact ⟨hf, b, off, ha, Nat.lt_of_lt_of_le hlt hb.size, (hb.cell hlt).trans h0, (hb.cell hlt).trans h1, (hb.cell hlt).trans h2⟩
theorem cardsIn_below {w w' : World} {a : Option Addr} {cs : List Cd} (h : CardsIn w a cs) (hb : Below w.heap.size w w') : CardsIn w' a cs := fun i hi => cdCell_below (h i hi) hb

/-- A new slice with just these cards, in a block from B on. -/
def NewCards (B : Nat) (cs : List Cd) (v : Value) (w : World) : Prop := ∃ g, v = .slice (some ⟨g, 0, none⟩) cs.length cs.length ∧ B ≤ g ∧ g < w.heap.size ∧ CardsIn w (some ⟨g, 0, none⟩) cs ∧ ∀ j, w.frozen? ⟨g, j, none⟩ = false

theorem open_cards {H : Type} {enc : TypeId × Value → H} {P : Program} {W : World} {t e u : TypeId} {f0 f1 : Field} {v : Value} {d : DataW H} {p : List MemPlace} {r : Reach} {b : Nat} (ht : P.underlying t = some (.slice e)) (he : P.underlying e = some (.struct #[f0, f1])) (hs : P.underlying f0.type = some .string) (ha : P.underlying f1.type = some (.array 2 u)) (hu : P.underlying u = some (.int .u64))
    (ce : P.cellsOf e = 3) (c0 : P.cellsOf f0.type = 1) (c1 : P.cellsOf f1.type = 2) (cu : P.cellsOf u = 1) (o0 : f0.offset = 0) (o1 : f1.offset = 1)
    (hv : Value.okWide P W r b t v) (h : DataW.Trod enc P W 0 (fun _ => true) true t v d p) : ∃ a cs cap, v = .slice a cs.length cap ∧ CardsIn W a cs ∧ cs.length ≤ maxLen := by
  obtain ⟨a0, len, cap, rfl⟩ := okWide_slice ht hv
  obtain ⟨fuel, hf⟩ := h
  rcases Go.Deep.open_slice ht hf with ⟨hcs, _⟩ | ⟨a, len', cap', m, n, D, Pl, hcs, _, hl, hcm, hm, _, hi⟩
  · simp [Value.cells] at hcs
    obtain ⟨rfl, rfl, rfl⟩ := hcs
    exact ⟨none, [], 0, rfl, fun i hi => by simp at hi, by simp⟩
  · simp [Value.cells] at hcs
    obtain ⟨rfl, rfl, rfl⟩ := hcs
    simp at hm
    subst hm
    have key : ∀ i, i < len → ∃ c : Cd, c.fits ∧ W.cell? (a.add (i * 3)) = some (.string c.s) ∧ W.cell? (a.add (i * 3 + 1)) = some (.int .u64 c.a) ∧ W.cell? (a.add (i * 3 + 2)) = some (.int .u64 c.b) := by
      intro i hi'
      obtain ⟨cs', hc, hd⟩ := hi i (by omega)
      rw [ce] at hc
      obtain ⟨_, hlen, hat⟩ := World.cells?_some hc
      obtain ⟨xs, n1, _, _, _, hxl, hfs⟩ := DataW.trod_struct he hd
      match cs', hlen with
      | [x0, x1, x2], _ =>
        have g0 := hfs 0 f0 rfl
        have g1 := hfs 1 f1 rfl
        rw [o0, c0] at g0
        rw [o1, c1] at g1
        match xs, hxl with
        | [y0, y1], _ =>
          simp at g0 g1
          obtain ⟨s, hs0, _, hs1⟩ := DataW.trod_string hs g0
          obtain ⟨zs, n2, _, _, _, hzl, hg⟩ := DataW.trod_array ha g1
          match zs, hzl with
          | [z0, z1], _ =>
            have k0 := hg 0 (by omega)
            have k1 := hg 1 (by omega)
            rw [cu] at k0 k1
            simp at k0 k1
            obtain ⟨n3, e3, _, w3⟩ := DataW.trod_int hu k0
            obtain ⟨n4, e4, _, w4⟩ := DataW.trod_int hu k1
            simp at hs0 e3 e4
            subst hs0 e3 e4
            simp [Lit.wf, IntKind.min, IntKind.max, IntKind.signed, IntKind.bits] at w3 w4
            have u3 : U64 n3 := ⟨by omega, by omega⟩
            have u4 : U64 n4 := ⟨by omega, by omega⟩
            have a0 := hat 0 (by omega)
            have a1 := hat 1 (by omega)
            have a2 := hat 2 (by omega)
            rw [Go.Deep.add_add] at a0 a1 a2
            exact ⟨⟨s, n3, n4⟩, ⟨hs1, u3, u4⟩, a0, a1, a2⟩
    obtain ⟨f, hf2⟩ := Go.Deep.choose_lt key
    refine ⟨some a, (List.range len).map f, m, by simp, fun i hi' => ?_, by simp; omega⟩
    simp at hi'
    rw [cdAt_map f len i hi']
    obtain ⟨hfit, q0, q1, q2⟩ := hf2 i hi'
    obtain ⟨b, off, spot⟩ := a
    have hspot : spot = none := by simpa [Addr.add] using World.cell?_spot (hf2 0 (by omega)).2.1
    subst hspot
    exact ⟨hfit, b, off, rfl, by have h := World.block_lt_of_cell? _ _ q0; rw [Go.WideShapes.add_plain] at h; exact h, by rw [← Go.WideShapes.add_plain]; exact q0, by rw [Nat.add_assoc, ← Go.WideShapes.add_plain]; exact q1, by rw [Nat.add_assoc, ← Go.WideShapes.add_plain]; exact q2⟩
end Go.Proofs.YtpkpjkceiikakaaGreatDoor
