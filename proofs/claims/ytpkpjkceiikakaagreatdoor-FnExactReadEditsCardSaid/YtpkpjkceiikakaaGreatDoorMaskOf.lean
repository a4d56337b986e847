/- Contracts: the mask of some holes, as the program says and as the model does; slices of int64 compared. -/
import Derived.Test.YtpkpjkceiikakaaGreatDoorOwns
import Derived.Test.YtpkpjkceiikakaaGreatDoorWith
namespace Go.Proofs.YtpkpjkceiikakaaGreatDoor
open Go.ChangeShapes Go.WideShapes Go.ChangeAt Go.RowKit

def mo (f : Int → Int) (zs : List Int) : Nat → Int
  | 0 => 0
  | k + 1 => bits .or .u64 (mo f zs k) (f (zs.getD k 0))
def inR (zs : List Int) (k : Nat) : Prop := ∀ i, i < k → 0 ≤ zs.getD i 0 ∧ zs.getD i 0 ≤ 95

/-- The two boxes of a mask that is gathered: the answer's, still empty, and the mask's. -/
def MoR (w wr : World) (x y : Int) : Prop := wr.cell? ⟨w.heap.size, 0, none⟩ = some (.int .u64 0) ∧ wr.cell? ⟨w.heap.size, 1, none⟩ = some (.int .u64 0) ∧ wr.cell? ⟨w.heap.size + 1, 0, none⟩ = some (.int .u64 x) ∧ wr.cell? ⟨w.heap.size + 1, 1, none⟩ = some (.int .u64 y) ∧ w.heap.size < wr.heap.size ∧ w.heap.size + 1 < wr.heap.size ∧ Below w.heap.size w wr ∧ (∀ j, wr.frozen? ⟨w.heap.size, j, none⟩ = false) ∧ ∀ j, wr.frozen? ⟨w.heap.size + 1, j, none⟩ = false
theorem moR_next {w wr w2 : World} {x y : Int} (h : MoR w wr x y) (hB : Below wr.heap.size wr w2) (p q : Int) : MoR w ((w2.setCell ⟨w.heap.size + 1, 0, none⟩ (.int .u64 p)).setCell ⟨w.heap.size + 1, 1, none⟩ (.int .u64 q)) p q := by
  obtain ⟨h0, h1, h2, h3, h4, h5, h6, h7, h8⟩ := h
  have g0 := (hB.cell (p := ⟨w.heap.size, 0, none⟩) h4).trans h0
  have g1 := (hB.cell (p := ⟨w.heap.size, 1, none⟩) h4).trans h1
  have g2 := (hB.cell (p := ⟨w.heap.size + 1, 0, none⟩) h5).trans h2
  have g3 := (hB.cell (p := ⟨w.heap.size + 1, 1, none⟩) h5).trans h3
  have hz := hB.size
  refine ⟨?_, ?_, ?_, ?_, ?_, ?_, ?_, fun j => ?_, fun j => ?_⟩
  · rw [World.cell?_setCell_other (h := by simp), World.cell?_setCell_other (h := by simp)]; exact g0
  · rw [World.cell?_setCell_other (h := by simp), World.cell?_setCell_other (h := by simp)]; exact g1
  · rw [World.cell?_setCell_other (h := by simp), World.cell?_setCell_same (h := g2)]
  · rw [World.cell?_setCell_same (h := by rw [World.cell?_setCell_other (h := by simp)]; exact g3)]
  · simp; omega
  · simp; omega
  · exact ((h6.trans (hB.mono (by omega))).setCell (by simp) _).setCell (by simp) _
  · rw [World.frozen?_setCell, World.frozen?_setCell]; exact (hB.frozen (p := ⟨w.heap.size, j, none⟩) h4).trans (h7 j)
  · rw [World.frozen?_setCell, World.frozen?_setCell]; exact (hB.frozen (p := ⟨w.heap.size + 1, j, none⟩) h5).trans (h8 j)

def moR (f : Int → Int) (zs : List Int) : Int := if ∀ z ∈ zs, 0 ≤ z ∧ z ≤ 95 then mo f zs zs.length else 0
def moC (zs : List Int) : Int := if ∀ z ∈ zs, 0 ≤ z ∧ z ≤ 95 then 0 else 2
def moV (zs : List Int) : Value := .tuple #[.agg #[.int .u64 (moR b0 zs), .int .u64 (moR b1 zs)], .int .i64 (moC zs)]
theorem moV_in {zs : List Int} (h : inR zs zs.length) : moV zs = .tuple #[.agg #[.int .u64 (mo b0 zs zs.length), .int .u64 (mo b1 zs zs.length)], .int .i64 0] := by
  have h' : ∀ z ∈ zs, 0 ≤ z ∧ z ≤ 95 := by
    intro z hz
    obtain ⟨i, hi, rfl⟩ := List.getElem_of_mem hz
    have := h i hi
    simpa [List.getD, hi] using this
  unfold moV moR moC
  rw [if_pos h', if_pos h', if_pos h']
theorem moV_out {zs : List Int} {k : Nat} (hk : k < zs.length) (h : ¬ (0 ≤ zs.getD k 0 ∧ zs.getD k 0 ≤ 95)) : moV zs = .tuple #[.agg #[.int .u64 0, .int .u64 0], .int .i64 2] := by
  have h' : ¬ ∀ z ∈ zs, 0 ≤ z ∧ z ≤ 95 := fun x => h (x _ (by simp [List.getD, hk]))
  unfold moV moR moC
  rw [if_neg h', if_neg h', if_neg h']
theorem moR_inext {zs : List Int} {k : Nat} (h : inR zs k) (h2 : 0 ≤ zs.getD k 0 ∧ zs.getD k 0 ≤ 95) : inR zs (k + 1) := by
  intro i hi
  by_cases e : i < k
  · exact h i e
  · obtain rfl : i = k := by omega
    exact h2



end Go.Proofs.YtpkpjkceiikakaaGreatDoor
