/- Slices of int16: copied, compared. -/
import Derived.Test.YtaiedpblfnaooabKn
namespace Go.Proofs.Ytaiedpblfnaooab
open Go.ChangeShapes Go.WideShapes Go.ChangeAt Go.RowKit

/-- A new slice with just these numbers, in a block from B on. -/
def NewI16s (B : Nat) (zs : List Int) (v : Value) (w : World) : Prop := ∃ g, v = .slice (some ⟨g, 0, none⟩) zs.length zs.length ∧ B ≤ g ∧ g < w.heap.size ∧ (∀ i, i < zs.length → w.cell? ⟨g, i, none⟩ = some (.int .i16 (zs.getD i 0)) ∧ w.frozen? ⟨g, i, none⟩ = false)
theorem newI16s_in {B : Nat} {zs : List Int} {v : Value} {w : World} (h : NewI16s B zs v w) : ∃ a, v = .slice a zs.length zs.length ∧ I16sIn w a zs := by
  obtain ⟨g, rfl, _, hg, hc⟩ := h
  exact ⟨_, rfl, fun i hi => ⟨g, 0, rfl, hg, by have := (hc i hi).1; simpa using this⟩⟩

/-- k numbers copied, zeros behind. -/
def rowS (zs : List Int) (k : Nat) : List Value := (List.range zs.length).map fun i => if i < k then .int .i16 (zs.getD i 0) else .int .i16 0
theorem rowS_len (zs : List Int) (k : Nat) : (rowS zs k).length = zs.length := by
  unfold rowS; simp
theorem rowS_get (zs : List Int) (k i : Nat) (h : i < zs.length) : (rowS zs k)[i]? = some (if i < k then .int .i16 (zs.getD i 0) else .int .i16 0) := by
  unfold rowS; rw [List.getElem?_map, List.getElem?_range h]; rfl
theorem rowS_zero (zs : List Int) : rowS zs 0 = List.replicate zs.length (Value.int .i16 0) := by
  apply List.ext_getElem?
  intro i
  by_cases h : i < zs.length
  · rw [rowS_get zs 0 i h, if_neg (Nat.not_lt_zero i), List.getElem?_replicate, if_pos h]
  · rw [List.getElem?_eq_none (by rw [rowS_len]; omega), List.getElem?_replicate, if_neg h]
theorem rowS_next (zs : List Int) (k : Nat) (h : k < zs.length) : (rowS zs k).set k (Value.int .i16 (zs.getD k 0)) = rowS zs (k + 1) := by
  apply List.ext_getElem?
  intro i
  rw [List.getElem?_set]
  by_cases e : k = i
  · subst e
    rw [if_pos rfl, if_pos (by rw [rowS_len]; exact h), rowS_get zs (k + 1) k h, if_pos (Nat.lt_succ_self k)]
  · rw [if_neg e]
    by_cases hi : i < zs.length
    · rw [rowS_get zs k i hi, rowS_get zs (k + 1) i hi]
      by_cases h1 : i < k
      · rw [if_pos h1, if_pos (by omega)]
      · rw [if_neg h1, if_neg (by omega)]
    · rw [List.getElem?_eq_none (by rw [rowS_len]; omega), List.getElem?_eq_none (by rw [rowS_len]; omega)]

theorem info_i16 : (Try.prog.info? 23).map (fun i => (i.zero, i.size, i.bytes)) = some (some (.int .i16 0), 1, 2) := by kernel_rfl

theorem i16s_round {P : Nat → Nat → Prop} {w wr : World} {zs : List Int} {k : Nat} {e : TypeId} (h : k < zs.length) (O : wr.ownsRow w.heap.size e 1 (.slice (some ⟨w.heap.size, 0, none⟩) zs.length zs.length) zs.length (rowS zs k))
    (hB : Below w.heap.size w wr) (_hl : w.heap.size < wr.heap.size) (z : Int) (hz : z = zs.getD k 0) (hm : P k (k + 1)) :
    (∃ k' : Nat, k' ≤ zs.length ∧ Value.int .i64 ((k : Int) + 1) = Value.int .i64 (k' : Int) ∧ (wr.setCell ⟨w.heap.size, k, none⟩ (.int .i16 z)).ownsRow w.heap.size e 1 (.slice (some ⟨w.heap.size, 0, none⟩) zs.length zs.length) zs.length (rowS zs k') ∧ Below w.heap.size w (wr.setCell ⟨w.heap.size, k, none⟩ (.int .i16 z)) ∧ w.heap.size < (wr.setCell ⟨w.heap.size, k, none⟩ (.int .i16 z)).heap.size) ∧ P k (k + 1) := by
  subst hz
  have hs := O.stored k (.int .i16 (zs.getD k 0))
  rw [rowS_next zs k h] at hs
  refine ⟨⟨k + 1, h, by rw [Int.natCast_succ], hs.1, Below.grown hB hs.2 hB.size (fun j hj => by cases hj; exact Nat.le_refl _), ?_⟩, hm⟩
  exact (hs.1.lt _ rfl).2

theorem newI16s_of {w wr : World} {zs : List Int} {e : TypeId} (O : wr.ownsRow w.heap.size e 1 (.slice (some ⟨w.heap.size, 0, none⟩) zs.length zs.length) zs.length (rowS zs zs.length)) (hl : w.heap.size < wr.heap.size) :
    NewI16s w.heap.size zs (.slice (some ⟨w.heap.size, 0, none⟩) zs.length zs.length) wr := by
  refine ⟨_, rfl, Nat.le_refl _, hl, fun i hi => ⟨?_, O.frozenAt i⟩⟩
  rw [O.cellAt i (by omega), rowS_get zs _ i hi, if_pos hi]



end Go.Proofs.Ytaiedpblfnaooab
