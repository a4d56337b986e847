/- Nothing lies otherwise but one block; a block that may be written. -/
import Derived.Test.YtppjmngnjdeigaaDoorOwns
namespace Go.Proofs.YtppjmngnjdeigaaDoor
open Go.ChangeShapes Go.WideShapes Go.ChangeAt Go.RowKit

/-- Nothing lies otherwise but block g. -/
structure Oth (g : Nat) (w w' : World) : Prop where
  os : w'.os = w.os
  tape : w'.tape = w.tape
  output : w'.output = w.output
  size : w.heap.size ≤ w'.heap.size
  block : ∀ j, j ≠ g → j < w.heap.size → w'.heap[j]? = w.heap[j]?
theorem Oth.refl (g : Nat) (w : World) : Oth g w w := ⟨rfl, rfl, rfl, Nat.le_refl _, fun _ _ _ => rfl⟩
theorem Oth.trans {g : Nat} {a b c : World} (h : Oth g a b) (k : Oth g b c) : Oth g a c := ⟨k.os.trans h.os, k.tape.trans h.tape, k.output.trans h.output, Nat.le_trans h.size k.size, fun j hj hl => (k.block j hj (Nat.lt_of_lt_of_le hl h.size)).trans (h.block j hj hl)⟩
theorem Oth.of {g : Nat} {w w' : World} (h : Below w.heap.size w w') : Oth g w w' := ⟨h.os, h.tape, h.output, h.size, fun j _ hl => h.block j hl⟩
theorem Oth.set {g : Nat} {a w : World} (h : Oth g a w) (j : Nat) (u : Value) : Oth g a (w.setCell ⟨g, j, none⟩ u) :=
  h.trans ⟨rfl, rfl, rfl, by simp [World.setCell], fun k hk _ => Below.heap_setCell _ _ _ _ hk⟩
theorem Oth.below {g : Nat} {w w' : World} (h : Oth g w w') (hg : g ≤ w.heap.size) : Below g w w' := ⟨h.os, h.tape, h.output, h.size, fun k hk => h.block k (by omega) (by omega)⟩
theorem own_oth {B g : Nat} {zs : List Int} {v : Value} {w w' : World} (h : OwnInts B zs v w) (hb : Oth g w w') (hg : g < B) : OwnInts B zs v w' := by
  obtain ⟨h1, h2⟩ := h
  refine ⟨h1, ?_⟩
  rcases h2 with hn | ⟨b, cap, cur, rfl, hB, hh, rest⟩
  · exact .inl hn
  · exact .inr ⟨b, cap, cur, rfl, hB, (hb.block b (by omega) (Array.getElem?_eq_some_iff.1 hh).1).trans hh, rest⟩

/-- A block with m cells at least that may be written. -/
def Wb (w : World) (g m : Nat) : Prop := (∀ j, j < m → ∃ v, w.cell? ⟨g, j, none⟩ = some v) ∧ ∀ j, j < m → w.frozen? ⟨g, j, none⟩ = false
theorem Wb.below {w w' : World} {g m : Nat} (h : Wb w g m) (hb : Below w.heap.size w w') (hg : g < w.heap.size) : Wb w' g m :=
  ⟨fun j hj => (h.1 j hj).imp fun _ hv => (hb.cell (p := ⟨g, j, none⟩) hg).trans hv, fun j hj => (hb.frozen (p := ⟨g, j, none⟩) hg).trans (h.2 j hj)⟩
theorem Wb.set {w : World} {g m : Nat} (h : Wb w g m) (k : Nat) (hk : k < m) (u : Value) : Wb (w.setCell ⟨g, k, none⟩ u) g m := by
  refine ⟨fun j hj => ?_, fun j hj => by rw [World.frozen?_setCell]; exact h.2 j hj⟩
  by_cases e : j = k
  · subst e
    obtain ⟨v, hv⟩ := h.1 j hj
    exact ⟨u, World.cell?_setCell_same' _ _ _ (by rw [hv]; rfl)⟩
  · obtain ⟨v, hv⟩ := h.1 j hj
    exact ⟨v, (World.cell?_setCell_other _ _ _ _ (by intro hc; simp at hc)).trans hv⟩

end Go.Proofs.YtppjmngnjdeigaaDoor
