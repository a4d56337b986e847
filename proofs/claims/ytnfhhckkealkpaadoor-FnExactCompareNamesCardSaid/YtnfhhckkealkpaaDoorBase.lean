/- Contracts of the laws' own small functions: masks turned into masks, and compared; new boxes under one name. -/
import Derived.Test.YtnfhhckkealkpaaDoorFrame
import Derived.Deep.RegionHeld3
namespace Go.Proofs.YtnfhhckkealkpaaDoor
open Go.ChangeShapes Go.WideShapes Go.ChangeAt Go.RowKit

/-- A world with new boxes, under a name of its own. -/
theorem boxes1 (w : World) (C : Array Value) (t : TypeId) (Q : World → Prop)
    (h : ∀ W : World, Below w.heap.size w W → w.heap.size + 1 ≤ W.heap.size → (∀ j, W.cell? ⟨w.heap.size, j, none⟩ = C[j]?) → Q W) : Q (w.alloc (.cells C t)) :=
  h _ ((Below.refl _ _).alloc (Nat.le_refl _) _) (by simp) (fun j => by simp)
theorem boxes2 (w : World) (C D : Array Value) (t u : TypeId) (Q : World → Prop)
    (h : ∀ W : World, Below w.heap.size w W → w.heap.size + 2 ≤ W.heap.size → (∀ j, W.cell? ⟨w.heap.size, j, none⟩ = C[j]?) → (∀ j, W.cell? ⟨w.heap.size + 1, j, none⟩ = D[j]?) → Q W) :
    Q ((w.alloc (.cells C t)).alloc (.cells D u)) :=
  h _ (below_new ((Below.refl _ _).alloc (Nat.le_refl _) _) _) (by simp) (fun j => by simp) (fun j => by simp)
theorem boxes3 (w : World) (C D E : Array Value) (t u v : TypeId) (Q : World → Prop)
    (h : ∀ W : World, Below w.heap.size w W → w.heap.size + 3 ≤ W.heap.size → (∀ j, W.cell? ⟨w.heap.size, j, none⟩ = C[j]?) → (∀ j, W.cell? ⟨w.heap.size + 1, j, none⟩ = D[j]?) → (∀ j, W.cell? ⟨w.heap.size + 2, j, none⟩ = E[j]?) → Q W) :
    Q (((w.alloc (.cells C t)).alloc (.cells D u)).alloc (.cells E v)) :=
  h _ (below_new (below_new ((Below.refl _ _).alloc (Nat.le_refl _) _) _) _) (by simp) (fun j => by rw [World.cell?_alloc_past (hn := by simp; omega), World.cell?_alloc_past (hn := by simp), World.cell?_alloc_at (hn := rfl)]) (fun j => by rw [World.cell?_alloc_past (hn := by simp), World.cell?_alloc_at (hn := by simp)]) (fun j => by rw [World.cell?_alloc_at (hn := by simp)])

/-- Behind a call that has made blocks alone: every old cell and every old mark reads as it did; what was a block is one. -/
theorem bcell {W w1 : World} (hb : Below W.heap.size W w1) : (∀ b o, b < W.heap.size → w1.cell? ⟨b, o, none⟩ = W.cell? ⟨b, o, none⟩) ∧ (∀ b o, b < W.heap.size → w1.frozen? ⟨b, o, none⟩ = W.frozen? ⟨b, o, none⟩) ∧ (∀ n, n < W.heap.size → n < w1.heap.size) :=
  ⟨fun b o h => hb.cell (p := ⟨b, o, none⟩) h, fun b o h => hb.frozen (p := ⟨b, o, none⟩) h, fun _ h => Nat.lt_of_lt_of_le h hb.size⟩

theorem below_realloc {a w : World} {o : Obj} (o' : Obj) (h : Below a.heap.size a (w.alloc o)) (hz : a.heap.size ≤ w.heap.size) : Below a.heap.size a (w.alloc o') :=
  ⟨h.os, h.tape, h.output, Nat.le_trans hz (by simp), fun k hk => ((Below.heap_alloc w o' k (by omega)).trans (Below.heap_alloc w o k (by omega)).symm).trans (h.block k hk)⟩


end Go.Proofs.YtnfhhckkealkpaaDoor
