/- Two and three new boxes: their cells and marks. -/
import Derived.Test.YtppjmngnjdeigaaDoorBase
import Derived.Laws.NewBlocks
namespace Go.Proofs.YtppjmngnjdeigaaDoor
open Go.ChangeShapes Go.WideShapes Go.ChangeAt Go.RowKit

section
variable (w : World) (A B C : Array Value) (t u v : TypeId) (j : Nat)
theorem box2_0 : ((w.alloc (.cells A t)).alloc (.cells B u)).cell? ⟨w.heap.size, j, none⟩ = A[j]? := by
  rw [World.cell?_alloc_past (hn := by simp), World.cell?_alloc_at (hn := rfl)]
theorem box2_1 : ((w.alloc (.cells A t)).alloc (.cells B u)).cell? ⟨w.heap.size + 1, j, none⟩ = B[j]? := by
  rw [World.cell?_alloc_at (hn := by simp)]
theorem box3_0 : (((w.alloc (.cells A t)).alloc (.cells B u)).alloc (.cells C v)).cell? ⟨w.heap.size, j, none⟩ = A[j]? := by
  rw [World.cell?_alloc_past (hn := by simp; omega)]; exact box2_0 w A B t u j
theorem box3_1 : (((w.alloc (.cells A t)).alloc (.cells B u)).alloc (.cells C v)).cell? ⟨w.heap.size + 1, j, none⟩ = B[j]? := by
  rw [World.cell?_alloc_past (hn := by simp)]; exact box2_1 w A B t u j
theorem box3_2 : (((w.alloc (.cells A t)).alloc (.cells B u)).alloc (.cells C v)).cell? ⟨w.heap.size + 2, j, none⟩ = C[j]? := by
  rw [World.cell?_alloc_at (hn := by simp)]
theorem box2f_0 : ((w.alloc (.cells A t)).alloc (.cells B u)).frozen? ⟨w.heap.size, j, none⟩ = false := by
  rw [World.frozen?_alloc_past (hn := by simp), World.frozen?_alloc_at (hn := rfl)]
theorem box2f_1 : ((w.alloc (.cells A t)).alloc (.cells B u)).frozen? ⟨w.heap.size + 1, j, none⟩ = false := by
  rw [World.frozen?_alloc_at (hn := by simp)]
theorem box3f_0 : (((w.alloc (.cells A t)).alloc (.cells B u)).alloc (.cells C v)).frozen? ⟨w.heap.size, j, none⟩ = false := by
  rw [World.frozen?_alloc_past (hn := by simp; omega)]; exact box2f_0 w A B t u j
theorem box3f_1 : (((w.alloc (.cells A t)).alloc (.cells B u)).alloc (.cells C v)).frozen? ⟨w.heap.size + 1, j, none⟩ = false := by
  rw [World.frozen?_alloc_past (hn := by simp)]; exact box2f_1 w A B t u j
theorem box3f_2 : (((w.alloc (.cells A t)).alloc (.cells B u)).alloc (.cells C v)).frozen? ⟨w.heap.size + 2, j, none⟩ = false := by
  rw [World.frozen?_alloc_at (hn := by simp)]
theorem box2_lt0 : w.heap.size < ((w.alloc (.cells A t)).alloc (.cells B u)).heap.size := by simp; omega
theorem box2_lt1 : w.heap.size + 1 < ((w.alloc (.cells A t)).alloc (.cells B u)).heap.size := by simp
theorem box3_lt0 : w.heap.size < (((w.alloc (.cells A t)).alloc (.cells B u)).alloc (.cells C v)).heap.size := by simp; omega
theorem box3_lt1 : w.heap.size + 1 < (((w.alloc (.cells A t)).alloc (.cells B u)).alloc (.cells C v)).heap.size := by simp
theorem box3_lt2 : w.heap.size + 2 < (((w.alloc (.cells A t)).alloc (.cells B u)).alloc (.cells C v)).heap.size := by simp
end
end Go.Proofs.YtppjmngnjdeigaaDoor
