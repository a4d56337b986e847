/- The laws' marks on masks: on an argument's, on those of the call's own; the look at them. -/
import Derived.Test.YtanocllpmjhblaaMskL
import Derived.Test.YtanocllpmjhblaaMsk
import Derived.Test.YtanocllpmjhblaaOth
namespace Go.Proofs.Ytanocllpmjhblaa
open Go.ChangeShapes Go.WideShapes Go.ChangeAt Go.RowKit

theorem cell_sm {A B : World} {b o : Nat} (h : B.heap[b]? = A.heap[b]?) : B.cell? ⟨b, o, none⟩ = A.cell? ⟨b, o, none⟩ := by unfold World.cell?; simp only [h]
theorem Wb.oth {w w' : World} {g g' m : Nat} (h : Wb w g m) (o : Oth g' w w') (hne : g ≠ g') (hg : g < w.heap.size) : Wb w' g m :=
  ⟨fun j hj => (h.1 j hj).imp fun _ hv => (cell_sm (o.block g hne hg)).trans hv, fun j hj => by have := h.2 j hj; unfold World.frozen? at this ⊢; simp only [o.block g hne hg]; exact this⟩




/-! ### Of the call's own -/
def mrkM (q : Nat) : Int × Int := ((q : Int), (q : Int) + 1)
def MarkedM (k j : Nat) (ms : List (Int × Int)) : Prop := ∀ l, l < j → ms.getD l (0, 0) = mrkM (k + 2 * l)
theorem markedM_next {k j : Nat} {ms : List (Int × Int)} (h : MarkedM k j ms) (hj : j < ms.length) : MarkedM k (j + 1) (ms.set j (mrkM (k + 2 * j))) := by
  intro l hl
  rw [List.getD, List.getElem?_set]
  by_cases e : j = l
  · subst e; simp [hj]
  · rw [if_neg e]; exact h l (by omega)
theorem flatM_set : ∀ (ms : List (Int × Int)) (i : Nat) (m : Int × Int), ((flatM ms).set (i * 2) (.int .u64 m.1)).set (i * 2 + 1) (.int .u64 m.2) = flatM (ms.set i m)
  | [], i, m => rfl
  | d :: ms, 0, m => rfl
  | d :: ms, i + 1, m => by
    rw [show (i + 1) * 2 = i * 2 + 1 + 1 by omega]
    have := flatM_set ms i m
    simp only [flatM, List.set_cons_succ, this]


end Go.Proofs.Ytanocllpmjhblaa
