/- Slices of texts as they lie in memory. -/
import Derived.Test.YtppjmngnjdeigaaDoorBase
import Derived.Lib.Hide
namespace Go.Proofs.YtppjmngnjdeigaaDoor
open Go.ChangeShapes Go.WideShapes Go.ChangeAt Go.RowKit

/-- The texts of a slice lie in memory. -/
def StrsIn (w : World) (a : Option Addr) (zs : List ByteArray) : Prop := ∀ i, i < zs.length → ∃ b off, a = some ⟨b, off, none⟩ ∧ b < w.heap.size ∧ w.cell? ⟨b, off + i, none⟩ = some (.string (zs.getD i ⟨#[]⟩))
theorem strsIn_below {w w' : World} {a : Option Addr} {zs : List ByteArray} (h : StrsIn w a zs) (hb : Below w.heap.size w w') : StrsIn w' a zs := fun i hi => by
  obtain ⟨b, off, ha, hlt, hc⟩ := h i hi
  exact ⟨b, off, ha, Nat.lt_of_lt_of_le hlt hb.size, (hb.cell hlt).trans hc⟩
/-- None is too long for any machine. -/
def Fit (zs : List ByteArray) : Prop := ∀ i, i < zs.length → (zs.getD i ⟨#[]⟩).size ≤ maxLen

theorem ret_i64 {x y : Int} (h : x = y) : Ending.returned (.int .i64 y) = .returned (.int .i64 x) := by rw [h]
end Go.Proofs.YtppjmngnjdeigaaDoor
