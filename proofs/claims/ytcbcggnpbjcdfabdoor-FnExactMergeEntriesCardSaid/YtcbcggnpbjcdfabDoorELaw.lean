/- What the laws on catalogues with a list as their answer owe: marks on the argument's copy, and what they leave. -/
import Derived.Test.YtcbcggnpbjcdfabDoorEMark
import Derived.Test.YtcbcggnpbjcdfabDoorOwns
namespace Go.Proofs.YtcbcggnpbjcdfabDoor
open Go.ChangeShapes Go.WideShapes Go.ChangeAt Go.RowKit

theorem wr_ents {w : World} {g : Nat} {cs : List Et} (h : EntsIn w (some ⟨g, 0, none⟩) cs) (hf : ∀ j, w.frozen? ⟨g, j, none⟩ = false) : Wb w g (cs.length * 3) := by
  refine ⟨fun j hj => ?_, fun j _ => hf j⟩
  obtain ⟨_, b, off, he, _, h0, h1, h2⟩ := h (j / 3) (by omega)
  cases he
  rcases (show j % 3 = 0 ∨ j % 3 = 1 ∨ j % 3 = 2 by omega) with e | e | e
  · exact ⟨.string (etAt cs (j / 3)).s, by rw [show (⟨g, j, none⟩ : Addr) = ⟨g, 0 + j / 3 * 3, none⟩ from by congr 1; omega]; exact h0⟩
  · exact ⟨.int .i64 (etAt cs (j / 3)).a, by rw [show (⟨g, j, none⟩ : Addr) = ⟨g, 0 + j / 3 * 3 + 1, none⟩ from by congr 1; omega]; exact h1⟩
  · exact ⟨.int .i64 (etAt cs (j / 3)).b, by rw [show (⟨g, j, none⟩ : Addr) = ⟨g, 0 + j / 3 * 3 + 2, none⟩ from by congr 1; omega]; exact h2⟩
theorem eIntsIn_up {B : Nat} {w w' : World} {a : Option Addr} {zs : List Int} (h : IntsIn w a zs) (hB : w.heap.size ≤ B) (hb : Below B w w') : IntsIn w' a zs := fun i hi => by
  obtain ⟨b, off, ha, hlt, hc⟩ := h i hi
  exact ⟨b, off, ha, Nat.lt_of_lt_of_le hlt hb.size, (hb.cell (Nat.lt_of_lt_of_le hlt hB)).trans hc⟩
end Go.Proofs.YtcbcggnpbjcdfabDoor
