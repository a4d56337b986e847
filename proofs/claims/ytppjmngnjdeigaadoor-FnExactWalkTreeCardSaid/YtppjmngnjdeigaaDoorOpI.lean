/- Opening of a slice of numbers. -/
import Derived.Test.YtppjmngnjdeigaaDoorInts
namespace Go.Proofs.YtppjmngnjdeigaaDoor
open Go.ChangeShapes Go.WideShapes Go.ChangeAt Go.RowKit

theorem open_intS {H : Type} {enc : TypeId × Value → H} {P : Program} {W : World} {t e : TypeId} {v : Value} {d : DataW H} {p : List MemPlace} {r : Reach} {b : Nat} (ht : P.underlying t = some (.slice e)) (he : P.underlying e = some (.int .i64)) (hc : P.cellsOf e = 1)
    (hv : Value.okWide P W r b t v) (h : DataW.Trod enc P W 0 (fun _ => true) true t v d p) : ∃ a zs cap, v = .slice a zs.length cap ∧ IntsIn W a zs := by
  obtain ⟨a0, len, cap, rfl⟩ := okWide_slice ht hv
  obtain ⟨fuel, hf⟩ := h
  rcases open_ints ht he hc hf with ⟨hcs, hx⟩ | ⟨a, len', cap', zs, hcs, _, hl, hm, hz, hx, hcell, hwz⟩
  · simp [Value.cells] at hcs
    obtain ⟨rfl, rfl, rfl⟩ := hcs
    exact ⟨none, [], 0, rfl, fun i hi => by simp at hi⟩
  · simp [Value.cells] at hcs
    obtain ⟨rfl, rfl, rfl⟩ := hcs
    simp at hz
    refine ⟨some a, zs.take len, cap, ?_, ?_⟩
    · rw [List.length_take, Nat.min_eq_left (by omega)]
    · intro i hi
      rw [List.length_take] at hi
      obtain ⟨b, off, rfl, hcc⟩ := ints_at hcell (by omega)
      have h2 := hcc i (by omega)
      refine ⟨b, off, rfl, World.block_lt_of_cell? _ _ h2, ?_⟩
      rw [h2]
      simp [List.getD, List.getElem?_take, show i < len by omega]

end Go.Proofs.YtppjmngnjdeigaaDoor
