/- Texts of the call's own. -/
import Derived.Test.YtbmjghkdhhcffaaDoorInts
import Derived.Test.YtbmjghkdhhcffaaDoorOwns
import Derived.Test.YtbmjghkdhhcffaaDoorOth
import Derived.Test.YtbmjghkdhhcffaaDoorStrs
namespace Go.Proofs.YtbmjghkdhhcffaaDoor
open Go.ChangeShapes Go.WideShapes Go.ChangeAt Go.RowKit

theorem ownsRow_belowT {w w' : World} {B e size n : Nat} {v : Value} {xs : List Value} (h : w.ownsRow B e size v n xs) (hb : Below w.heap.size w w') : w'.ownsRow B e size v n xs := by
  obtain ⟨h1, h2⟩ := h
  refine ⟨h1, ?_⟩
  rcases h2 with hn | ⟨g, cap, cur, rfl, hB, hg, rest⟩
  · exact .inl hn
  · exact .inr ⟨g, cap, cur, rfl, hB, (hb.block g (Array.getElem?_eq_some_iff.1 hg).1).trans hg, rest⟩
/-- Texts of the call's own. -/
def OwnTx (B : Nat) (zs : List ByteArray) (v : Value) (w : World) : Prop := w.ownsRow B 9 1 v zs.length (zs.map Value.string)
theorem ownTx_nil (B : Nat) (w : World) : OwnTx B [] (.slice none 0 0) w := ⟨rfl, .inl ⟨rfl, rfl⟩⟩
theorem ownTx_lt {B : Nat} {zs : List ByteArray} {v : Value} {w : World} (h : OwnTx B zs v w) : ∀ j, v.ownBlock = some j → B ≤ j := fun j hj => (World.ownsRow.lt h j hj).1
theorem ownTx_kept {B : Nat} {zs : List ByteArray} {v : Value} {w w' : World} (h : OwnTx B zs v w) (hb : Below w.heap.size w w') : OwnTx B zs v w' := ownsRow_belowT h hb
theorem ownTx_push {B : Nat} {xs : List ByteArray} {y : ByteArray} {v : Value} {w : World} (h : w.ownsRow B 9 1 v (xs.length + 1) (xs.map Value.string ++ [.string y])) : OwnTx B (xs ++ [y]) v w := by
  unfold OwnTx; rw [List.length_append, List.map_append]; exact h
theorem info_tx : (Tryd.prog.info? 9).map (fun i => (i.zero, i.size, i.bytes)) = some (some (.string ⟨#[]⟩), 1, 16) := by kernel_rfl
/-- Texts of the call's own are handed back. -/
def TxR (zs : List ByteArray) (w : World) (e : Ending) (w' : World) : Prop := ∃ v, e = .returned v ∧ OwnTx w.heap.size zs v w' ∧ Below w.heap.size w w'
theorem new1T (w : World) (x0 : Value) (t : TypeId) : ∀ j u, [x0][j]? = some u → (w.alloc (.cells #[x0] t)).cell? ((⟨w.heap.size, 0, none⟩ : Addr).add j) = some u := by
  intro j u h
  match j, h with
  | 0, h => simp at h; subst h; simp [Addr.add]
theorem flatT_get (zs : List ByteArray) (i : Nat) (h : i < zs.length) : (zs.map Value.string)[i]? = some (.string (zs.getD i ⟨#[]⟩)) := by
  rw [List.getElem?_map, List.getD, List.getElem?_eq_getElem h]; rfl
theorem ownTx_in {B : Nat} {zs : List ByteArray} {v : Value} {w : World} (h : OwnTx B zs v w) : ∃ a c, v = .slice a zs.length c ∧ StrsIn w a zs := by
  have h0 := h
  obtain ⟨_, h2⟩ := h
  rcases h2 with ⟨rfl, hn⟩ | ⟨g, cap, cur, rfl, hb, hg, _⟩
  · exact ⟨none, 0, by rw [hn], fun i hi => by omega⟩
  · exact ⟨_, cap, rfl, fun i hi => ⟨g, 0, rfl, (Array.getElem?_eq_some_iff.1 hg).1, by rw [Nat.zero_add]; have := World.ownsRow.cellAt h0 i (by omega); rw [this]; exact flatT_get zs i hi⟩⟩
theorem ownTx_weak {B B' : Nat} {zs : List ByteArray} {v : Value} {w : World} (h : OwnTx B zs v w) (hb : B' ≤ B) : OwnTx B' zs v w := by
  obtain ⟨h1, h2⟩ := h
  refine ⟨h1, ?_⟩
  rcases h2 with hn | ⟨g, cap, cur, rfl, hB, rest⟩
  · exact .inl hn
  · exact .inr ⟨g, cap, cur, rfl, Nat.le_trans hb hB, rest⟩
theorem ownTx_oth {B g : Nat} {zs : List ByteArray} {v : Value} {w w' : World} (h : OwnTx B zs v w) (hb : Oth g w w') (hg : g < B) : OwnTx B zs v w' := by
  obtain ⟨h1, h2⟩ := h
  refine ⟨h1, ?_⟩
  rcases h2 with hn | ⟨b, cap, cur, rfl, hB, hh, rest⟩
  · exact .inl hn
  · exact .inr ⟨b, cap, cur, rfl, hB, (hb.block b (by omega) (Array.getElem?_eq_some_iff.1 hh).1).trans hh, rest⟩
end Go.Proofs.YtbmjghkdhhcffaaDoor
