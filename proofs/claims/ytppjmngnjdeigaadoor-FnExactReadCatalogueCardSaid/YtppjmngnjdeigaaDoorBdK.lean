/- A builder of the call's own beside other memory of the call's own: what is neither the builder's nor bytes stands (shelf: the forms with 'OthersKept'). -/
import Derived.Test.YtppjmngnjdeigaaDoorShB
import Derived.Shelf.Strings.BuilderK
namespace Go.Proofs.YtppjmngnjdeigaaDoor
open Go.ChangeShapes Go.WideShapes Go.ChangeAt Go.RowKit

/-- A builder of the call's own, at block b, that holds a text. -/
def BldK (B b : Nat) (s : ByteArray) (w : World) : Prop := Lib.IsBuilderF 127 5 B b (Lib.byteCells s.data.toList) w
/-- What is neither the builder's block nor bytes stands. -/
def OthB (b : Nat) (w w' : World) : Prop := Lib.OthersKept 5 (some b) w w'
theorem othB_block {b : Nat} {w w' : World} (h : OthB b w w') {k : Nat} {cs : Array Value} {t : TypeId} {fz : Nat × Nat} (hk : w.heap[k]? = some (.cells cs t fz)) (hb : k ≠ b) (ht : t ≠ 5) : w'.heap[k]? = some (.cells cs t fz) := by
  refine h k _ hk (fun e => hb (Option.some.inj e)) fun c f e => ?_
  injection e with _ e2 _
  exact ht e2
theorem bldK_fresh (w : World) : BldK w.heap.size w.heap.size ByteArray.empty (w.alloc (.cells #[.pointer none, .slice none 0 0] 127)) := by
  rcases bldG_fresh w with h | h
  · exact .inl (Lib.BuilderAtF.of h)
  · exact .inr (Lib.BuilderAtF.of h)
theorem bldK_kept {B b : Nat} {s : ByteArray} {w w' : World} (h : BldK B b s w) (hb : Below w.heap.size w w') : BldK B b s w' := by
  have go : ∀ p, Lib.BuilderAtF 127 5 B b p (Lib.byteCells s.data.toList) w → Lib.BuilderAtF 127 5 B b p (Lib.byteCells s.data.toList) w' := fun p ⟨h1, v, h2, h3, h4⟩ => by
    refine ⟨h1, v, (hb.block b (Array.getElem?_eq_some_iff.1 h2).1).trans h2, ?_, h4⟩
    obtain ⟨k1, k2⟩ := h3
    refine ⟨k1, ?_⟩
    rcases k2 with hn | ⟨g, cap, cur, fz, rfl, hB, hg, rest⟩
    · exact .inl hn
    · exact .inr ⟨g, cap, cur, fz, rfl, hB, (hb.block g (Array.getElem?_eq_some_iff.1 hg).1).trans hg, rest⟩
  rcases h with h | h
  · exact .inl (go _ h)
  · exact .inr (go _ h)
theorem bldK_str (B b : Nat) (s z : ByteArray) (w : World) (h : BldK B b s w) (hB : B ≤ w.heap.size) (hl : s.size + z.size ≤ 1000000) :
    Calls Tryd.prog 87 #[.pointer (some ⟨b, 0, none⟩), .string z] w fun e w' => e = .returned (.tuple #[.int .i64 z.size, .nilIface]) ∧ BldK B b (s ++ z) w' ∧ Below B w w' ∧ OthB b w w' := by
  have sl : (Lib.byteCells s.data.toList).length = s.size := by rw [Lib.byteCells_length]; exact Array.length_toList
  refine (Any.Builder_WriteString_k lay166 ext166 B b (Lib.byteCells s.data.toList) z w h (by omega) hB).mono fun e w' ⟨he, h2, h3, h4⟩ => ⟨he, ?_, h3, h4⟩
  have e : Lib.byteCells (s ++ z).data.toList = Lib.byteCells s.data.toList ++ Lib.strCells z := by
    rw [Lib.strCells_eq, ByteArray.data_append, Array.toList_append]
    unfold Lib.byteCells
    rw [List.map_append]
  unfold BldK
  rw [e]
  exact .inr h2
theorem bldK_byte (B b : Nat) (s : ByteArray) (u : UInt8) (w : World) (h : BldK B b s w) (hB : B ≤ w.heap.size) (hl : s.size ≤ 1000000) :
    Calls Tryd.prog 88 #[.pointer (some ⟨b, 0, none⟩), .int .u8 (u.toNat : Int)] w fun e w' => e = .returned .nilIface ∧ BldK B b (s ++ ⟨#[u]⟩) w' ∧ Below B w w' ∧ OthB b w w' := by
  have sl : (Lib.byteCells s.data.toList).length = s.size := by rw [Lib.byteCells_length]; exact Array.length_toList
  refine (Any.Builder_WriteByte_k lay167 ext167 B b (Lib.byteCells s.data.toList) (u.toNat : Int) w h (by omega) hB).mono fun e w' ⟨he, h2, h3, h4⟩ => ⟨he, ?_, h3, h4⟩
  have e : Lib.byteCells (s ++ ⟨#[u]⟩).data.toList = Lib.byteCells s.data.toList ++ [.int .u8 (u.toNat : Int)] := by
    rw [ByteArray.data_append, Array.toList_append]
    unfold Lib.byteCells
    rw [List.map_append]
    rfl
  unfold BldK
  rw [e]
  exact .inr h2
theorem bldK_text (B b : Nat) (s : ByteArray) (w : World) (h : BldK B b s w) (hB : B ≤ w.heap.size) :
    Calls Tryd.prog 89 #[.pointer (some ⟨b, 0, none⟩)] w fun e w' => e = .returned (.string s) ∧ Below B w w' := by
  have e : (⟨s.data.toList.toArray⟩ : ByteArray) = s := by
    apply ByteArray.ext
    exact Array.toArray_toList
  have k := Any.Builder_String_any_k lay169 ext169 B b s.data.toList w h hB
  rw [e] at k
  exact k.mono fun _ _ ⟨h1, _, h3, _⟩ => ⟨h1, h3⟩
end Go.Proofs.YtppjmngnjdeigaaDoor
