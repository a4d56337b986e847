/- Contracts of the library's strings.Builder, laid at this seat. -/
import Derived.Test.YtppjmngnjdeigaaDoorBase
import Derived.KernelRfl
import Derived.Shelf.Strings.Builder1
namespace Go.Proofs.YtppjmngnjdeigaaDoor
open Go.ChangeShapes Go.WideShapes Go.ChangeAt Go.RowKit Go.Shelf

def ren166 : Go.Shelf.Ren := ⟨fun | 166 => 87 | 240 => 113 | 276 => 139 | n => n, fun | 0 => 0 | 3 => 3 | 4 => 4 | 5 => 5 | 9 => 9 | 20 => 20 | 37 => 125 | 70 => 124 | 72 => 127 | 75 => 60 | 80 => 131 | 164 => 200 | n => n, fun | n => n⟩
theorem lay166 : Go.Proofs.Lays.n166 Tryd.prog ren166 where
  mixed := by kernel_rfl
  f166 := Tryd.func87.trans (congrArg some (by kernel_rfl))
  f240 := Tryd.func113.trans (congrArg some (by kernel_rfl))
  f276 := Tryd.func139.trans (congrArg some (by kernel_rfl))
  t0 := Tryd.underlying0
  a0 := Tryd.isAgg0
  z0 := Tryd.sizeOf0
  v0 := Tryd.zeroValue0
  t3 := Tryd.underlying3
  a3 := Tryd.isAgg3
  z3 := Tryd.sizeOf3
  v3 := Tryd.zeroValue3
  t4 := Tryd.underlying4
  a4 := Tryd.isAgg4
  z4 := Tryd.sizeOf4
  v4 := Tryd.zeroValue4
  t9 := Tryd.underlying9
  a9 := Tryd.isAgg9
  z9 := Tryd.sizeOf9
  v9 := Tryd.zeroValue9
  t20 := Tryd.underlying20
  a20 := Tryd.isAgg20
  z20 := Tryd.sizeOf20
  v20 := Tryd.zeroValue20
  t37 := Tryd.underlying125
  a37 := Tryd.isAgg125
  z37 := Tryd.sizeOf125
  v37 := Tryd.zeroValue125
  t70 := Tryd.underlying124
  a70 := Tryd.isAgg124
  z70 := Tryd.sizeOf124
  v70 := Tryd.zeroValue124
  t72 := Tryd.underlying127
  a72 := Tryd.isAgg127
  z72 := Tryd.sizeOf127
  v72 := Tryd.zeroValue127
  t75 := Tryd.underlying60
  a75 := Tryd.isAgg60
  z75 := Tryd.sizeOf60
  v75 := Tryd.zeroValue60
  t164 := Tryd.underlying200
  a164 := Tryd.isAgg200
  z164 := Tryd.sizeOf200
  v164 := Tryd.zeroValue200
theorem ext166 : Builder.Extra Tryd.prog ren166 where
  sizeBuilder := by kernel_rfl
  liesBuilder := by kernel_rfl
  t5 := Tryd.underlying5
  a5 := Tryd.isAgg5
  z5 := Tryd.sizeOf5
  v5 := Tryd.zeroValue5
  infoByte := by kernel_rfl
  cellsByte := by kernel_rfl
  sizeByte := by kernel_rfl
  neB5 := by decide

def ren167 : Go.Shelf.Ren := ⟨fun | 167 => 88 | 240 => 113 | 276 => 139 | n => n, fun | 0 => 0 | 4 => 4 | 5 => 5 | 9 => 9 | 20 => 20 | 37 => 125 | 70 => 124 | 72 => 127 | 75 => 60 | 80 => 131 | 164 => 200 | n => n, fun | n => n⟩
theorem lay167 : Go.Proofs.Lays.n167 Tryd.prog ren167 where
  mixed := by kernel_rfl
  f167 := Tryd.func88.trans (congrArg some (by kernel_rfl))
  f240 := Tryd.func113.trans (congrArg some (by kernel_rfl))
  f276 := Tryd.func139.trans (congrArg some (by kernel_rfl))
  t0 := Tryd.underlying0
  a0 := Tryd.isAgg0
  z0 := Tryd.sizeOf0
  v0 := Tryd.zeroValue0
  t4 := Tryd.underlying4
  a4 := Tryd.isAgg4
  z4 := Tryd.sizeOf4
  v4 := Tryd.zeroValue4
  t5 := Tryd.underlying5
  a5 := Tryd.isAgg5
  z5 := Tryd.sizeOf5
  v5 := Tryd.zeroValue5
  t9 := Tryd.underlying9
  a9 := Tryd.isAgg9
  z9 := Tryd.sizeOf9
  v9 := Tryd.zeroValue9
  t20 := Tryd.underlying20
  a20 := Tryd.isAgg20
  z20 := Tryd.sizeOf20
  v20 := Tryd.zeroValue20
  t37 := Tryd.underlying125
  a37 := Tryd.isAgg125
  z37 := Tryd.sizeOf125
  v37 := Tryd.zeroValue125
  t70 := Tryd.underlying124
  a70 := Tryd.isAgg124
  z70 := Tryd.sizeOf124
  v70 := Tryd.zeroValue124
  t72 := Tryd.underlying127
  a72 := Tryd.isAgg127
  z72 := Tryd.sizeOf127
  v72 := Tryd.zeroValue127
  t75 := Tryd.underlying60
  a75 := Tryd.isAgg60
  z75 := Tryd.sizeOf60
  v75 := Tryd.zeroValue60
  t164 := Tryd.underlying200
  a164 := Tryd.isAgg200
  z164 := Tryd.sizeOf200
  v164 := Tryd.zeroValue200
theorem ext167 : Builder.Extra Tryd.prog ren167 where
  sizeBuilder := by kernel_rfl
  liesBuilder := by kernel_rfl
  t5 := Tryd.underlying5
  a5 := Tryd.isAgg5
  z5 := Tryd.sizeOf5
  v5 := Tryd.zeroValue5
  infoByte := by kernel_rfl
  cellsByte := by kernel_rfl
  sizeByte := by kernel_rfl
  neB5 := by decide

def ren169 : Go.Shelf.Ren := ⟨fun | 169 => 89 | n => n, fun | 0 => 0 | 3 => 3 | 5 => 5 | 9 => 9 | 37 => 125 | 70 => 124 | 72 => 127 | 80 => 131 | 127 => 158 | n => n, fun | n => n⟩
theorem lay169 : Go.Proofs.Lays.n169 Tryd.prog ren169 where
  mixed := by kernel_rfl
  f169 := Tryd.func89.trans (congrArg some (by kernel_rfl))
  t0 := Tryd.underlying0
  a0 := Tryd.isAgg0
  z0 := Tryd.sizeOf0
  v0 := Tryd.zeroValue0
  t3 := Tryd.underlying3
  a3 := Tryd.isAgg3
  z3 := Tryd.sizeOf3
  v3 := Tryd.zeroValue3
  t9 := Tryd.underlying9
  a9 := Tryd.isAgg9
  z9 := Tryd.sizeOf9
  v9 := Tryd.zeroValue9
  t37 := Tryd.underlying125
  a37 := Tryd.isAgg125
  z37 := Tryd.sizeOf125
  v37 := Tryd.zeroValue125
  t70 := Tryd.underlying124
  a70 := Tryd.isAgg124
  z70 := Tryd.sizeOf124
  v70 := Tryd.zeroValue124
  t72 := Tryd.underlying127
  a72 := Tryd.isAgg127
  z72 := Tryd.sizeOf127
  v72 := Tryd.zeroValue127
  t127 := Tryd.underlying158
  a127 := Tryd.isAgg158
  z127 := Tryd.sizeOf158
  v127 := Tryd.zeroValue158
theorem ext169 : Builder.Extra Tryd.prog ren169 where
  sizeBuilder := by kernel_rfl
  liesBuilder := by kernel_rfl
  t5 := Tryd.underlying5
  a5 := Tryd.isAgg5
  z5 := Tryd.sizeOf5
  v5 := Tryd.zeroValue5
  infoByte := by kernel_rfl
  cellsByte := by kernel_rfl
  sizeByte := by kernel_rfl
  neB5 := by decide

/-- A builder of the call's own, at block b, that holds a text. -/
def BldG (B b : Nat) (s : ByteArray) (w : World) : Prop := Lib.IsBuilder 127 5 B b (Lib.byteCells s.data.toList) w
theorem bldG_fresh (w : World) : BldG w.heap.size w.heap.size ByteArray.empty (w.alloc (.cells #[.pointer none, .slice none 0 0] 127)) := Lib.fresh_isBuilder _ _ w
theorem bldG_lt {B b : Nat} {s : ByteArray} {w : World} (h : BldG B b s w) : b < w.heap.size := by
  rcases h with ⟨_, v, h, _⟩ | ⟨_, v, h, _⟩ <;> exact (Array.getElem?_eq_some_iff.1 h).1
theorem bldG_kept {B b : Nat} {s : ByteArray} {w w' : World} (h : BldG B b s w) (hb : Below w.heap.size w w') : BldG B b s w' := by
  have go : ∀ p, Lib.BuilderAt 127 5 B b p (Lib.byteCells s.data.toList) w → Lib.BuilderAt 127 5 B b p (Lib.byteCells s.data.toList) w' := fun p ⟨h1, v, h2, h3, h4⟩ => by
    refine ⟨h1, v, (hb.block b (Array.getElem?_eq_some_iff.1 h2).1).trans h2, ?_, h4⟩
    obtain ⟨k1, k2⟩ := h3
    refine ⟨k1, ?_⟩
    rcases k2 with hn | ⟨g, cap, cur, rfl, hB, hg, rest⟩
    · exact .inl hn
    · exact .inr ⟨g, cap, cur, rfl, hB, (hb.block g (Array.getElem?_eq_some_iff.1 hg).1).trans hg, rest⟩
  rcases h with h | h
  · exact .inl (go _ h)
  · exact .inr (go _ h)
theorem bld_str (B b : Nat) (s z : ByteArray) (w : World) (h : BldG B b s w) (hB : B ≤ w.heap.size) (hl : s.size + z.size ≤ 1000000) :
    Calls Tryd.prog 87 #[.pointer (some ⟨b, 0, none⟩), .string z] w fun e w' => e = .returned (.tuple #[.int .i64 z.size, .nilIface]) ∧ BldG B b (s ++ z) w' ∧ Below B w w' := by
  have sl : (Lib.byteCells s.data.toList).length = s.size := by rw [Lib.byteCells_length]; exact Array.length_toList
  refine (Any.Builder_WriteString lay166 ext166 B b (Lib.byteCells s.data.toList) z w h (by omega) hB).mono fun e w' ⟨he, h2, h3⟩ => ⟨he, ?_, h3⟩
  have e : Lib.byteCells (s ++ z).data.toList = Lib.byteCells s.data.toList ++ Lib.strCells z := by
    rw [Lib.strCells_eq, ByteArray.data_append, Array.toList_append]
    unfold Lib.byteCells
    rw [List.map_append]
  unfold BldG
  rw [e]
  exact .inr h2
theorem bld_byte (B b : Nat) (s : ByteArray) (u : UInt8) (w : World) (h : BldG B b s w) (hB : B ≤ w.heap.size) (hl : s.size ≤ 1000000) :
    Calls Tryd.prog 88 #[.pointer (some ⟨b, 0, none⟩), .int .u8 (u.toNat : Int)] w fun e w' => e = .returned .nilIface ∧ BldG B b (s ++ ⟨#[u]⟩) w' ∧ Below B w w' := by
  have sl : (Lib.byteCells s.data.toList).length = s.size := by rw [Lib.byteCells_length]; exact Array.length_toList
  refine (Any.Builder_WriteByte lay167 ext167 B b (Lib.byteCells s.data.toList) (u.toNat : Int) w h (by omega) hB).mono fun e w' ⟨he, h2, h3⟩ => ⟨he, ?_, h3⟩
  have e : Lib.byteCells (s ++ ⟨#[u]⟩).data.toList = Lib.byteCells s.data.toList ++ [.int .u8 (u.toNat : Int)] := by
    rw [ByteArray.data_append, Array.toList_append]
    unfold Lib.byteCells
    rw [List.map_append]
    rfl
  unfold BldG
  rw [e]
  exact .inr h2
theorem bld_text (B b : Nat) (s : ByteArray) (w : World) (h : BldG B b s w) (hB : B ≤ w.heap.size) :
    Calls Tryd.prog 89 #[.pointer (some ⟨b, 0, none⟩)] w fun e w' => e = .returned (.string s) ∧ Below B w w' := by
  by_cases h0 : s.data.toList = []
  · have e : s = ByteArray.empty := by
      apply ByteArray.ext
      apply Array.ext'
      rw [h0]; rfl
    subst e
    exact Any.Builder_String_empty lay169 ext169 B b w h hB
  · have e : (⟨s.data.toList.toArray⟩ : ByteArray) = s := by
      apply ByteArray.ext
      exact Array.toArray_toList
    have k := Any.Builder_String lay169 ext169 B b s.data.toList w h h0
    rw [e] at k
    exact k
end Go.Proofs.YtppjmngnjdeigaaDoor
