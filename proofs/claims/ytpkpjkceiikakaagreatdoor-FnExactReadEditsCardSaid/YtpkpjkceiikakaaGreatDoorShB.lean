/- Contracts of the library's strings.Builder, laid at this seat. -/
import Derived.Test.YtpkpjkceiikakaaGreatDoorBase
import Derived.KernelRfl
import Derived.Shelf.Strings.Builder1
namespace Go.Proofs.YtpkpjkceiikakaaGreatDoor
open Go.ChangeShapes Go.WideShapes Go.ChangeAt Go.RowKit Go.Shelf

def ren166 : Go.Shelf.Ren := ⟨fun | 166 => 57 | 240 => 88 | 276 => 109 | n => n, fun | 0 => 0 | 3 => 3 | 4 => 4 | 5 => 5 | 9 => 9 | 20 => 20 | 37 => 76 | 70 => 96 | 72 => 98 | 75 => 70 | 80 => 105 | 164 => 151 | n => n, fun | n => n⟩
theorem lay166 : Go.Proofs.Lays.n166 Tryz.prog ren166 where
  mixed := by kernel_rfl
  f166 := Tryz.func57.trans (congrArg some (by kernel_rfl))
  f240 := Tryz.func88.trans (congrArg some (by kernel_rfl))
  f276 := Tryz.func109.trans (congrArg some (by kernel_rfl))
  t0 := Tryz.underlying0
  a0 := Tryz.isAgg0
  z0 := Tryz.sizeOf0
  v0 := Tryz.zeroValue0
  t3 := Tryz.underlying3
  a3 := Tryz.isAgg3
  z3 := Tryz.sizeOf3
  v3 := Tryz.zeroValue3
  t4 := Tryz.underlying4
  a4 := Tryz.isAgg4
  z4 := Tryz.sizeOf4
  v4 := Tryz.zeroValue4
  t9 := Tryz.underlying9
  a9 := Tryz.isAgg9
  z9 := Tryz.sizeOf9
  v9 := Tryz.zeroValue9
  t20 := Tryz.underlying20
  a20 := Tryz.isAgg20
  z20 := Tryz.sizeOf20
  v20 := Tryz.zeroValue20
  t37 := Tryz.underlying76
  a37 := Tryz.isAgg76
  z37 := Tryz.sizeOf76
  v37 := Tryz.zeroValue76
  t70 := Tryz.underlying96
  a70 := Tryz.isAgg96
  z70 := Tryz.sizeOf96
  v70 := Tryz.zeroValue96
  t72 := Tryz.underlying98
  a72 := Tryz.isAgg98
  z72 := Tryz.sizeOf98
  v72 := Tryz.zeroValue98
  t75 := Tryz.underlying70
  a75 := Tryz.isAgg70
  z75 := Tryz.sizeOf70
  v75 := Tryz.zeroValue70
  t164 := Tryz.underlying151
  a164 := Tryz.isAgg151
  z164 := Tryz.sizeOf151
  v164 := Tryz.zeroValue151
theorem ext166 : Builder.Extra Tryz.prog ren166 where
  sizeBuilder := by kernel_rfl
  liesBuilder := by kernel_rfl
  t5 := Tryz.underlying5
  a5 := Tryz.isAgg5
  z5 := Tryz.sizeOf5
  v5 := Tryz.zeroValue5
  infoByte := by kernel_rfl
  cellsByte := by kernel_rfl
  sizeByte := by kernel_rfl
  neB5 := by decide

def ren167 : Go.Shelf.Ren := ⟨fun | 167 => 58 | 240 => 88 | 276 => 109 | n => n, fun | 0 => 0 | 4 => 4 | 5 => 5 | 9 => 9 | 20 => 20 | 37 => 76 | 70 => 96 | 72 => 98 | 75 => 70 | 80 => 105 | 164 => 151 | n => n, fun | n => n⟩
theorem lay167 : Go.Proofs.Lays.n167 Tryz.prog ren167 where
  mixed := by kernel_rfl
  f167 := Tryz.func58.trans (congrArg some (by kernel_rfl))
  f240 := Tryz.func88.trans (congrArg some (by kernel_rfl))
  f276 := Tryz.func109.trans (congrArg some (by kernel_rfl))
  t0 := Tryz.underlying0
  a0 := Tryz.isAgg0
  z0 := Tryz.sizeOf0
  v0 := Tryz.zeroValue0
  t4 := Tryz.underlying4
  a4 := Tryz.isAgg4
  z4 := Tryz.sizeOf4
  v4 := Tryz.zeroValue4
  t5 := Tryz.underlying5
  a5 := Tryz.isAgg5
  z5 := Tryz.sizeOf5
  v5 := Tryz.zeroValue5
  t9 := Tryz.underlying9
  a9 := Tryz.isAgg9
  z9 := Tryz.sizeOf9
  v9 := Tryz.zeroValue9
  t20 := Tryz.underlying20
  a20 := Tryz.isAgg20
  z20 := Tryz.sizeOf20
  v20 := Tryz.zeroValue20
  t37 := Tryz.underlying76
  a37 := Tryz.isAgg76
  z37 := Tryz.sizeOf76
  v37 := Tryz.zeroValue76
  t70 := Tryz.underlying96
  a70 := Tryz.isAgg96
  z70 := Tryz.sizeOf96
  v70 := Tryz.zeroValue96
  t72 := Tryz.underlying98
  a72 := Tryz.isAgg98
  z72 := Tryz.sizeOf98
  v72 := Tryz.zeroValue98
  t75 := Tryz.underlying70
  a75 := Tryz.isAgg70
  z75 := Tryz.sizeOf70
  v75 := Tryz.zeroValue70
  t164 := Tryz.underlying151
  a164 := Tryz.isAgg151
  z164 := Tryz.sizeOf151
  v164 := Tryz.zeroValue151
theorem ext167 : Builder.Extra Tryz.prog ren167 where
  sizeBuilder := by kernel_rfl
  liesBuilder := by kernel_rfl
  t5 := Tryz.underlying5
  a5 := Tryz.isAgg5
  z5 := Tryz.sizeOf5
  v5 := Tryz.zeroValue5
  infoByte := by kernel_rfl
  cellsByte := by kernel_rfl
  sizeByte := by kernel_rfl
  neB5 := by decide

def ren169 : Go.Shelf.Ren := ⟨fun | 169 => 61 | n => n, fun | 0 => 0 | 3 => 3 | 5 => 5 | 9 => 9 | 37 => 76 | 70 => 96 | 72 => 98 | 80 => 105 | 127 => 130 | n => n, fun | n => n⟩
theorem lay169 : Go.Proofs.Lays.n169 Tryz.prog ren169 where
  mixed := by kernel_rfl
  f169 := Tryz.func61.trans (congrArg some (by kernel_rfl))
  t0 := Tryz.underlying0
  a0 := Tryz.isAgg0
  z0 := Tryz.sizeOf0
  v0 := Tryz.zeroValue0
  t3 := Tryz.underlying3
  a3 := Tryz.isAgg3
  z3 := Tryz.sizeOf3
  v3 := Tryz.zeroValue3
  t9 := Tryz.underlying9
  a9 := Tryz.isAgg9
  z9 := Tryz.sizeOf9
  v9 := Tryz.zeroValue9
  t37 := Tryz.underlying76
  a37 := Tryz.isAgg76
  z37 := Tryz.sizeOf76
  v37 := Tryz.zeroValue76
  t70 := Tryz.underlying96
  a70 := Tryz.isAgg96
  z70 := Tryz.sizeOf96
  v70 := Tryz.zeroValue96
  t72 := Tryz.underlying98
  a72 := Tryz.isAgg98
  z72 := Tryz.sizeOf98
  v72 := Tryz.zeroValue98
  t127 := Tryz.underlying130
  a127 := Tryz.isAgg130
  z127 := Tryz.sizeOf130
  v127 := Tryz.zeroValue130
theorem ext169 : Builder.Extra Tryz.prog ren169 where
  sizeBuilder := by kernel_rfl
  liesBuilder := by kernel_rfl
  t5 := Tryz.underlying5
  a5 := Tryz.isAgg5
  z5 := Tryz.sizeOf5
  v5 := Tryz.zeroValue5
  infoByte := by kernel_rfl
  cellsByte := by kernel_rfl
  sizeByte := by kernel_rfl
  neB5 := by decide

/-- A builder of the call's own, at block b, that holds a text. -/
def BldG (B b : Nat) (s : ByteArray) (w : World) : Prop := Lib.IsBuilder 98 5 B b (Lib.byteCells s.data.toList) w
theorem bldG_fresh (w : World) : BldG w.heap.size w.heap.size ByteArray.empty (w.alloc (.cells #[.pointer none, .slice none 0 0] 98)) := Lib.fresh_isBuilder _ _ w
theorem bldG_lt {B b : Nat} {s : ByteArray} {w : World} (h : BldG B b s w) : b < w.heap.size := by
  rcases h with ⟨_, v, h, _⟩ | ⟨_, v, h, _⟩ <;> exact (Array.getElem?_eq_some_iff.1 h).1
theorem bldG_kept {B b : Nat} {s : ByteArray} {w w' : World} (h : BldG B b s w) (hb : Below w.heap.size w w') : BldG B b s w' := by
  have go : ∀ p, Lib.BuilderAt 98 5 B b p (Lib.byteCells s.data.toList) w → Lib.BuilderAt 98 5 B b p (Lib.byteCells s.data.toList) w' := fun p ⟨h1, v, h2, h3, h4⟩ => by
    refine ⟨h1, v, (hb.block b (Array.getElem?_eq_some_iff.1 h2).1).trans h2, ?_, h4⟩
    obtain ⟨k1, k2⟩ := h3
    refine ⟨k1, ?_⟩
    rcases k2 with hn | ⟨g, cap, cur, rfl, hB, hg, rest⟩
    · exact .inl hn
    · exact .inr ⟨g, cap, cur, rfl, hB, (hb.block g (Array.getElem?_eq_some_iff.1 hg).1).trans hg, rest⟩
  rcases h with h | h
  · exact .inl (go _ h)
  · exact .inr (go _ h)
theorem bld_str (B b : Nat) (s z : ByteArray) (w : World) (h : BldG B b s w) (hB : B ≤ w.heap.size) (hl : s.size + z.size ≤ 1000000) :
    Calls Tryz.prog 57 #[.pointer (some ⟨b, 0, none⟩), .string z] w fun e w' => e = .returned (.tuple #[.int .i64 z.size, .nilIface]) ∧ BldG B b (s ++ z) w' ∧ Below B w w' := by
  have sl : (Lib.byteCells s.data.toList).length = s.size := by rw [Lib.byteCells_length]; exact Array.length_toList
  refine (Any.Builder_WriteString lay166 ext166 B b (Lib.byteCells s.data.toList) z w h (by omega) hB).mono fun e w' ⟨he, h2, h3⟩ => ⟨he, ?_, h3⟩
  have e : Lib.byteCells (s ++ z).data.toList = Lib.byteCells s.data.toList ++ Lib.strCells z := by
    rw [Lib.strCells_eq, ByteArray.data_append, Array.toList_append]
    unfold Lib.byteCells
    rw [List.map_append]
  unfold BldG
  rw [e]
  exact .inr h2
theorem bld_byte (B b : Nat) (s : ByteArray) (u : UInt8) (w : World) (h : BldG B b s w) (hB : B ≤ w.heap.size) (hl : s.size ≤ 1000000) :
    Calls Tryz.prog 58 #[.pointer (some ⟨b, 0, none⟩), .int .u8 (u.toNat : Int)] w fun e w' => e = .returned .nilIface ∧ BldG B b (s ++ ⟨#[u]⟩) w' ∧ Below B w w' := by
  have sl : (Lib.byteCells s.data.toList).length = s.size := by rw [Lib.byteCells_length]; exact Array.length_toList
  refine (Any.Builder_WriteByte lay167 ext167 B b (Lib.byteCells s.data.toList) (u.toNat : Int) w h (by omega) hB).mono fun e w' ⟨he, h2, h3⟩ => ⟨he, ?_, h3⟩
  have e : Lib.byteCells (s ++ ⟨#[u]⟩).data.toList = Lib.byteCells s.data.toList ++ [.int .u8 (u.toNat : Int)] := by
    rw [ByteArray.data_append, Array.toList_append]
    unfold Lib.byteCells
    rw [List.map_append]
    rfl
  unfold BldG
  rw [e]
  exact .inr h2
theorem bld_text (B b : Nat) (s : ByteArray) (w : World) (h : BldG B b s w) (hB : B ≤ w.heap.size) :
    Calls Tryz.prog 61 #[.pointer (some ⟨b, 0, none⟩)] w fun e w' => e = .returned (.string s) ∧ Below B w w' := by
  by_cases h0 : s.data.toList = []
  · have e : s = ByteArray.empty := by
      apply ByteArray.ext
      apply Array.ext'
      rw [h0]; rfl
    subst e
    exact Any.Builder_String_empty lay169 ext169 B b w h hB
  · have e : (⟨s.data.toList.toArray⟩ : ByteArray) = s := by
      apply ByteArray.ext
      exact Array.toArray_toList
    have k := Any.Builder_String lay169 ext169 B b s.data.toList w h h0
    rw [e] at k
    exact k
end Go.Proofs.YtpkpjkceiikakaaGreatDoor
