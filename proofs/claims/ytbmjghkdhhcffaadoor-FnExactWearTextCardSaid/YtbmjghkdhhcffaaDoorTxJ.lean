/- Contracts of the library, laid at this seat: strings.Join over texts of the call's own, strconv.FormatInt of at most two digits. -/
import Derived.Test.YtbmjghkdhhcffaaDoorShelf
import Derived.Test.YtbmjghkdhhcffaaDoorDec
import Derived.Test.YtbmjghkdhhcffaaDoorOTx
import Derived.Shelf.Strings.OnBuilder
import Derived.Shelf.Strconv.Itoa4
namespace Go.Proofs.YtbmjghkdhhcffaaDoor
open Go.ChangeShapes Go.WideShapes Go.ChangeAt Go.RowKit Go.Shelf

theorem bx156 : Builder.Extra Tryd.prog Tryd.lays156_ren where
  sizeBuilder := by kernel_rfl
  liesBuilder := by kernel_rfl
  t5 := Tryd.underlying5
  a5 := Tryd.isAgg5
  z5 := Tryd.sizeOf5
  v5 := Tryd.zeroValue5
  infoByte := by kernel_rfl
  cellsByte := by kernel_rfl
  sizeByte := by kernel_rfl
  neB5 := by decide
theorem dec2_eq {n : Nat} (h : n < 100) : (⟨(Lib.decDigits n).toArray⟩ : ByteArray) = dec2 n := by
  unfold dec2
  by_cases h1 : n < 10
  · rw [Lib.decDigits, dif_pos h1, if_pos h1]; rfl
  · rw [Lib.decDigits, dif_neg h1, if_neg h1, Lib.decDigits, dif_pos (by omega)]
    apply ByteArray.ext
    rw [ByteArray.data_append]
    rfl
theorem fmt_any (n : Nat) (hn : n < 100) (w : World) : Calls Tryd.prog 53 #[.int .i64 (n : Int), .int .i64 10] w fun e w' => e = .returned (.string (dec2 n)) ∧ w' = w := by
  rw [← dec2_eq hn]
  exact Any.strconv_FormatInt_10_small Tryd.lays173 n hn w
/-- Texts, joined by blanks. -/
def joinT (xs : List ByteArray) : ByteArray := ⟨(Lib.join (xs.map (·.data.toList)) [32]).toArray⟩
theorem join_any (B : Nat) (xs : List ByteArray) (v : Value) (w : World) (h : OwnTx B xs v w) (hl : (Lib.join (xs.map (·.data.toList)) [32]).length ≤ 100000) (hn : xs.length ≤ 100000) :
    Calls Tryd.prog 54 #[v, .string ⟨#[32]⟩] w fun e w' => e = .returned (.string (joinT xs)) ∧ Below w.heap.size w w' := by
  have h0 := h
  obtain ⟨_, h2⟩ := h
  rcases h2 with ⟨rfl, hz⟩ | ⟨g, cap, cur, rfl, hb, hg, hcap, hmax, hsz, htk⟩
  · have e : xs = [] := List.length_eq_zero_iff.1 hz
    subst e
    exact (Any.strings_Join_none Tryd.lays156 bx156 none 0 ⟨#[32]⟩ w).mono fun e w' ⟨he, hw⟩ => ⟨he, hw ▸ Below.refl _ _⟩
  · exact Any.strings_Join Tryd.lays156 bx156 g 0 cap xs ⟨#[32]⟩ w (fun j x hj => by
      have hlt := (List.getElem?_eq_some_iff.1 hj).1
      rw [Nat.zero_add, World.ownsRow.cellAt h0 j (by omega), List.getElem?_map, hj]; rfl) (Array.getElem?_eq_some_iff.1 hg).1 (by omega) hcap (by show (Lib.join (xs.map (·.data.toList)) [32]).length ≤ _; omega)
end Go.Proofs.YtbmjghkdhhcffaaDoor
