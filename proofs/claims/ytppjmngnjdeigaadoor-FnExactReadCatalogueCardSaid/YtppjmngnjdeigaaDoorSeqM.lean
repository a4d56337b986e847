/- Pieces of a text, at the first byte of a kind (of XSeq.t, what speaks of no function of the library that makes iterators). -/
import Derived.Test.YtppjmngnjdeigaaDoorRng
import Derived.Test.YtppjmngnjdeigaaDoorSpl
import Derived.Test.YtppjmngnjdeigaaDoorOth
namespace Go.Proofs.YtppjmngnjdeigaaDoor
open Go.ChangeShapes Go.WideShapes Go.ChangeAt Go.RowKit

theorem cell_same {A B : World} {b o : Nat} (h : B.heap[b]? = A.heap[b]?) : B.cell? ⟨b, o, none⟩ = A.cell? ⟨b, o, none⟩ := by unfold World.cell?; simp only [h]
theorem frozen_same {A B : World} {b o : Nat} (h : B.heap[b]? = A.heap[b]?) : B.frozen? ⟨b, o, none⟩ = A.frozen? ⟨b, o, none⟩ := by unfold World.frozen?; simp only [h]
/-- How long the text in the iterator's box is. -/
def strLeft (W : World) (b : Nat) : Nat := match W.cell? ⟨b, 0, none⟩ with
  | some (.string t) => t.size
  | _ => 0
theorem strLeft_eq {W : World} {b : Nat} {t : ByteArray} (h : W.cell? ⟨b, 0, none⟩ = some (.string t)) : strLeft W b = t.size := by unfold strLeft; rw [h]
theorem ib_spec : ∀ (l : List UInt8) (c : UInt8), (Lib.indexByte l c = -1 ∧ c ∉ l) ∨ ∃ k : Nat, Lib.indexByte l c = (k : Int) ∧ k < l.length ∧ l[k]? = some c ∧ c ∉ l.take k
  | [], c => .inl ⟨rfl, by simp⟩
  | x :: l, c => by
    by_cases e : x = c
    · subst e
      exact .inr ⟨0, by simp [Lib.indexByte], by simp, by simp, by simp⟩
    · have eb : (x == c) = false := by simpa using e
      rcases ib_spec l c with ⟨hi, hn⟩ | ⟨k, hi, hk, hg, hn⟩
      · refine .inl ⟨by rw [Lib.indexByte, eb, hi]; rfl, ?_⟩
        intro h
        rcases List.mem_cons.1 h with rfl | h
        · exact e rfl
        · exact hn h
      · refine .inr ⟨k + 1, ?_, by simp; omega, by simpa using hg, ?_⟩
        · have eq : ((k : Int) == -1) = false := by rw [beq_eq_false_iff_ne]; omega
          rw [Lib.indexByte, eb, hi]
          simp only [eq]
          simp
        · intro h
          rw [List.take_succ_cons] at h
          rcases List.mem_cons.1 h with rfl | h
          · exact e rfl
          · exact hn h

theorem pieces_none {c : UInt8} {t : ByteArray} (h : c ∉ t.data.toList) : pieces c t = [t] := by
  unfold pieces
  rw [spl_none _ _ h, List.nil_append, List.map_cons, mkS_data]; rfl
theorem pieces_at {c : UInt8} {t : ByteArray} {k : Nat} (hk : t.data.toList[k]? = some c) (hn : c ∉ t.data.toList.take k) : pieces c t = t.extract 0 k :: pieces c (t.extract (k + 1) t.size) := by
  unfold pieces
  rw [spl_at _ _ k hk hn, List.nil_append, List.map_cons, Lib.extract_to_end]
  congr 1
  rw [Lib.extract_eq]; rfl

end Go.Proofs.YtppjmngnjdeigaaDoor
