/- Slices of int64 that the call owns: read, compared, marked. -/
import Derived.Test.YtpkpjkceiikakaaGreatDoorInts
import Derived.BigQuiet
import Derived.Deep.QuietTactic
namespace Go.Proofs.YtpkpjkceiikakaaGreatDoor
open Go.ChangeShapes Go.WideShapes Go.ChangeAt Go.RowKit

/-- The slice's numbers are these, in a row of the call's own from block B on. -/
def OwnInts (B : Nat) (zs : List Int) (v : Value) (w : World) : Prop := w.ownsRow B 2 1 v zs.length (zs.map (Value.int .i64))
theorem ownInts_in {B : Nat} {zs : List Int} {v : Value} {w : World} (h : OwnInts B zs v w) : ∃ a c, v = .slice a zs.length c ∧ IntsIn w a zs := by
  have h0 := h
  obtain ⟨_, h2⟩ := h
  rcases h2 with ⟨rfl, hn⟩ | ⟨g, cap, cur, rfl, hb, hg, _⟩
  · exact ⟨none, 0, by rw [hn], fun i hi => by omega⟩
  · refine ⟨_, cap, rfl, fun i hi => ⟨g, 0, rfl, (Array.getElem?_eq_some_iff.1 hg).1, ?_⟩⟩
    have := World.ownsRow.cellAt h0 i (by omega)
    rw [Nat.zero_add, this, List.getElem?_map, List.getElem?_eq_getElem hi]
    simp [List.getD, hi]
/-- What lies from block B on: nothing below it is touched by a world that is the same from there downwards. -/
theorem ownInts_kept {B : Nat} {zs : List Int} {v : Value} {w w' : World} (h : OwnInts B zs v w) (hb : Below w.heap.size w w') : OwnInts B zs v w' := by
  obtain ⟨h1, h2⟩ := h
  refine ⟨h1, ?_⟩
  rcases h2 with hn | ⟨g, cap, cur, rfl, hB, hg, rest⟩
  · exact .inl hn
  · exact .inr ⟨g, cap, cur, rfl, hB, (hb.block g (Array.getElem?_eq_some_iff.1 hg).1).trans hg, rest⟩

/-- The marks from k on. -/
def marks (k : Int) (n : Nat) : List Int := (List.range n).map fun i : Nat => k + (i : Int)
theorem marks_len (k : Int) (n : Nat) : (marks k n).length = n := by unfold marks; simp
theorem marks_get (k : Int) (n i : Nat) (h : i < n) : (marks k n).getD i 0 = k + (i : Int) := by unfold marks; simp [List.getD, h]
/-- j marks, then the old numbers. -/
def markTo (zs : List Int) (k : Int) (j : Nat) : List Int := (List.range zs.length).map fun i : Nat => if i < j then k + (i : Int) else zs.getD i 0
theorem markTo_len (zs : List Int) (k : Int) (j : Nat) : (markTo zs k j).length = zs.length := by unfold markTo; simp
theorem markTo_zero (zs : List Int) (k : Int) : markTo zs k 0 = zs := by
  apply List.ext_getElem?
  intro i
  unfold markTo
  by_cases h : i < zs.length
  · simp [h, List.getD]
  · simp [h]
theorem markTo_all (zs : List Int) (k : Int) : markTo zs k zs.length = marks k zs.length := by
  apply List.ext_getElem?
  intro i
  unfold markTo marks
  by_cases h : i < zs.length
  · simp [h]
  · simp [h]
theorem markTo_next (zs : List Int) (k : Int) (j : Nat) (h : j < zs.length) : ((markTo zs k j).map (Value.int .i64)).set j (.int .i64 (k + (j : Int))) = (markTo zs k (j + 1)).map (Value.int .i64) := by
  apply List.ext_getElem?
  intro i
  rw [List.getElem?_set]
  unfold markTo
  by_cases e : j = i
  · subst e; simp [h]
  · rw [if_neg e]
    by_cases hi : i < zs.length
    · by_cases h1 : i < j
      · simp [hi, h1, show i < j + 1 by omega]
      · simp [hi, h1, show ¬ i < j + 1 by omega]
    · simp [hi]
theorem markTo_get (zs : List Int) (k : Int) (j : Nat) (h : j < zs.length) : (markTo zs k j).getD j 0 = zs.getD j 0 := by unfold markTo; simp [List.getD, h]



end Go.Proofs.YtpkpjkceiikakaaGreatDoor
