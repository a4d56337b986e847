/- Contracts of the laws' own functions on slices of cards: carried over. -/
import Derived.Test.YtppjmngnjdeigaaDoorEnt2
namespace Go.Proofs.YtppjmngnjdeigaaDoor
open Go.ChangeShapes Go.WideShapes Go.ChangeAt Go.RowKit

def ecell3 (c : Et) (r : Nat) : Value := if r = 0 then .string c.s else if r = 1 then .int .i64 c.a else .int .i64 c.b
/-- k cards carried over, empty ones behind. -/
def rowE (cs : List Et) (k : Nat) : List Value := (List.range (cs.length * 3)).map fun i => ecell3 (if i / 3 < k then etAt cs (i / 3) else default) (i % 3)
theorem rowE_len (cs : List Et) (k : Nat) : (rowE cs k).length = cs.length * 3 := by unfold rowE; simp
theorem rowE_get (cs : List Et) (k i : Nat) (h : i < cs.length * 3) : (rowE cs k)[i]? = some (ecell3 (if i / 3 < k then etAt cs (i / 3) else default) (i % 3)) := by
  unfold rowE; rw [List.getElem?_map, List.getElem?_range h]; rfl
theorem rowE_next (cs : List Et) (k : Nat) (h : k < cs.length) :
    (((rowE cs k).set (k * 3) (.string (etAt cs k).s)).set (k * 3 + 1) (.int .i64 (etAt cs k).a)).set (k * 3 + 2) (.int .i64 (etAt cs k).b) = rowE cs (k + 1) := by
  apply List.ext_getElem?
  intro i
  rw [List.getElem?_set, List.getElem?_set, List.getElem?_set]
  simp only [List.length_set, rowE_len]
  by_cases hi : i < cs.length * 3
  · rw [rowE_get cs (k + 1) i hi]
    by_cases e2 : k * 3 + 2 = i
    · subst e2
      rw [if_pos rfl, if_pos hi, show (k * 3 + 2) / 3 = k by omega, show (k * 3 + 2) % 3 = 2 by omega, if_pos (Nat.lt_succ_self k)]; rfl
    · rw [if_neg e2]
      by_cases e1 : k * 3 + 1 = i
      · subst e1
        rw [if_pos rfl, if_pos hi, show (k * 3 + 1) / 3 = k by omega, show (k * 3 + 1) % 3 = 1 by omega, if_pos (Nat.lt_succ_self k)]; rfl
      · rw [if_neg e1]
        by_cases e0 : k * 3 = i
        · subst e0
          rw [if_pos rfl, if_pos hi, show k * 3 / 3 = k by omega, show k * 3 % 3 = 0 by omega, if_pos (Nat.lt_succ_self k)]; rfl
        · rw [if_neg e0, rowE_get cs k i hi]
          by_cases c : i / 3 < k
          · rw [if_pos c, if_pos (by omega)]
          · rw [if_neg c, if_neg (by omega)]
  · rw [List.getElem?_eq_none (by rw [rowE_len]; omega), List.getElem?_eq_none (by rw [rowE_len]; omega)]
    repeat (split; · first | omega | rfl)
    first | rfl | (split <;> first | omega | rfl)

theorem rowE_zero (cs : List Et) : (madeCells #[.string ByteArray.empty, .int .i64 0, .int .i64 0] (cs.length * 3)).toList = rowE cs 0 := by
  apply List.ext_getElem?
  intro i
  by_cases hi : i < cs.length * 3
  · rw [rowE_get cs 0 i hi, if_neg (Nat.not_lt_zero _)]
    have h3 : i % 3 = 0 ∨ i % 3 = 1 ∨ i % 3 = 2 := by omega
    rcases h3 with h | h | h <;> simp [madeCells, hi, h, ecell3] <;> rfl
  · rw [List.getElem?_eq_none (by simp [madeCells]; omega), List.getElem?_eq_none (by rw [rowE_len]; omega)]

theorem info_entry : (Tryd.prog.info? 81).map (fun i => (i.zero, i.size, i.bytes)) = some (some (.agg #[.string ByteArray.empty, .int .i64 0, .int .i64 0]), 3, 32) := by kernel_rfl

theorem ownsRow_belowE {w w' : World} {B e size n : Nat} {v : Value} {xs : List Value} (h : w.ownsRow B e size v n xs) (hb : Below w.heap.size w w') : w'.ownsRow B e size v n xs := by
  obtain ⟨h1, h2⟩ := h
  refine ⟨h1, ?_⟩
  rcases h2 with hn | ⟨g, cap, cur, rfl, hB, hg, rest⟩
  · exact .inl hn
  · exact .inr ⟨g, cap, cur, rfl, hB, (hb.block g (Array.getElem?_eq_some_iff.1 hg).1).trans hg, rest⟩

def NewE (cs : List Et) (w : World) (e : Ending) (w' : World) : Prop := ∃ v, e = .returned v ∧ NewEnts w.heap.size cs v w' ∧ Below w.heap.size w w'

end Go.Proofs.YtppjmngnjdeigaaDoor
