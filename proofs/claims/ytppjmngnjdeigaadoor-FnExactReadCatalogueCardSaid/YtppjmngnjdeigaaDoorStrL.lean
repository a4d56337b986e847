/- Contracts of the laws' own functions on slices of strings: measured, copied, compared; arguments opened. -/
import Derived.Test.YtppjmngnjdeigaaDoorStrs
import Derived.BigQuiet
import Derived.Deep.QuietTactic
import Derived.SliceStrings
import Derived.OwnWalk
namespace Go.Proofs.YtppjmngnjdeigaaDoor
open Go.ChangeShapes Go.WideShapes Go.ChangeAt Go.RowKit

theorem strs_at {w : World} {a : Addr} {ss : List ByteArray} (h : ∀ i, i < ss.length → w.cell? (a.add i) = some (.string (ss.getD i ByteArray.empty))) (hn : 0 < ss.length) : ∃ b off, a = ⟨b, off, none⟩ ∧ ∀ i, i < ss.length → w.cell? ⟨b, off + i, none⟩ = some (.string (ss.getD i ByteArray.empty)) := by
  obtain ⟨b, off, sp⟩ := a
  cases sp with
  | none => exact ⟨b, off, rfl, fun i hi => by
    have := h i hi
    by_cases e : i = 0
    · subst e; simpa [Addr.add] using this
    · simpa [Addr.add, e] using this⟩
  | some x =>
    have := h 0 hn
    simp [World.cell?, Addr.add] at this
    split at this <;> simp at this

theorem open_strS {H : Type} {enc : TypeId × Value → H} {P : Program} {W : World} {t e : TypeId} {v : Value} {d : DataW H} {p : List MemPlace} {r : Reach} {b : Nat} (ht : P.underlying t = some (.slice e)) (he : P.underlying e = some .string) (hc : P.cellsOf e = 1)
    (hv : Value.okWide P W r b t v) (h : DataW.Trod enc P W 0 (fun _ => true) true t v d p) : ∃ a zs cap, v = .slice a zs.length cap ∧ StrsIn W a zs ∧ Fit zs ∧ zs.length ≤ maxLen := by
  obtain ⟨a0, len, cap, rfl⟩ := okWide_slice ht hv
  obtain ⟨fuel, hf⟩ := h
  rcases open_strings ht he hc hf with ⟨hcs, hx⟩ | ⟨a, len', cap', zs, hcs, _, hl, hm, hz, hx, hcell, hsz⟩
  · simp [Value.cells] at hcs
    obtain ⟨rfl, rfl, rfl⟩ := hcs
    exact ⟨none, [], 0, rfl, fun i hi => by simp at hi, fun i hi => by simp at hi, by simp⟩
  · simp [Value.cells] at hcs
    obtain ⟨rfl, rfl, rfl⟩ := hcs
    simp at hz
    refine ⟨some a, zs.take len, cap, ?_, ?_, ?_, ?_⟩
    · rw [List.length_take, Nat.min_eq_left (by omega)]
    · intro i hi
      rw [List.length_take] at hi
      obtain ⟨b, off, rfl, hcc⟩ := strs_at hcell (by omega)
      have h2 := hcc i (by omega)
      refine ⟨b, off, rfl, World.block_lt_of_cell? _ _ h2, ?_⟩
      rw [h2]
      simp [List.getD, show i < len by omega]
      rfl
    · intro i hi
      rw [List.length_take] at hi
      have hi2 : i < zs.length := by omega
      have : (zs.take len).getD i ⟨#[]⟩ = zs[i] := by simp [List.getD, show i < len by omega, hi2]
      rw [this]
      exact hsz _ (List.getElem_mem hi2)
    · rw [List.length_take]; omega

/-! ### Measured -/
def totS (zs : List ByteArray) : Nat → Nat
  | 0 => zs.length
  | k + 1 => totS zs k + (zs.getD k ⟨#[]⟩).size
theorem totS_len (zs : List ByteArray) : ∀ k, zs.length ≤ totS zs k
  | 0 => Nat.le_refl _
  | k + 1 => Nat.le_trans (totS_len zs k) (Nat.le_add_right _ _)
theorem totS_mono (zs : List ByteArray) (k : Nat) : ∀ d, totS zs k ≤ totS zs (k + d)
  | 0 => Nat.le_refl _
  | d + 1 => Nat.le_trans (totS_mono zs k d) (Nat.le_add_right _ _)
def leftS (zs : List ByteArray) (n : Nat) : Int := if totS zs zs.length ≤ n then (n : Int) - totS zs zs.length else -1
theorem leftS_no {zs : List ByteArray} {n k : Nat} (hk : k ≤ zs.length) (h : n < totS zs k) : leftS zs n = -1 := by
  unfold leftS
  have := totS_mono zs k (zs.length - k)
  rw [show k + (zs.length - k) = zs.length from by omega] at this
  rw [if_neg (by omega)]
theorem leftS_yes {zs : List ByteArray} {n : Nat} (h : totS zs zs.length ≤ n) : leftS zs n = (n : Int) - totS zs zs.length := by unfold leftS; rw [if_pos h]


/-! ### Compared -/
/-! ### Copied -/
/-- A new slice with just these numbers, in a block from B on. -/
def NewStrs (B : Nat) (zs : List ByteArray) (v : Value) (w : World) : Prop := ∃ g, v = .slice (some ⟨g, 0, none⟩) zs.length zs.length ∧ B ≤ g ∧ g < w.heap.size ∧ (∀ i, i < zs.length → w.cell? ⟨g, i, none⟩ = some (.string (zs.getD i ⟨#[]⟩)) ∧ w.frozen? ⟨g, i, none⟩ = false)
theorem newStrs_in {B : Nat} {zs : List ByteArray} {v : Value} {w : World} (h : NewStrs B zs v w) : ∃ a, v = .slice a zs.length zs.length ∧ StrsIn w a zs := by
  obtain ⟨g, rfl, _, hg, hc⟩ := h
  exact ⟨_, rfl, fun i hi => ⟨g, 0, rfl, hg, by have := (hc i hi).1; simpa using this⟩⟩

/-- k numbers copied, zeros behind. -/
def rowS (zs : List ByteArray) (k : Nat) : List Value := (List.range zs.length).map fun i => if i < k then .string (zs.getD i ⟨#[]⟩) else .string ⟨#[]⟩
theorem rowS_len (zs : List ByteArray) (k : Nat) : (rowS zs k).length = zs.length := by
  unfold rowS; simp
theorem rowS_get (zs : List ByteArray) (k i : Nat) (h : i < zs.length) : (rowS zs k)[i]? = some (if i < k then .string (zs.getD i ⟨#[]⟩) else .string ⟨#[]⟩) := by
  unfold rowS; rw [List.getElem?_map, List.getElem?_range h]; rfl
theorem rowS_zero (zs : List ByteArray) : rowS zs 0 = List.replicate zs.length (Value.string ⟨#[]⟩) := by
  apply List.ext_getElem?
  intro i
  by_cases h : i < zs.length
  · rw [rowS_get zs 0 i h, if_neg (Nat.not_lt_zero i), List.getElem?_replicate, if_pos h]
  · rw [List.getElem?_eq_none (by rw [rowS_len]; omega), List.getElem?_replicate, if_neg h]
theorem rowS_next (zs : List ByteArray) (k : Nat) (h : k < zs.length) : (rowS zs k).set k (Value.string (zs.getD k ⟨#[]⟩)) = rowS zs (k + 1) := by
  apply List.ext_getElem?
  intro i
  rw [List.getElem?_set]
  by_cases e : k = i
  · subst e
    rw [if_pos rfl, if_pos (by rw [rowS_len]; exact h), rowS_get zs (k + 1) k h, if_pos (Nat.lt_succ_self k)]
  · rw [if_neg e]
    by_cases hi : i < zs.length
    · rw [rowS_get zs k i hi, rowS_get zs (k + 1) i hi]
      by_cases h1 : i < k
      · rw [if_pos h1, if_pos (by omega)]
      · rw [if_neg h1, if_neg (by omega)]
    · rw [List.getElem?_eq_none (by rw [rowS_len]; omega), List.getElem?_eq_none (by rw [rowS_len]; omega)]

theorem info_str : (Tryd.prog.info? 9).map (fun i => (i.zero, i.size, i.bytes)) = some (some (.string ⟨#[]⟩), 1, 16) := by kernel_rfl

theorem strs_round {P : Nat → Nat → Prop} {w wr : World} {zs : List ByteArray} {k : Nat} {e : TypeId} (h : k < zs.length) (O : wr.ownsRow w.heap.size e 1 (.slice (some ⟨w.heap.size, 0, none⟩) zs.length zs.length) zs.length (rowS zs k))
    (hB : Below w.heap.size w wr) (_hl : w.heap.size < wr.heap.size) (z : ByteArray) (hz : z = zs.getD k ⟨#[]⟩) (hm : P k (k + 1)) :
    (∃ k' : Nat, k' ≤ zs.length ∧ Value.int .i64 ((k : Int) + 1) = Value.int .i64 (k' : Int) ∧ (wr.setCell ⟨w.heap.size, k, none⟩ (.string z)).ownsRow w.heap.size e 1 (.slice (some ⟨w.heap.size, 0, none⟩) zs.length zs.length) zs.length (rowS zs k') ∧ Below w.heap.size w (wr.setCell ⟨w.heap.size, k, none⟩ (.string z)) ∧ w.heap.size < (wr.setCell ⟨w.heap.size, k, none⟩ (.string z)).heap.size) ∧ P k (k + 1) := by
  subst hz
  have hs := O.stored k (.string (zs.getD k ⟨#[]⟩))
  rw [rowS_next zs k h] at hs
  refine ⟨⟨k + 1, h, by rw [Int.natCast_succ], hs.1, Below.grown hB hs.2 hB.size (fun j hj => by cases hj; exact Nat.le_refl _), ?_⟩, hm⟩
  exact (hs.1.lt _ rfl).2

theorem newStrs_of {w wr : World} {zs : List ByteArray} {e : TypeId} (O : wr.ownsRow w.heap.size e 1 (.slice (some ⟨w.heap.size, 0, none⟩) zs.length zs.length) zs.length (rowS zs zs.length)) (hl : w.heap.size < wr.heap.size) :
    NewStrs w.heap.size zs (.slice (some ⟨w.heap.size, 0, none⟩) zs.length zs.length) wr := by
  refine ⟨_, rfl, Nat.le_refl _, hl, fun i hi => ⟨?_, O.frozenAt i⟩⟩
  rw [O.cellAt i (by omega), rowS_get zs _ i hi, if_pos hi]

end Go.Proofs.YtppjmngnjdeigaaDoor
