/- Contracts over slices of int64: copied, compared. -/
import Derived.Test.YtppjmngnjdeigaaDoorBase
import Derived.Lib.Hide
import Derived.OwnWalk
namespace Go.Proofs.YtppjmngnjdeigaaDoor
open Go.ChangeShapes Go.WideShapes Go.ChangeAt Go.RowKit

/-- The numbers of a slice lie in memory. -/
def IntsIn (w : World) (a : Option Addr) (zs : List Int) : Prop := ∀ i, i < zs.length → ∃ b off, a = some ⟨b, off, none⟩ ∧ b < w.heap.size ∧ w.cell? ⟨b, off + i, none⟩ = some (.int .i64 (zs.getD i 0))
theorem intsIn_below {w w' : World} {a : Option Addr} {zs : List Int} (h : IntsIn w a zs) (hb : Below w.heap.size w w') : IntsIn w' a zs := fun i hi => by
  obtain ⟨b, off, ha, hlt, hc⟩ := h i hi
  exact ⟨b, off, ha, Nat.lt_of_lt_of_le hlt hb.size, (hb.cell hlt).trans hc⟩

/-- A new slice with just these numbers, in a block from B on. -/
def NewInts (B : Nat) (zs : List Int) (v : Value) (w : World) : Prop := ∃ g, v = .slice (some ⟨g, 0, none⟩) zs.length zs.length ∧ B ≤ g ∧ g < w.heap.size ∧ (∀ i, i < zs.length → w.cell? ⟨g, i, none⟩ = some (.int .i64 (zs.getD i 0)) ∧ w.frozen? ⟨g, i, none⟩ = false)
theorem newInts_in {B : Nat} {zs : List Int} {v : Value} {w : World} (h : NewInts B zs v w) : ∃ a, v = .slice a zs.length zs.length ∧ IntsIn w a zs := by
  obtain ⟨g, rfl, _, hg, hc⟩ := h
  exact ⟨_, rfl, fun i hi => ⟨g, 0, rfl, hg, by have := (hc i hi).1; simpa using this⟩⟩

/-- k numbers copied, zeros behind. -/
def rowTo (zs : List Int) (k : Nat) : List Value := (List.range zs.length).map fun i => if i < k then .int .i64 (zs.getD i 0) else .int .i64 0
theorem rowTo_len (zs : List Int) (k : Nat) : (rowTo zs k).length = zs.length := by
  unfold rowTo; simp
theorem rowTo_get (zs : List Int) (k i : Nat) (h : i < zs.length) : (rowTo zs k)[i]? = some (if i < k then .int .i64 (zs.getD i 0) else .int .i64 0) := by
  unfold rowTo; rw [List.getElem?_map, List.getElem?_range h]; rfl
theorem rowTo_zero (zs : List Int) : rowTo zs 0 = List.replicate zs.length (Value.int .i64 0) := by
  apply List.ext_getElem?
  intro i
  by_cases h : i < zs.length
  · rw [rowTo_get zs 0 i h, if_neg (Nat.not_lt_zero i), List.getElem?_replicate, if_pos h]
  · rw [List.getElem?_eq_none (by rw [rowTo_len]; omega), List.getElem?_replicate, if_neg h]
theorem rowTo_next (zs : List Int) (k : Nat) (h : k < zs.length) : (rowTo zs k).set k (Value.int .i64 (zs.getD k 0)) = rowTo zs (k + 1) := by
  apply List.ext_getElem?
  intro i
  rw [List.getElem?_set]
  by_cases e : k = i
  · subst e
    rw [if_pos rfl, if_pos (by rw [rowTo_len]; exact h), rowTo_get zs (k + 1) k h, if_pos (Nat.lt_succ_self k)]
  · rw [if_neg e]
    by_cases hi : i < zs.length
    · rw [rowTo_get zs k i hi, rowTo_get zs (k + 1) i hi]
      by_cases h1 : i < k
      · rw [if_pos h1, if_pos (by omega)]
      · rw [if_neg h1, if_neg (by omega)]
    · rw [List.getElem?_eq_none (by rw [rowTo_len]; omega), List.getElem?_eq_none (by rw [rowTo_len]; omega)]

theorem info_i64 : (Tryd.prog.info? 2).map (fun i => (i.zero, i.size, i.bytes)) = some (some (.int .i64 0), 1, 8) := by kernel_rfl

theorem ints_round {P : Nat → Nat → Prop} {w wr : World} {zs : List Int} {k : Nat} {e : TypeId} (h : k < zs.length) (O : wr.ownsRow w.heap.size e 1 (.slice (some ⟨w.heap.size, 0, none⟩) zs.length zs.length) zs.length (rowTo zs k))
    (hB : Below w.heap.size w wr) (_hl : w.heap.size < wr.heap.size) (z : Int) (hz : z = zs.getD k 0) (hm : P k (k + 1)) :
    (∃ k' : Nat, k' ≤ zs.length ∧ Value.int .i64 ((k : Int) + 1) = Value.int .i64 (k' : Int) ∧ (wr.setCell ⟨w.heap.size, k, none⟩ (.int .i64 z)).ownsRow w.heap.size e 1 (.slice (some ⟨w.heap.size, 0, none⟩) zs.length zs.length) zs.length (rowTo zs k') ∧ Below w.heap.size w (wr.setCell ⟨w.heap.size, k, none⟩ (.int .i64 z)) ∧ w.heap.size < (wr.setCell ⟨w.heap.size, k, none⟩ (.int .i64 z)).heap.size) ∧ P k (k + 1) := by
  subst hz
  have hs := O.stored k (.int .i64 (zs.getD k 0))
  rw [rowTo_next zs k h] at hs
  refine ⟨⟨k + 1, h, by rw [Int.natCast_succ], hs.1, Below.grown hB hs.2 hB.size (fun j hj => by cases hj; exact Nat.le_refl _), ?_⟩, hm⟩
  exact (hs.1.lt _ rfl).2

theorem newInts_of {w wr : World} {zs : List Int} {e : TypeId} (O : wr.ownsRow w.heap.size e 1 (.slice (some ⟨w.heap.size, 0, none⟩) zs.length zs.length) zs.length (rowTo zs zs.length)) (hl : w.heap.size < wr.heap.size) :
    NewInts w.heap.size zs (.slice (some ⟨w.heap.size, 0, none⟩) zs.length zs.length) wr := by
  refine ⟨_, rfl, Nat.le_refl _, hl, fun i hi => ⟨?_, O.frozenAt i⟩⟩
  rw [O.cellAt i (by omega), rowTo_get zs _ i hi, if_pos hi]

set_option maxHeartbeats 1600000 in
theorem toInts_any (a : Option Addr) (zs : List Int) (cap : Nat) (w : World) (h : IntsIn w a zs) (hl : zs.length ≤ 17592186044404) :
    Calls Tryd.prog 12 #[.slice a zs.length cap] w fun e w' => ∃ v, e = .returned v ∧ NewInts w.heap.size zs v w' ∧ Below w.heap.size w w' := by
  obtain ⟨i0, hi, hz0, hz1, hz2⟩ := info_parts info_i64
  have H := Lib.hid h
  clear h
  go_enter Tryd.func12, Tryd.ntmps12
  go_wp2_with (at_make; refine wpList_make_full _ rfl _ _ 32 rfl w.heap.size 2 i0 (.int .i64 0) 1 Tryd.underlying32 hi hz0 hz1 _ _ _ _ zs.length rfl rfl rfl rfl ?b2 ?b3 (Nat.le_refl _) ?_)
  case b2 => rw [hz2]; omega
  case b3 => unfold maxLen; omega
  intro w1 hown hgrow
  have O : w1.ownsRow w.heap.size 2 1 (.slice (some ⟨w.heap.size, 0, none⟩) zs.length zs.length) zs.length (rowTo zs 0) := by
    rw [rowTo_zero]; have := hown; rwa [toList_madeCells_one] at this
  have hB1 : Below w.heap.size w w1 := Below.grown (Below.refl _ _) hgrow (Nat.le_refl _) (fun j hj => by cases hj)
  have hlen1 : w.heap.size < w1.heap.size := (hown.lt _ rfl).2
  clear hown hgrow hi hz0 hz1 hz2
  go_wp2
  go_loopw [4] (fun i wr => ∃ k : Nat, k ≤ zs.length ∧ i = .int .i64 k ∧ wr.ownsRow w.heap.size 2 1 (.slice (some ⟨w.heap.size, 0, none⟩) zs.length zs.length) zs.length (rowTo zs k) ∧ Below w.heap.size w wr ∧ w.heap.size < wr.heap.size)
    (fun i _ => zs.length - (intOf i).toNat)
  case atStart => exact ⟨0, Nat.zero_le _, rfl, O, hB1, hlen1⟩
  case round =>
    obtain ⟨k, hk, rfl, O2, hB2, hlen2⟩ := hrel
    clear O hB1 hlen1
    have O3 := Lib.hid O2
    have B3 := Lib.hid hB2
    by_cases hkl : k < zs.length
    · obtain ⟨b, off, rfl, hb, hc0⟩ := H.out k hkl
      have hc := (hB2.cell hb).trans hc0
      have hd : decide ((k : Int) < (zs.length : Int)) = true := by simpa using hkl
      have hdst := O2.cellAt k (by omega)
      rw [rowTo_get zs k k hkl, if_neg (Nat.lt_irrefl k)] at hdst
      have hfz := O2.frozenAt k
      clear O2 hB2 hc0
      go_wp2
      refine ints_round (P := fun a b => zs.length - (intOf (Value.int .i64 ((a : Int) + 1))).toNat < zs.length - (intOf (Value.int .i64 (a : Int))).toNat) hkl O3.out B3.out hlen2 _ (by simp [hkl]) ?_
      simp [intOf]
      omega
    · have e : k = zs.length := by omega
      subst e
      clear O2 hB2
      go_wp2
      go_ret
      exact ⟨_, rfl, newInts_of O3.out hlen2, B3.out⟩
end Go.Proofs.YtppjmngnjdeigaaDoor
