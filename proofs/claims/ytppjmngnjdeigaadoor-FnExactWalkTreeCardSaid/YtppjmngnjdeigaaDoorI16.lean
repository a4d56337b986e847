/- Slices of int16: copied, compared. -/
import Derived.Test.YtppjmngnjdeigaaDoorKn
namespace Go.Proofs.YtppjmngnjdeigaaDoor
open Go.ChangeShapes Go.WideShapes Go.ChangeAt Go.RowKit

/-- A new slice with just these numbers, in a block from B on. -/
def NewI16s (B : Nat) (zs : List Int) (v : Value) (w : World) : Prop := ∃ g, v = .slice (some ⟨g, 0, none⟩) zs.length zs.length ∧ B ≤ g ∧ g < w.heap.size ∧ (∀ i, i < zs.length → w.cell? ⟨g, i, none⟩ = some (.int .i16 (zs.getD i 0)) ∧ w.frozen? ⟨g, i, none⟩ = false)
theorem newI16s_in {B : Nat} {zs : List Int} {v : Value} {w : World} (h : NewI16s B zs v w) : ∃ a, v = .slice a zs.length zs.length ∧ I16sIn w a zs := by
  obtain ⟨g, rfl, _, hg, hc⟩ := h
  exact ⟨_, rfl, fun i hi => ⟨g, 0, rfl, hg, by have := (hc i hi).1; simpa using this⟩⟩

/-- k numbers copied, zeros behind. -/
def rowS (zs : List Int) (k : Nat) : List Value := (List.range zs.length).map fun i => if i < k then .int .i16 (zs.getD i 0) else .int .i16 0
theorem rowS_len (zs : List Int) (k : Nat) : (rowS zs k).length = zs.length := by
  unfold rowS; simp
theorem rowS_get (zs : List Int) (k i : Nat) (h : i < zs.length) : (rowS zs k)[i]? = some (if i < k then .int .i16 (zs.getD i 0) else .int .i16 0) := by
  unfold rowS; rw [List.getElem?_map, List.getElem?_range h]; rfl
theorem rowS_zero (zs : List Int) : rowS zs 0 = List.replicate zs.length (Value.int .i16 0) := by
  apply List.ext_getElem?
  intro i
  by_cases h : i < zs.length
  · rw [rowS_get zs 0 i h, if_neg (Nat.not_lt_zero i), List.getElem?_replicate, if_pos h]
  · rw [List.getElem?_eq_none (by rw [rowS_len]; omega), List.getElem?_replicate, if_neg h]
theorem rowS_next (zs : List Int) (k : Nat) (h : k < zs.length) : (rowS zs k).set k (Value.int .i16 (zs.getD k 0)) = rowS zs (k + 1) := by
  apply List.ext_getElem?
  intro i
  rw [List.getElem?_set]
  by_cases e : k = i
  · subst e
    rw [if_pos rfl, if_pos (by rw [rowS_len]; exact h), rowS_get zs (k + 1) k h, if_pos (Nat.lt_succ_self k)]
  · rw [if_neg e]
    by_cases hi : i < zs.length
    · rw [rowS_get zs k i hi, rowS_get zs (k + 1) i hi]
      by_cases h1 : i < k
      · rw [if_pos h1, if_pos (by omega)]
      · rw [if_neg h1, if_neg (by omega)]
    · rw [List.getElem?_eq_none (by rw [rowS_len]; omega), List.getElem?_eq_none (by rw [rowS_len]; omega)]

theorem info_i16 : (Tryd.prog.info? 66).map (fun i => (i.zero, i.size, i.bytes)) = some (some (.int .i16 0), 1, 2) := by kernel_rfl

theorem i16s_round {P : Nat → Nat → Prop} {w wr : World} {zs : List Int} {k : Nat} {e : TypeId} (h : k < zs.length) (O : wr.ownsRow w.heap.size e 1 (.slice (some ⟨w.heap.size, 0, none⟩) zs.length zs.length) zs.length (rowS zs k))
    (hB : Below w.heap.size w wr) (_hl : w.heap.size < wr.heap.size) (z : Int) (hz : z = zs.getD k 0) (hm : P k (k + 1)) :
    (∃ k' : Nat, k' ≤ zs.length ∧ Value.int .i64 ((k : Int) + 1) = Value.int .i64 (k' : Int) ∧ (wr.setCell ⟨w.heap.size, k, none⟩ (.int .i16 z)).ownsRow w.heap.size e 1 (.slice (some ⟨w.heap.size, 0, none⟩) zs.length zs.length) zs.length (rowS zs k') ∧ Below w.heap.size w (wr.setCell ⟨w.heap.size, k, none⟩ (.int .i16 z)) ∧ w.heap.size < (wr.setCell ⟨w.heap.size, k, none⟩ (.int .i16 z)).heap.size) ∧ P k (k + 1) := by
  subst hz
  have hs := O.stored k (.int .i16 (zs.getD k 0))
  rw [rowS_next zs k h] at hs
  refine ⟨⟨k + 1, h, by rw [Int.natCast_succ], hs.1, Below.grown hB hs.2 hB.size (fun j hj => by cases hj; exact Nat.le_refl _), ?_⟩, hm⟩
  exact (hs.1.lt _ rfl).2

theorem newI16s_of {w wr : World} {zs : List Int} {e : TypeId} (O : wr.ownsRow w.heap.size e 1 (.slice (some ⟨w.heap.size, 0, none⟩) zs.length zs.length) zs.length (rowS zs zs.length)) (hl : w.heap.size < wr.heap.size) :
    NewI16s w.heap.size zs (.slice (some ⟨w.heap.size, 0, none⟩) zs.length zs.length) wr := by
  refine ⟨_, rfl, Nat.le_refl _, hl, fun i hi => ⟨?_, O.frozenAt i⟩⟩
  rw [O.cellAt i (by omega), rowS_get zs _ i hi, if_pos hi]

set_option maxHeartbeats 1600000 in
theorem toI16s_any (a : Option Addr) (zs : List Int) (cap : Nat) (w : World) (h : I16sIn w a zs) (hl : zs.length ≤ 17592186044404) :
    Calls Tryd.prog 74 #[.slice a zs.length cap] w fun e w' => ∃ v, e = .returned v ∧ NewI16s w.heap.size zs v w' ∧ Below w.heap.size w w' := by
  obtain ⟨i0, hi, hz0, hz1, hz2⟩ := info_parts info_i16
  have H := Lib.hid h
  clear h
  go_enter Tryd.func74, Tryd.ntmps74
  go_wp2_with (at_make; refine wpList_make_full _ rfl _ _ 67 rfl w.heap.size 66 i0 (.int .i16 0) 1 Tryd.underlying67 hi hz0 hz1 _ _ _ _ zs.length rfl rfl rfl rfl ?b2 ?b3 (Nat.le_refl _) ?_)
  case b2 => rw [hz2]; omega
  case b3 => unfold maxLen; omega
  intro w1 hown hgrow
  have O : w1.ownsRow w.heap.size 66 1 (.slice (some ⟨w.heap.size, 0, none⟩) zs.length zs.length) zs.length (rowS zs 0) := by
    rw [rowS_zero]; have := hown; rwa [toList_madeCells_one] at this
  have hB1 : Below w.heap.size w w1 := Below.grown (Below.refl _ _) hgrow (Nat.le_refl _) (fun j hj => by cases hj)
  have hlen1 : w.heap.size < w1.heap.size := (hown.lt _ rfl).2
  clear hown hgrow hi hz0 hz1 hz2
  go_wp2
  go_loopw [4] (fun i wr => ∃ k : Nat, k ≤ zs.length ∧ i = .int .i64 k ∧ wr.ownsRow w.heap.size 66 1 (.slice (some ⟨w.heap.size, 0, none⟩) zs.length zs.length) zs.length (rowS zs k) ∧ Below w.heap.size w wr ∧ w.heap.size < wr.heap.size)
    (fun i _ => zs.length - (intOf i).toNat)
  case atStart => exact ⟨0, Nat.zero_le _, rfl, O, hB1, hlen1⟩
  case round =>
    obtain ⟨k, hk, rfl, O2, hB2, hlen2⟩ := hrel
    clear O hB1 hlen1
    have O3 := Lib.hid O2
    have B3 := Lib.hid hB2
    by_cases hkl : k < zs.length
    · obtain ⟨b, off, rfl, hb, hc0⟩ := H.out k hkl
      have hc := (hB2.cell hb).trans hc0
      have hd : decide ((k : Int) < (zs.length : Int)) = true := by simpa using hkl
      have hdst := O2.cellAt k (by omega)
      rw [rowS_get zs k k hkl, if_neg (Nat.lt_irrefl k)] at hdst
      have hfz := O2.frozenAt k
      clear O2 hB2 hc0
      go_wp2
      refine i16s_round (P := fun a b => zs.length - (intOf (Value.int .i64 ((a : Int) + 1))).toNat < zs.length - (intOf (Value.int .i64 (a : Int))).toNat) hkl O3.out B3.out hlen2 _ (by simp [hkl]) ?_
      simp [intOf]
      omega
    · have e : k = zs.length := by omega
      subst e
      clear O2 hB2
      go_wp2
      go_ret
      exact ⟨_, rfl, newI16s_of O3.out hlen2, B3.out⟩


set_option maxHeartbeats 1600000 in
theorem eqI16s_same (a b : Option Addr) (zs : List Int) (c d : Nat) (w : World) (ha : I16sIn w a zs) (hb : I16sIn w b zs) (hl : zs.length ≤ 17592186044404) :
    Calls Tryd.prog 78 #[.slice a zs.length c, .slice b zs.length d] w fun e w' => e = .returned (.bool true) ∧ Below w.heap.size w w' := by
  have A := Lib.hid ha
  have B := Lib.hid hb
  clear ha hb
  go_enter Tryd.func78, Tryd.ntmps78
  go_wp2
  go_loopw [5] (fun i wr => ∃ k : Nat, k ≤ zs.length ∧ i = .int .i64 k ∧ Below w.heap.size w wr) (fun i _ => zs.length - (intOf i).toNat)
  case atStart => exact ⟨0, Nat.zero_le _, rfl, Below.refl _ _⟩
  case round =>
    obtain ⟨k, hk, rfl, hB2⟩ := hrel
    have B3 := Lib.hid hB2
    by_cases hkl : k < zs.length
    · obtain ⟨b1, o1, rfl, h1, hc1⟩ := A.out k hkl
      obtain ⟨b2, o2, rfl, h2, hc2⟩ := B.out k hkl
      have g1 := (hB2.cell h1).trans hc1
      have g2 := (hB2.cell h2).trans hc2
      have hd : decide ((k : Int) < (zs.length : Int)) = true := by simpa using hkl
      generalize zs.getD k 0 = z at g1 g2
      have hz : (z != z) = false := by simp
      clear hB2 hc1 hc2
      go_wp2
      go_quiet (fail)
      go_wp2
      refine ⟨⟨k + 1, hkl, by rw [Int.natCast_succ], (by have h := B3.out; ((repeat' (first | (with_reducible exact Below.refl _ _) | (with_reducible assumption) | (with_reducible refine below_drewN ?_ _) | (with_reducible refine Below.drew ?_) | (with_reducible refine below_new ?_ _) | (with_reducible refine below_next ?_ (by with_reducible assumption)) | (with_reducible refine Below.setCell ?_ ?_ _) | go_size)); done))⟩, ?_⟩
      simp [intOf]
      omega
    · have e : k = zs.length := by omega
      subst e
      clear hB2
      go_wp2
      go_ret
      exact ⟨rfl, B3.out⟩
end Go.Proofs.YtppjmngnjdeigaaDoor
