/- Slices of int64 that the call owns: read, compared, marked. -/
import Derived.Test.YtppjmngnjdeigaaDoorInts
import Derived.BigQuiet
import Derived.Deep.QuietTactic
namespace Go.Proofs.YtppjmngnjdeigaaDoor
open Go.ChangeShapes Go.WideShapes Go.ChangeAt Go.RowKit

/-- The slice's numbers are these, in a row of the call's own from block B on. -/
def OwnInts (B : Nat) (zs : List Int) (v : Value) (w : World) : Prop := w.ownsRow B 2 1 v zs.length (zs.map (Value.int .i64))
theorem ownInts_in {B : Nat} {zs : List Int} {v : Value} {w : World} (h : OwnInts B zs v w) : ∃ a c, v = .slice a zs.length c ∧ IntsIn w a zs := by
  have h0 := h
  obtain ⟨_, h2⟩ := h
  rcases h2 with ⟨rfl, hn⟩ | ⟨g, cap, cur, rfl, hb, hg, _⟩
  · exact ⟨none, 0, by rw [hn], fun i hi => by omega⟩
  · refine ⟨_, cap, rfl, fun i hi => ⟨g, 0, rfl, (Array.getElem?_eq_some_iff.1 hg).1, ?_⟩⟩
    have := World.ownsRow.cellAt h0 i (by omega)
    rw [Nat.zero_add, this, List.getElem?_map, List.getElem?_eq_getElem hi]
    simp [List.getD, hi]
/-- What lies from block B on: nothing below it is touched by a world that is the same from there downwards. -/
theorem ownInts_kept {B : Nat} {zs : List Int} {v : Value} {w w' : World} (h : OwnInts B zs v w) (hb : Below w.heap.size w w') : OwnInts B zs v w' := by
  obtain ⟨h1, h2⟩ := h
  refine ⟨h1, ?_⟩
  rcases h2 with hn | ⟨g, cap, cur, rfl, hB, hg, rest⟩
  · exact .inl hn
  · exact .inr ⟨g, cap, cur, rfl, hB, (hb.block g (Array.getElem?_eq_some_iff.1 hg).1).trans hg, rest⟩

/-- The marks from k on. -/
def marks (k : Int) (n : Nat) : List Int := (List.range n).map fun i : Nat => k + (i : Int)
theorem marks_len (k : Int) (n : Nat) : (marks k n).length = n := by unfold marks; simp
theorem marks_get (k : Int) (n i : Nat) (h : i < n) : (marks k n).getD i 0 = k + (i : Int) := by unfold marks; simp [List.getD, h]
/-- j marks, then the old numbers. -/
def markTo (zs : List Int) (k : Int) (j : Nat) : List Int := (List.range zs.length).map fun i : Nat => if i < j then k + (i : Int) else zs.getD i 0
theorem markTo_len (zs : List Int) (k : Int) (j : Nat) : (markTo zs k j).length = zs.length := by unfold markTo; simp
theorem markTo_zero (zs : List Int) (k : Int) : markTo zs k 0 = zs := by
  apply List.ext_getElem?
  intro i
  unfold markTo
  by_cases h : i < zs.length
  · simp [h, List.getD]
  · simp [h]
theorem markTo_all (zs : List Int) (k : Int) : markTo zs k zs.length = marks k zs.length := by
  apply List.ext_getElem?
  intro i
  unfold markTo marks
  by_cases h : i < zs.length
  · simp [h]
  · simp [h]
theorem markTo_next (zs : List Int) (k : Int) (j : Nat) (h : j < zs.length) : ((markTo zs k j).map (Value.int .i64)).set j (.int .i64 (k + (j : Int))) = (markTo zs k (j + 1)).map (Value.int .i64) := by
  apply List.ext_getElem?
  intro i
  rw [List.getElem?_set]
  unfold markTo
  by_cases e : j = i
  · subst e; simp [h]
  · rw [if_neg e]
    by_cases hi : i < zs.length
    · by_cases h1 : i < j
      · simp [hi, h1, show i < j + 1 by omega]
      · simp [hi, h1, show ¬ i < j + 1 by omega]
    · simp [hi]
theorem markTo_get (zs : List Int) (k : Int) (j : Nat) (h : j < zs.length) : (markTo zs k j).getD j 0 = zs.getD j 0 := by unfold markTo; simp [List.getD, h]

set_option maxHeartbeats 1600000 in
theorem eqInts_same (a b : Option Addr) (zs : List Int) (c d : Nat) (w : World) (ha : IntsIn w a zs) (hb : IntsIn w b zs) (hl : zs.length ≤ 17592186044404) :
    Calls Tryd.prog 14 #[.slice a zs.length c, .slice b zs.length d] w fun e w' => e = .returned (.bool true) ∧ Below w.heap.size w w' := by
  have A := Lib.hid ha
  have B := Lib.hid hb
  clear ha hb
  go_enter Tryd.func14, Tryd.ntmps14
  go_wp2
  go_loopw [5] (fun i wr => ∃ k : Nat, k ≤ zs.length ∧ i = .int .i64 k ∧ Below w.heap.size w wr) (fun i _ => zs.length - (intOf i).toNat)
  case atStart => exact ⟨0, Nat.zero_le _, rfl, Below.refl _ _⟩
  case round =>
    obtain ⟨k, hk, rfl, hB2⟩ := hrel
    have B3 := Lib.hid hB2
    by_cases hkl : k < zs.length
    · obtain ⟨b1, o1, rfl, h1, hc1⟩ := A.out k hkl
      obtain ⟨b2, o2, rfl, h2, hc2⟩ := B.out k hkl
      have g1 := (hB2.cell h1).trans hc1
      have g2 := (hB2.cell h2).trans hc2
      have hd : decide ((k : Int) < (zs.length : Int)) = true := by simpa using hkl
      generalize zs.getD k 0 = z at g1 g2
      have hz : (z != z) = false := by simp
      clear hB2 hc1 hc2
      go_wp2
      go_quiet (fail)
      go_wp2
      refine ⟨⟨k + 1, hkl, by rw [Int.natCast_succ], (by have h := B3.out; ((repeat' (first | (with_reducible exact Below.refl _ _) | (with_reducible assumption) | (with_reducible refine below_drewN ?_ _) | (with_reducible refine Below.drew ?_) | (with_reducible refine below_new ?_ _) | (with_reducible refine below_next ?_ (by with_reducible assumption)) | (with_reducible refine Below.setCell ?_ ?_ _) | go_size)); done))⟩, ?_⟩
      simp [intOf]
      omega
    · have e : k = zs.length := by omega
      subst e
      clear hB2
      go_wp2
      go_ret
      exact ⟨rfl, B3.out⟩

set_option maxHeartbeats 1600000 in
theorem heldInts_any (a : Option Addr) (k : Int) (n c : Nat) (w : World) (ha : IntsIn w a (marks k n)) (hn : n ≤ 17592186044404) (k0 : 0 ≤ k) (k1 : k ≤ 1000000) :
    Calls Tryd.prog 18 #[.slice a n c, .int .i64 k] w fun e w' => e = .returned (.int .i64 (k + (n : Int))) ∧ w = w' := by
  have A := Lib.hid ha
  clear ha
  go_enter Tryd.func18, Tryd.ntmps18
  go_wp2
  go_loop [1, 5] (fun q i => ∃ j : Nat, j ≤ n ∧ i = .int .i64 j ∧ q = .int .i64 (k + (j : Int))) (fun _ i => n - (intOf i).toNat)
  case atStart => exact ⟨0, Nat.zero_le _, rfl, by simp⟩
  case round =>
    obtain ⟨j, hj, rfl, rfl⟩ := hrel
    by_cases hkl : j < n
    · obtain ⟨b1, o1, rfl, h1, hc1⟩ := A.out j (by rw [marks_len]; exact hkl)
      rw [marks_get k n j hkl] at hc1
      have hd : decide ((j : Int) < (n : Int)) = true := by simpa using hkl
      have v1 : IntKind.i64.wrap (k + (j : Int)) = k + (j : Int) := IntWalk.i64_in _ (by omega)
      have v2 : IntKind.i64.wrap (k + (j : Int) + 1) = k + (j : Int) + 1 := IntWalk.i64_in _ (by omega)
      have hz : (k + (j : Int) != k + (j : Int)) = false := by simp
      go_wp2
      all_goals exact ⟨⟨j + 1, hkl, by rw [Int.natCast_succ], by rw [Int.natCast_succ, Int.add_assoc]⟩, by simp [intOf]; omega⟩
    · have e : j = n := by omega
      subst e
      go_wp2
      go_ret
      exact ⟨rfl, rfl⟩

set_option maxHeartbeats 1600000 in
theorem markInts_any (B : Nat) (zs : List Int) (v : Value) (k : Int) (w : World) (h : OwnInts B zs v w) (hn : zs.length ≤ 17592186044404) (k0 : 0 ≤ k) (k1 : k ≤ 1000000) :
    Calls Tryd.prog 17 #[v, .int .i64 k] w fun e w' => e = .returned (.int .i64 (k + (zs.length : Int))) ∧ OwnInts B (marks k zs.length) v w' ∧ Below B w w' := by
  obtain ⟨h1, h2⟩ := h
  rcases h2 with ⟨rfl, hz⟩ | ⟨g, cap, cur, rfl, hb, hg, hcap, hmax, hsz, htk⟩
  · have e : zs = [] := List.length_eq_zero_iff.1 hz
    subst e
    go_enter Tryd.func17, Tryd.ntmps17
    go_wp2
    refine wp_loop_rounds 1 ?_
    rw [rounds_succ]; go_wp2
    go_ret
    exact ⟨by simp, ⟨by simp [marks], .inl ⟨rfl, by simp [marks]⟩⟩, Below.refl _ _⟩
  · have O : w.ownsRow B 2 1 (.slice (some ⟨g, 0, none⟩) zs.length cap) zs.length ((markTo zs k 0).map (Value.int .i64)) := by
      rw [markTo_zero]; exact ⟨h1, .inr ⟨g, cap, cur, rfl, hb, hg, hcap, hmax, hsz, htk⟩⟩
    have hgB := Lib.hid hb
    clear h1 hg hcap hsz htk hmax cur
    go_enter Tryd.func17, Tryd.ntmps17
    go_wp2
    go_loopw [1, 5] (fun q i wr => ∃ j : Nat, j ≤ zs.length ∧ i = .int .i64 j ∧ q = .int .i64 (k + (j : Int)) ∧ wr.ownsRow B 2 1 (.slice (some ⟨g, 0, none⟩) zs.length cap) zs.length ((markTo zs k j).map (Value.int .i64)) ∧ Below B w wr) (fun _ i _ => zs.length - (intOf i).toNat)
    case atStart => exact ⟨0, Nat.zero_le _, rfl, by simp, O, Below.refl _ _⟩
    case round =>
      obtain ⟨j, hj, rfl, rfl, O2, hB2⟩ := hrel
      clear O
      have O3 := Lib.hid O2
      have B3 := Lib.hid hB2
      by_cases hkl : j < zs.length
      · have hd : decide ((j : Int) < (zs.length : Int)) = true := by simpa using hkl
        have v1 : IntKind.i64.wrap (k + (j : Int)) = k + (j : Int) := IntWalk.i64_in _ (by omega)
        have v2 : IntKind.i64.wrap (k + (j : Int) + 1) = k + (j : Int) + 1 := IntWalk.i64_in _ (by omega)
        have hdst := O2.cellAt j (by omega)
        rw [List.getElem?_map, List.getElem?_eq_getElem (by rw [markTo_len]; exact hkl)] at hdst
        simp only [Option.map_some] at hdst
        generalize (markTo zs k j)[j]'(by rw [markTo_len]; exact hkl) = old at hdst
        have hfz := O2.frozenAt j
        clear O2 hB2
        go_wp2
        have hs := O3.out.stored j (.int .i64 (k + (j : Int)))
        rw [markTo_next zs k j hkl] at hs
        refine ⟨⟨j + 1, hkl, by rw [Int.natCast_succ], by rw [Int.natCast_succ, Int.add_assoc], hs.1, B3.out.setCell hgB.out _⟩, by simp [intOf]; omega⟩
      · have e : j = zs.length := by omega
        subst e
        clear O2 hB2
        go_wp2
        go_ret
        have o := O3.out
        rw [markTo_all] at o
        exact ⟨rfl, by unfold OwnInts; rw [marks_len]; exact o, B3.out⟩
end Go.Proofs.YtppjmngnjdeigaaDoor
