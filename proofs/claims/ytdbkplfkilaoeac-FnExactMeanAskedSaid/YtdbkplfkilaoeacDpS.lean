/- How deep the knots of a tree lie: the model's row. -/
import Derived.Test.YtdbkplfkilaoeacDpI
import Derived.Test.YtdbkplfkilaoeacVtS
import Derived.Test.YtdbkplfkilaoeacQuiet
import Derived.Test.YtdbkplfkilaoeacFloat
import Derived.StillTailTactics
import Derived.Laws.MakeOwn
namespace Go.Proofs.Ytdbkplfkilaoeac
open Go.ChangeShapes Go.WideShapes Go.ChangeAt Go.RowKit

def dpv (ks : List Kn) (L : List Int) (j : Nat) : Nat := if 0 < L.count (j : Int) then dep ks j else 0
def dpV (ks : List Kn) (L : List Int) : List Value := (List.range ks.length).map fun j => .int .i64 (dpv ks L j : Int)
theorem dpV_len (ks : List Kn) (L : List Int) : (dpV ks L).length = ks.length := by unfold dpV; simp
theorem dpV_get (ks : List Kn) (L : List Int) (j : Nat) (h : j < ks.length) : (dpV ks L)[j]? = some (.int .i64 (dpv ks L j : Int)) := by
  unfold dpV; rw [List.getElem?_map, List.getElem?_range h]; rfl
theorem dpV_nil (ks : List Kn) : List.replicate ks.length (Value.int .i64 0) = dpV ks [] := by
  refine List.ext_getElem? fun j => ?_
  by_cases h : j < ks.length
  · rw [dpV_get _ _ _ h, List.getElem?_replicate, if_pos h]; rfl
  · rw [List.getElem?_eq_none (by simp; omega), List.getElem?_eq_none (by rw [dpV_len]; omega)]
theorem dpV_next (ks : List Kn) (L : List Int) (x : Nat) (h : x < ks.length) : (dpV ks L).set x (.int .i64 (dep ks x : Int)) = dpV ks (L ++ [(x : Int)]) := by
  refine List.ext_getElem? fun j => ?_
  rw [List.getElem?_set]
  by_cases e : x = j
  · subst e
    rw [if_pos rfl, if_pos (by rw [dpV_len]; exact h), dpV_get _ _ _ h]
    unfold dpv
    rw [if_pos (by rw [List.count_append]; simp)]
  · rw [if_neg e]
    by_cases hj : j < ks.length
    · rw [dpV_get _ _ _ hj, dpV_get _ _ _ hj]
      have z : ([(x : Int)] : List Int).count (j : Int) = 0 := by rw [List.count_singleton, if_neg (by simp; omega)]
      unfold dpv
      rw [List.count_append, z, Nat.add_zero]
    · rw [List.getElem?_eq_none (by rw [dpV_len]; omega), List.getElem?_eq_none (by rw [dpV_len]; omega)]
theorem dpv_at {ks : List Kn} (T : TreeOk ks) {i t : Nat} (hi : i < ks.length) : dpv ks (nxt ks i t) i = dep ks i := by
  unfold dpv
  by_cases h : i = 0
  · subst h; rw [dep_zero]; simp
  · have := nx_before T hi (by omega)
    have := count_app (nx ks i) ((knAt ks i).ns.take t) (i : Int)
    rw [if_pos (by unfold nxt; omega)]
theorem dpv_all {ks : List Kn} (T : TreeOk ks) {i : Nat} (hi : i < ks.length) : dpv ks (nx ks ks.length) i = dep ks i := by
  unfold dpv
  by_cases h : i = 0
  · subst h; rw [dep_zero]; simp
  · have := T.2.2.2 i hi (by omega)
    rw [if_pos (by omega)]
/-- The model's row: what is known once so much has been read. -/
def DpRow (w : World) (g : Nat) (ks : List Kn) (L : List Int) : Prop := w.ownsRow g 2 1 (.slice (some ⟨g, 0, none⟩) ks.length ks.length) ks.length (dpV ks L)
theorem dpRow_next {w : World} {g : Nat} {ks : List Kn} {L : List Int} {x : Nat} (h : DpRow w g ks L) (hx : x < ks.length) : DpRow (w.setCell ⟨g, x, none⟩ (.int .i64 (dep ks x : Int))) g ks (L ++ [(x : Int)]) := by
  have s := (World.ownsRow.stored h x (.int .i64 (dep ks x : Int))).1
  rw [dpV_next ks L x hx] at s
  exact s
theorem dpRow_below {w w' : World} {g : Nat} {ks : List Kn} {L : List Int} (h : DpRow w g ks L) (hb : Below w.heap.size w w') : DpRow w' g ks L := ownsRow_belowP h hb

set_option maxRecDepth 100000 in
set_option maxHeartbeats 3200000 in
theorem sDepths_any (ks : List Kn) (T : TreeOk ks) (SM : KsSmall ks) (ad : Option Addr) (c : Nat) (w : World) (hc : KnotsIn w ad ks) :
    Calls Try.prog 32 #[.slice ad ks.length c] w fun e w' => ∃ g, e = .returned (.slice (some ⟨g, 0, none⟩) ks.length ks.length) ∧ DpRow w' g ks (nx ks ks.length) ∧ Below w.heap.size w w' := by
  obtain ⟨i0, hi, hz0, hz1, hz2⟩ := info_parts info_i64
  have C := Lib.hid hc
  have SMM := Lib.hid SM.2
  have nl := T.2.1
  have NA := Lib.hid fun i (h : i < ks.length) => nxt_all h
  have NS := Lib.hid fun i t h => nxt_next (ks := ks) (i := i) (t := t) h
  have DN := Lib.hid fun i (h : i < ks.length) t => dpv_at T (t := t) h
  have DL := Lib.hid fun i (h : i < ks.length) => show dep ks i ≤ 120 by have := dep_le ks (i + 1) i (Nat.lt_succ_self i); have := T.2.1; omega
  have NX := Lib.hid fun i (h : i < ks.length) t (ht : t < (knAt ks i).ns.length) => show ((i : Int) < (knAt ks i).ns.getD t 0 ∧ (knAt ks i).ns.getD t 0 < (ks.length : Int)) ∧ dep ks ((knAt ks i).ns.getD t 0).toNat = dep ks i + 1 by
    have e : (knAt ks i).ns.getD t 0 = (knAt ks i).ns[t] := by rw [List.getD_eq_getElem?_getD, List.getElem?_eq_getElem ht]; rfl
    rw [e]
    have m := List.getElem_mem ht
    have b := nx_in T h m
    exact ⟨b, dep_next T h (by rw [show (((knAt ks i).ns[t]).toNat : Int) = (knAt ks i).ns[t] by omega]; exact m)⟩
  clear hc SM T
  go_enter Try.func32, Try.ntmps32
  go_wp2_with (at_make; refine wpList_make_full _ rfl _ _ 40 rfl w.heap.size 2 i0 (.int .i64 0) 1 Try.underlying40 hi hz0 hz1 _ _ _ _ ks.length rfl rfl rfl rfl (by rw [hz2]; omega) (by unfold maxLen; omega) (Nat.le_refl _) ?_; intro w1 hown hgrow; have M := hown; rw [show (Value.int IntKind.i64 0).cells = #[Value.int IntKind.i64 0] from rfl, Nat.mul_one, ← Nat.mul_one ks.length, toList_madeCells_one, Nat.mul_one, dpV_nil] at M; have B1 := Lib.hid (Below.grown (Below.refl w.heap.size w) hgrow (Nat.le_refl _) (fun j hj => by cases hj)); have M1 := Lib.hid M; clear hown hgrow M)
  clear hi hz0 hz1 hz2
  go_loopw [4] (fun ix wr => ∃ i : Nat, i ≤ ks.length ∧ ix = .int .i64 i ∧ DpRow wr w.heap.size ks (nx ks i) ∧ Below w.heap.size w wr) (fun ix _ => ks.length - (intOf ix).toNat)
  case atStart => exact ⟨0, Nat.zero_le _, rfl, by rw [nx_zero]; exact M1.out, B1.out⟩
  case round =>
    obtain ⟨i, hi, rfl, hR, hB⟩ := hrel
    have BB := Lib.hid hB
    have RR := Lib.hid hR
    clear hR M1 B1
    by_cases hil : i < ks.length
    · have hd : decide ((i : Int) < (ks.length : Int)) = true := by simpa using hil
      obtain ⟨b1, o1, rfl, hkn⟩ := C.out i hil
      have i1 : (0 : Int) ≤ (i : Int) := by omega
      have i2 : (i : Int) < (ks.length : Int) := by omega
      obtain ⟨hft, va, vc, na, nc, ca, cc, y0, z0, z1, z2, z3, p10, p2, p30⟩ := hkn
      have N := Lib.hid p2
      have nsl := (SMM.out i hil).2.1
      have NXi := Lib.hid (NX.out i hil)
      have NSi := Lib.hid (NS.out i)
      have DNi := Lib.hid (DN.out i hil)
      have NAi := Lib.hid (NA.out i hil)
      have di := DL.out i hil
      clear hB z0 z1 z3 p10 p2 p30 hft
      generalize hns : (knAt ks i).ns = ns at *
      clear hns
      go_wp2
      go_loopw [5] (fun tx wz => ∃ t : Nat, t ≤ ns.length ∧ tx = .int .i64 t ∧ DpRow wz w.heap.size ks (nxt ks i t) ∧ Below w.heap.size w wz) (fun tx _ => ns.length - (intOf tx).toNat)
      case atStart => exact ⟨0, Nat.zero_le _, rfl, by rw [nxt_zero]; exact RR.out, BB.out⟩
      case round =>
        obtain ⟨t, ht, rfl, hR, hB⟩ := hrel
        have d2 := (hB.cell (p := ⟨b1, o1 + i * 4 + 2, none⟩) y0).trans z2
        have y1 := Nat.lt_of_lt_of_le y0 hB.size
        by_cases htl : t < ns.length
        · have hd2 : decide ((t : Int) < (ns.length : Int)) = true := by simpa using htl
          obtain ⟨b2, o2, rfl, hb2, q0⟩ := N.out t htl
          have q1 := (hB.cell (p := ⟨b2, o2 + t, none⟩) hb2).trans q0
          have S1 := NSi.out t htl
          obtain ⟨⟨hx1, hx2⟩, hx3⟩ := NXi.out t htl
          generalize ns.getD t 0 = x at *
          obtain ⟨xn, rfl⟩ := Int.eq_ofNat_of_zero_le (show 0 ≤ x by omega)
          rw [Int.toNat_natCast] at hx3
          have xl : xn < ks.length := by omega
          have k4 := hR.cellAt i (by omega)
          rw [dpV_get _ _ _ hil, DNi.out] at k4
          have k7 := hR.cellAt xn (by omega)
          rw [dpV_get _ _ _ xl] at k7
          have k5 := hR.frozenAt xn
          have k6 := (hR.lt w.heap.size rfl).2
          have R5 := dpRow_next hR xl
          rw [hx3, Int.natCast_succ] at R5
          rw [← S1] at R5
          have R5 := Lib.hid R5
          have B5 := Lib.hid (hB.setCell (p := ⟨w.heap.size, xn, none⟩) (Nat.le_refl _) (.int .i64 ((dep ks i : Int) + 1)))
          have i3 : (0 : Int) ≤ (t : Int) := by omega
          have i4 : (t : Int) < (ns.length : Int) := by omega
          have i5 : (0 : Int) ≤ (xn : Int) := by omega
          have i6 : (xn : Int) < (ks.length : Int) := by omega
          have ov : IntKind.i64.wrap ((dep ks i : Int) + 1) = (dep ks i : Int) + 1 := IntWalk.i64_in _ (by omega)
          clear hB hR q0 hx1 hx2 hx3 S1
          generalize dep ks i = dd at *
          generalize dpv ks (nxt ks i t) xn = old at *
          go_wp2_with fail
          go_still_tail 15, (by kernel_rfl)
          change wpList _ _ _ _ _ wr.drew
          go_wp2
          exact ⟨⟨t + 1, htl, by rw [Int.natCast_succ], R5.out, ⟨B5.out.os, B5.out.tape, B5.out.output, B5.out.size, B5.out.block⟩⟩, by (simp [intOf]) <;> omega⟩
        · have e : t = ns.length := by omega
          subst e
          have hd2 : decide ((ns.length : Int) < (ns.length : Int)) = false := by simp
          rw [NAi.out] at hR
          have RR9 := Lib.hid hR
          have BB9 := Lib.hid hB
          clear hR hB
          go_wp2
          exact ⟨⟨i + 1, hil, by rw [Int.natCast_succ], RR9.out, BB9.out⟩, by (simp [intOf]) <;> omega⟩
    · have e : i = ks.length := by omega
      subst e
      have hd : decide ((ks.length : Int) < (ks.length : Int)) = false := by simp
      clear hB
      go_wp2
      go_ret
      exact ⟨w.heap.size, rfl, RR.out, BB.out⟩
end Go.Proofs.Ytdbkplfkilaoeac
