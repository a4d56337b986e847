/- How many questions a tree asks at the most: the model's contract. -/
import Derived.Test.YtdbkplfkilaoeacDpS
import Derived.Test.YtdbkplfkilaoeacVtO
namespace Go.Proofs.Ytdbkplfkilaoeac
open Go.ChangeShapes Go.WideShapes Go.ChangeAt Go.RowKit

theorem dMax_t {x y : Nat} (h : y < x) (w : World) : Calls Try.prog 33 #[.int .i64 (x : Int), .int .i64 (y : Int)] w fun e w' => e = .returned (.int .i64 (x : Int)) ∧ w' = w := by
  have e1 : decide ((x : Int) > (y : Int)) = true := by simp; omega
  have e2 : decide ((y : Int) < (x : Int)) = true := by simp; omega
  go_enter Try.func33, Try.ntmps33
  go_wp2
  go_ret
  exact ⟨rfl, rfl⟩
theorem dMax_f {x y : Nat} (h : ¬ y < x) (w : World) : Calls Try.prog 33 #[.int .i64 (x : Int), .int .i64 (y : Int)] w fun e w' => e = .returned (.int .i64 (y : Int)) ∧ w' = w := by
  have e1 : decide ((x : Int) > (y : Int)) = false := by simp; omega
  have e2 : decide ((y : Int) < (x : Int)) = false := by simp; omega
  go_enter Try.func33, Try.ntmps33
  go_wp2
  go_ret
  exact ⟨rfl, rfl⟩
theorem dMax_any (x y : Nat) (w : World) : Calls Try.prog 33 #[.int .i64 (x : Int), .int .i64 (y : Int)] w fun e w' => e = .returned (.int .i64 ((max x y : Nat) : Int)) ∧ w' = w := by
  by_cases h : y < x
  · rw [Nat.max_eq_left (by omega)]; exact dMax_t h w
  · rw [Nat.max_eq_right (by omega)]; exact dMax_f h w

set_option maxRecDepth 100000 in
set_option maxHeartbeats 3200000 in
theorem sDeepestOf_any (ad : Option Addr) (ks : List Kn) (c : Nat) (w : World) (hc : KnotsIn w ad ks) (hn : KsSmall ks) :
    Calls Try.prog 15 #[.slice ad ks.length c] w fun e w' => e = .returned (deepV ks) ∧ Below w.heap.size w w' := by
  have V := Lib.hid (sTreeOk_any ad ks c w hc hn)
  by_cases hT : treeOk ks = true
  · have T : TreeOk ks := of_decide_eq_true hT
    have DV : deepV ks = .tuple #[.int .i64 (deepOf ks : Int), .int .i64 0] := by unfold deepV; rw [if_pos hT]
    rw [hT] at V
    have PL := Lib.hid fun W (h : Below w.heap.size w W) => sDepths_any ks T hn ad c W (knotsIn_below hc h)
    have DA := Lib.hid fun i (h : i < ks.length) => dpv_all T h
    have DO := Lib.hid (show mxTo (dep ks) ((List.range ks.length).take ks.length) = deepOf ks by rw [List.take_of_length_le (by simp)]; rfl)
    have TS := Lib.hid fun t (h : t < ks.length) => show mxTo (dep ks) ((List.range ks.length).take (t + 1)) = max (mxTo (dep ks) ((List.range ks.length).take t)) (dep ks t) by
      rw [takeD_snoc (i := t) (by rw [List.getElem?_range h]), mxTo_snoc]
    have nl := T.2.1
    have DW := Lib.hid DV
    clear hc hn hT T DV
    go_enter Try.func15, Try.ntmps15
    go_wp2_with (first
      | (go_at_call 23; refine V.out.mono ?_; rintro e w1 ⟨rfl, hB⟩; have b1 := Lib.hid hB; clear hB)
      | (go_at_call 32; refine (PL.out _ b1.out).mono ?_; rintro e w2 ⟨g, rfl, hR, hB⟩; have b2 := Lib.hid (b1.out.trans (Below.mono hB b1.out.size)); have R := Lib.hid hR; clear hB hR))
    go_loopw [5, 6] (fun dp ix wr => ∃ t : Nat, t ≤ ks.length ∧ ix = .int .i64 t ∧ dp = .int .i64 ((mxTo (dep ks) ((List.range ks.length).take t) : Nat) : Int) ∧ wr = w2) (fun _ ix _ => ks.length - (intOf ix).toNat)
    case atStart => exact ⟨0, Nat.zero_le _, rfl, rfl, rfl⟩
    case round =>
      obtain ⟨t, ht, rfl, rfl, rfl⟩ := hrel
      by_cases hlt : t < ks.length
      · have hd : decide ((t : Int) < (ks.length : Int)) = true := by simpa using hlt
        have k4 := R.out.cellAt t (by omega)
        rw [dpV_get _ _ _ hlt, DA.out t hlt] at k4
        have k6 := (R.out.lt g rfl).2
        have MM := Lib.hid fun x W => dMax_any x (dep ks t) W
        have i3 : (0 : Int) ≤ (t : Int) := by omega
        have i4 : (t : Int) < (ks.length : Int) := by omega
        have TT := Lib.hid (TS.out t hlt)
        generalize mxTo (dep ks) ((List.range ks.length).take t) = x at *
        generalize dep ks t = y at *
        go_wp2_with (go_at_call 33; refine (MM.out _ _).mono ?_; rintro e w3 ⟨rfl, rfl⟩)
        exact ⟨⟨t + 1, hlt, by rw [Int.natCast_succ], by rw [TT.out], trivial⟩, by simp [intOf]; omega⟩
      · have e : t = ks.length := by omega
        subst e
        have hd : decide ((ks.length : Int) < (ks.length : Int)) = false := by simp
        rw [DO.out]
        go_wp2
        go_returns
        exact ⟨DW.out ▸ rfl, b2.out⟩
  · have hF : treeOk ks = false := by simpa using hT
    have DV : deepV ks = .tuple #[.int .i64 0, .int .i64 1] := by unfold deepV; rw [if_neg hT]
    rw [hF] at V
    have DW := Lib.hid DV
    clear hc hn hT hF DV
    go_enter Try.func15, Try.ntmps15
    go_wp2_with (go_at_call 23; refine V.out.mono ?_; rintro e w1 ⟨rfl, hB⟩; have b1 := Lib.hid hB; clear hB)
    go_returns
    exact ⟨DW.out ▸ rfl, b1.out⟩
end Go.Proofs.Ytdbkplfkilaoeac
