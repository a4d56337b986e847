/- Contract of the model's function on a knot that asks: is it right, and those that it leads to are counted. -/
import Derived.Test.YtppjmngnjdeigaaDoorVtS
namespace Go.Proofs.YtppjmngnjdeigaaDoor
open Go.ChangeShapes Go.WideShapes Go.ChangeAt Go.RowKit

/-- What comes of a knot that asks. -/
def AskR (w0 : World) (n i : Nat) (k : Kn) (L : List Int) (e : Ending) (w' : World) : Prop := ∃ b : Bool, e = .returned (.bool b) ∧ Below w0.heap.size w0 w' ∧
  (b = true → AskOk k ∧ NxTo n i k k.ns.length ∧ CntRow w' w0.heap.size n (L ++ k.ns)) ∧ (b = false → ¬ (AskOk k ∧ NxTo n i k k.ns.length))
theorem take_snoc (ns : List Int) (t : Nat) (h : t < ns.length) : ns.take (t + 1) = ns.take t ++ [ns.getD t 0] := by
  rw [List.take_add_one, List.getElem?_eq_getElem h]
  simp [List.getD, h]

set_option maxRecDepth 100000 in
set_option maxHeartbeats 6400000 in
theorem sAsker_any (w0 w : World) (n i : Nat) (k : Kn) (b o : Nat) (L : List Int) (hk : KnSmall k) (h : KnAt w0 b o k) (hB : Below w0.heap.size w0 w) (hR : CntRow w w0.heap.size n L) (hL : L.length ≤ 200000000) (_hn : n ≤ 120) (_hi : i < n) :
    Calls Tryd.prog 72 #[.pointer (some ⟨b, o, none⟩), .int .i64 i, .slice (some ⟨w0.heap.size, 0, none⟩) n n] w (AskR w0 n i k L) := by
  obtain ⟨hv, hns, hc⟩ := hk
  obtain ⟨hft, va, vc, na, nc, ca, cc, y, z0, z1, z2, z3, p1, p2, p3⟩ := h
  obtain ⟨f, vs, ns, cs⟩ := k
  simp only at hv hns hc z0 z1 z2 z3 p1 p2
  have P1 := Lib.hid p1
  have P2 := Lib.hid p2
  have F16 := hft.1
  have N16 := Lib.hid hft.2.2.1
  simp only at F16 N16
  unfold I16 at F16
  have BB := Lib.hid hB
  have RR := Lib.hid hR
  have hbw := cell_bw
  have d0 := (hB.cell (p := ⟨b, o, none⟩) y).trans z0
  have d1 := (hB.cell (p := ⟨b, o + 1, none⟩) y).trans z1
  have d2 := (hB.cell (p := ⟨b, o + 2, none⟩) y).trans z2
  have d3 := (hB.cell (p := ⟨b, o + 3, none⟩) y).trans z3
  have yb : b < w.heap.size := Nat.lt_of_lt_of_le y hB.size
  clear p1 p2 p3 hft hB hR
  by_cases h1 : f < 0
  · have e1 : decide (f < 0) = true := decide_eq_true h1
    have N := Lib.hid (show ¬ (AskOk ⟨f, vs, ns, cs⟩ ∧ NxTo n i ⟨f, vs, ns, cs⟩ ns.length) from fun t => by have := t.1.1; simp only at this; omega)
    clear P1 P2 N16 RR z0 z1 z2 z3
    go_enter Tryd.func72, Tryd.ntmps72
    go_upto_region 1 with fail
    refine region_bw (by kernel_rfl) (by kernel_rfl) ?_
    repeat (go_big_quiet_step (fail))
    refine wpQuiet_nil ?_; intro wq hq; replace hq := below_of_bw hq; obtain ⟨qc, qf, qz⟩ := bcell hq
    go_wp2_with fail
    go_ret
    exact ⟨false, rfl, BB.out.trans (hq.mono BB.out.size), fun h => (by cases h), fun _ => N.out⟩
  have e1 : decide (f < 0) = false := decide_eq_false h1
  by_cases h2 : 12 ≤ f
  · have e2 : decide (12 ≤ f) = true := decide_eq_true h2
    have N := Lib.hid (show ¬ (AskOk ⟨f, vs, ns, cs⟩ ∧ NxTo n i ⟨f, vs, ns, cs⟩ ns.length) from fun t => by have := t.1.2.1; simp only at this; omega)
    clear P1 P2 N16 RR z0 z1 z2 z3
    go_enter Tryd.func72, Tryd.ntmps72
    go_upto_region 1 with fail
    refine region_bw (by kernel_rfl) (by kernel_rfl) ?_
    repeat (go_big_quiet_step (fail))
    refine wpQuiet_nil ?_; intro wq hq; replace hq := below_of_bw hq; obtain ⟨qc, qf, qz⟩ := bcell hq
    go_wp2_with fail
    go_ret
    exact ⟨false, rfl, BB.out.trans (hq.mono BB.out.size), fun h => (by cases h), fun _ => N.out⟩
  have e2 : decide (12 ≤ f) = false := decide_eq_false h2
  by_cases h3 : 0 < cs.length
  · have e3 : decide ((0 : Int) < (cs.length : Int)) = true := decide_eq_true (by omega)
    have N := Lib.hid (show ¬ (AskOk ⟨f, vs, ns, cs⟩ ∧ NxTo n i ⟨f, vs, ns, cs⟩ ns.length) from fun t => by have := t.1.2.2.1; simp only at this; omega)
    clear P1 P2 N16 RR z0 z1 z2 z3
    go_enter Tryd.func72, Tryd.ntmps72
    go_upto_region 1 with fail
    refine region_bw (by kernel_rfl) (by kernel_rfl) ?_
    repeat (go_big_quiet_step (fail))
    refine wpQuiet_nil ?_; intro wq hq; replace hq := below_of_bw hq; obtain ⟨qc, qf, qz⟩ := bcell hq
    go_wp2_with fail
    go_ret
    exact ⟨false, rfl, BB.out.trans (hq.mono BB.out.size), fun h => (by cases h), fun _ => N.out⟩
  have e3 : decide ((0 : Int) < (cs.length : Int)) = false := decide_eq_false (by omega)
  by_cases h4 : vs.length = 0
  · have e4 : ((vs.length : Int) == 0) = true := by simp [h4]
    have N := Lib.hid (show ¬ (AskOk ⟨f, vs, ns, cs⟩ ∧ NxTo n i ⟨f, vs, ns, cs⟩ ns.length) from fun t => by have := t.1.2.2.2.1; simp only at this; omega)
    clear P1 P2 N16 RR z0 z1 z2 z3 h4
    go_enter Tryd.func72, Tryd.ntmps72
    go_upto_region 1 with fail
    refine region_bw (by kernel_rfl) (by kernel_rfl) ?_
    repeat (go_big_quiet_step (fail))
    refine wpQuiet_nil ?_; intro wq hq; replace hq := below_of_bw hq; obtain ⟨qc, qf, qz⟩ := bcell hq
    go_wp2_with fail
    go_ret
    exact ⟨false, rfl, BB.out.trans (hq.mono BB.out.size), fun h => (by cases h), fun _ => N.out⟩
  have e4 : ((vs.length : Int) == 0) = false := by simp [h4]
  by_cases h5 : ns.length = vs.length
  rotate_left
  · have e5 : ((ns.length : Int) != (vs.length : Int)) = true := by simp; omega
    have N := Lib.hid (show ¬ (AskOk ⟨f, vs, ns, cs⟩ ∧ NxTo n i ⟨f, vs, ns, cs⟩ ns.length) from fun t => h5 t.1.2.2.2.2.1)
    clear P1 P2 N16 RR z0 z1 z2 z3 h4 h5
    go_enter Tryd.func72, Tryd.ntmps72
    go_upto_region 1 with fail
    refine region_bw (by kernel_rfl) (by kernel_rfl) ?_
    repeat (go_big_quiet_step (fail))
    refine wpQuiet_nil ?_; intro wq hq; replace hq := below_of_bw hq; obtain ⟨qc, qf, qz⟩ := bcell hq
    go_wp2_with fail
    go_ret
    exact ⟨false, rfl, BB.out.trans (hq.mono BB.out.size), fun h => (by cases h), fun _ => N.out⟩
  have e5 : ((ns.length : Int) != (vs.length : Int)) = false := by simp [h5]
  have OK := Lib.hid fun (t : ValTo vs vs.length) => (show AskOk ⟨f, vs, ns, cs⟩ from ⟨by show 0 ≤ f; omega, by show f < 12; omega, by show cs.length = 0; omega, by show 0 < vs.length; omega, h5, t⟩)
  have H5 := Lib.hid h5
  clear h5
  go_enter Tryd.func72, Tryd.ntmps72
  go_upto_region 1 with fail
  refine region_bw (by kernel_rfl) (by kernel_rfl) ?_
  repeat (go_big_quiet_step (fail))
  refine wpQuiet_nil ?_; intro wq hq; replace hq := below_of_bw hq; obtain ⟨qc, qf, qz⟩ := bcell hq
  have B1 := Lib.hid (BB.out.trans (hq.mono BB.out.size))
  have R1 := Lib.hid (cntRow_below RR.out hq)
  clear hq qc qf qz d0 d1 d2 d3 e1 e2 e3 e4 e5 BB RR yb
  go_wp2_with fail
  go_loopw [7] (fun ix wr => ∃ t : Nat, t ≤ vs.length ∧ ix = .int .i64 t ∧ ValTo vs t ∧ NxTo n i ⟨f, vs, ns, cs⟩ t ∧ CntRow wr w0.heap.size n (L ++ ns.take t) ∧ Below w0.heap.size w0 wr) (fun ix _ => vs.length - (intOf ix).toNat)
  case atStart => exact ⟨0, Nat.zero_le _, rfl, fun j hj => absurd hj (Nat.not_lt_zero _), fun j hj => absurd hj (Nat.not_lt_zero _), by rw [List.take_zero, List.append_nil]; exact R1.out, B1.out⟩
  case round =>
    obtain ⟨t, ht, rfl, hV, hN, hR, hB⟩ := hrel
    have BB := Lib.hid hB
    have RR := Lib.hid hR
    have VV := Lib.hid hV
    have NN := Lib.hid hN
    have d1 := (hB.cell (p := ⟨b, o + 1, none⟩) y).trans z1
    have d2 := (hB.cell (p := ⟨b, o + 2, none⟩) y).trans z2
    have yb : b < wr.heap.size := Nat.lt_of_lt_of_le y hB.size
    have h5a := Nat.le_of_eq H5.out
    have h5b := Nat.le_of_eq H5.out.symm
    clear R1 B1 hV hN hR
    by_cases htl : t < vs.length
    · have hd : decide ((t : Int) < (vs.length : Int)) = true := by simpa using htl
      obtain ⟨bv, ov, rfl, hbv, q0⟩ := P1.out t htl
      obtain ⟨bn, on, rfl, hbn, r0⟩ := P2.out t (by omega)
      have v0 := (hB.cell (p := ⟨bv, ov + t, none⟩) hbv).trans q0
      have n0 := (hB.cell (p := ⟨bn, on + t, none⟩) hbn).trans r0
      have yv : bv < wr.heap.size := Nat.lt_of_lt_of_le hbv hB.size
      have yn : bn < wr.heap.size := Nat.lt_of_lt_of_le hbn hB.size
      have x16 := N16.out t (by omega)
      unfold I16 at x16
      have i1 : (0 : Int) ≤ (t : Int) := by omega
      have i2 : (t : Int) < (vs.length : Int) := by omega
      have i3 : (t : Int) < (ns.length : Int) := by omega
      have tl : t < ns.length := by omega
      have TS := Lib.hid (take_snoc ns t tl)
      have noV := Lib.hid fun (c : ¬ (-2 ≤ vs.getD t 0 ∧ (0 < t → vs.getD (t - 1) 0 < vs.getD t 0))) => (show ¬ (AskOk ⟨f, vs, ns, cs⟩ ∧ NxTo n i ⟨f, vs, ns, cs⟩ ns.length) from fun T => c (T.1.2.2.2.2.2 t htl))
      have noN := Lib.hid fun (c : ¬ ((i : Int) < ns.getD t 0 ∧ ns.getD t 0 < (n : Int))) => (show ¬ (AskOk ⟨f, vs, ns, cs⟩ ∧ NxTo n i ⟨f, vs, ns, cs⟩ ns.length) from fun T => c (T.2 t tl))
      have nxV := Lib.hid fun c => valTo_next VV.out c
      have nxN := Lib.hid fun c => nxTo_next (n := n) (i := i) (k := ⟨f, vs, ns, cs⟩) (m := t) NN.out c
      simp only at nxN
      have LL : (L ++ ns.take t).length ≤ 300000000 := by rw [List.length_append, List.length_take]; omega
      generalize hx : ns.getD t 0 = x at *
      clear hx
      have hE := hB
      by_cases h0 : 0 < t
      · have e0 : decide ((0 : Int) < (t : Int)) = true := decide_eq_true (by omega)
        obtain ⟨bu, ou, eu, hbu, s0⟩ := P1.out (t - 1) (by omega)
        cases eu
        have u0 := (hB.cell (p := ⟨bv, ov + (t - 1), none⟩) hbu).trans s0
        generalize vs.getD t 0 = v at *
        generalize vs.getD (t - 1) 0 = u at *
        clear hB s0 q0 r0 hE
        by_cases g1 : v < -2
        · have f1 : decide (v < -2) = true := decide_eq_true g1
          have N := Lib.hid (noV.out (by omega))
          clear noV noN nxV nxN TS
          go_wp2_with fail
          refine region_bw (by kernel_rfl) (by kernel_rfl) ?_
          repeat (go_big_quiet_step (fail))
          refine wpQuiet_nil ?_; intro wq hq; replace hq := below_of_bw hq; obtain ⟨qc, qf, qz⟩ := bcell hq
          go_wp2_with fail
          go_ret
          exact ⟨false, rfl, BB.out.trans (hq.mono BB.out.size), fun h => (by cases h), fun _ => N.out⟩
        have f1 : decide (v < -2) = false := decide_eq_false g1
        by_cases g2 : v ≤ u
        · have f2 : decide (v ≤ u) = true := decide_eq_true g2
          have N := Lib.hid (noV.out (fun c => by have := c.2 h0; omega))
          clear noV noN nxV nxN TS
          go_wp2_with fail
          refine region_bw (by kernel_rfl) (by kernel_rfl) ?_
          repeat (go_big_quiet_step (fail))
          refine wpQuiet_nil ?_; intro wq hq; replace hq := below_of_bw hq; obtain ⟨qc, qf, qz⟩ := bcell hq
          go_wp2_with fail
          go_ret
          exact ⟨false, rfl, BB.out.trans (hq.mono BB.out.size), fun h => (by cases h), fun _ => N.out⟩
        have f2 : decide (v ≤ u) = false := decide_eq_false g2
        by_cases g3 : x ≤ (i : Int)
        · have f3 : decide (x ≤ (i : Int)) = true := decide_eq_true g3
          have N := Lib.hid (noN.out (by omega))
          clear noV noN nxV nxN TS
          go_wp2_with fail
          refine region_bw (by kernel_rfl) (by kernel_rfl) ?_
          repeat (go_big_quiet_step (fail))
          refine wpQuiet_nil ?_; intro wq hq; replace hq := below_of_bw hq; obtain ⟨qc, qf, qz⟩ := bcell hq
          go_wp2_with fail
          go_ret
          exact ⟨false, rfl, BB.out.trans (hq.mono BB.out.size), fun h => (by cases h), fun _ => N.out⟩
        have f3 : decide (x ≤ (i : Int)) = false := decide_eq_false g3
        by_cases g4 : (n : Int) ≤ x
        · have f4 : decide ((n : Int) ≤ x) = true := decide_eq_true g4
          have N := Lib.hid (noN.out (by omega))
          clear noV noN nxV nxN TS
          go_wp2_with fail
          refine region_bw (by kernel_rfl) (by kernel_rfl) ?_
          repeat (go_big_quiet_step (fail))
          refine wpQuiet_nil ?_; intro wq hq; replace hq := below_of_bw hq; obtain ⟨qc, qf, qz⟩ := bcell hq
          go_wp2_with fail
          go_ret
          exact ⟨false, rfl, BB.out.trans (hq.mono BB.out.size), fun h => (by cases h), fun _ => N.out⟩
        have f4 : decide ((n : Int) ≤ x) = false := decide_eq_false g4
        obtain ⟨xn, rfl⟩ := Int.eq_ofNat_of_zero_le (show 0 ≤ x by omega)
        have xl : xn < n := by omega
        have f5 : decide (xn ≤ i) = false := decide_eq_false (by omega)
        have f6 : decide (n ≤ xn) = false := decide_eq_false (by omega)
        have V9 := Lib.hid (nxV.out ⟨by omega, fun _ => by omega⟩)
        have N9 := Lib.hid (nxN.out ⟨by omega, by omega⟩)
        obtain ⟨c0, c1⟩ := cv_in (L ++ ns.take t) xn
        clear noV noN nxV nxN
        go_wp2_with fail
        refine region_bw (by kernel_rfl) (by kernel_rfl) ?_
        repeat (go_big_quiet_step (fail))
        refine wpQuiet_nil ?_; intro wq hq; replace hq := below_of_bw hq; obtain ⟨qc, qf, qz⟩ := bcell hq
        have R4 := Lib.hid (cntRow_below RR.out hq)
        have B4 := Lib.hid (BB.out.trans (hq.mono BB.out.size))
        have k1 := (qc _ (o + 1) yb).trans d1
        have k2 := (qc _ (o + 2) yb).trans d2
        have k3 := (qc _ (on + t) yn).trans n0
        have k4 := R4.out.cellAt xn (by omega)
        rw [cntV_get _ _ _ xl] at k4
        have k5 := R4.out.frozenAt xn
        have k6 := (R4.out.lt w0.heap.size rfl).2
        have R5 := Lib.hid (cntRow_next R4.out xl)
        clear hq qc qf qz d1 d2 n0 v0
        have i5 : (0 : Int) ≤ (xn : Int) := by omega
        have i6 : (xn : Int) < (n : Int) := by omega
        generalize cv (L ++ ns.take t) xn = cvx at *
        go_wp2_with fail
        exact ⟨⟨t + 1, htl, by rw [Int.natCast_succ], V9.out, N9.out, by rw [TS.out, ← List.append_assoc]; exact R5.out, B4.out.setCell (Nat.le_refl _) _⟩, by (simp [intOf]) <;> omega⟩
      · have e0 : decide ((0 : Int) < (t : Int)) = false := decide_eq_false (by omega)
        generalize vs.getD t 0 = v at *
        clear hB q0 r0 hE
        by_cases g1 : v < -2
        · have f1 : decide (v < -2) = true := decide_eq_true g1
          have N := Lib.hid (noV.out (by omega))
          clear noV noN nxV nxN TS
          go_wp2_with fail
          refine region_bw (by kernel_rfl) (by kernel_rfl) ?_
          repeat (go_big_quiet_step (fail))
          refine wpQuiet_nil ?_; intro wq hq; replace hq := below_of_bw hq; obtain ⟨qc, qf, qz⟩ := bcell hq
          go_wp2_with fail
          go_ret
          exact ⟨false, rfl, BB.out.trans (hq.mono BB.out.size), fun h => (by cases h), fun _ => N.out⟩
        have f1 : decide (v < -2) = false := decide_eq_false g1
        by_cases g3 : x ≤ (i : Int)
        · have f3 : decide (x ≤ (i : Int)) = true := decide_eq_true g3
          have N := Lib.hid (noN.out (by omega))
          clear noV noN nxV nxN TS
          go_wp2_with fail
          refine region_bw (by kernel_rfl) (by kernel_rfl) ?_
          repeat (go_big_quiet_step (fail))
          refine wpQuiet_nil ?_; intro wq hq; replace hq := below_of_bw hq; obtain ⟨qc, qf, qz⟩ := bcell hq
          go_wp2_with fail
          go_ret
          exact ⟨false, rfl, BB.out.trans (hq.mono BB.out.size), fun h => (by cases h), fun _ => N.out⟩
        have f3 : decide (x ≤ (i : Int)) = false := decide_eq_false g3
        by_cases g4 : (n : Int) ≤ x
        · have f4 : decide ((n : Int) ≤ x) = true := decide_eq_true g4
          have N := Lib.hid (noN.out (by omega))
          clear noV noN nxV nxN TS
          go_wp2_with fail
          refine region_bw (by kernel_rfl) (by kernel_rfl) ?_
          repeat (go_big_quiet_step (fail))
          refine wpQuiet_nil ?_; intro wq hq; replace hq := below_of_bw hq; obtain ⟨qc, qf, qz⟩ := bcell hq
          go_wp2_with fail
          go_ret
          exact ⟨false, rfl, BB.out.trans (hq.mono BB.out.size), fun h => (by cases h), fun _ => N.out⟩
        have f4 : decide ((n : Int) ≤ x) = false := decide_eq_false g4
        obtain ⟨xn, rfl⟩ := Int.eq_ofNat_of_zero_le (show 0 ≤ x by omega)
        have xl : xn < n := by omega
        have f5 : decide (xn ≤ i) = false := decide_eq_false (by omega)
        have f6 : decide (n ≤ xn) = false := decide_eq_false (by omega)
        have V9 := Lib.hid (nxV.out ⟨by omega, fun c => absurd c h0⟩)
        have N9 := Lib.hid (nxN.out ⟨by omega, by omega⟩)
        obtain ⟨c0, c1⟩ := cv_in (L ++ ns.take t) xn
        clear noV noN nxV nxN
        go_wp2_with fail
        refine region_bw (by kernel_rfl) (by kernel_rfl) ?_
        repeat (go_big_quiet_step (fail))
        refine wpQuiet_nil ?_; intro wq hq; replace hq := below_of_bw hq; obtain ⟨qc, qf, qz⟩ := bcell hq
        have R4 := Lib.hid (cntRow_below RR.out hq)
        have B4 := Lib.hid (BB.out.trans (hq.mono BB.out.size))
        have k1 := (qc _ (o + 1) yb).trans d1
        have k2 := (qc _ (o + 2) yb).trans d2
        have k3 := (qc _ (on + t) yn).trans n0
        have k4 := R4.out.cellAt xn (by omega)
        rw [cntV_get _ _ _ xl] at k4
        have k5 := R4.out.frozenAt xn
        have k6 := (R4.out.lt w0.heap.size rfl).2
        have R5 := Lib.hid (cntRow_next R4.out xl)
        clear hq qc qf qz d1 d2 n0 v0
        have i5 : (0 : Int) ≤ (xn : Int) := by omega
        have i6 : (xn : Int) < (n : Int) := by omega
        generalize cv (L ++ ns.take t) xn = cvx at *
        go_wp2_with fail
        exact ⟨⟨t + 1, htl, by rw [Int.natCast_succ], V9.out, N9.out, by rw [TS.out, ← List.append_assoc]; exact R5.out, B4.out.setCell (Nat.le_refl _) _⟩, by (simp [intOf]) <;> omega⟩
    · have e : t = vs.length := by omega
      subst e
      have hd : decide ((vs.length : Int) < (vs.length : Int)) = false := by simp
      have R9 := RR.out
      rw [← H5.out, List.take_length] at R9
      have R9 := Lib.hid R9
      have N9 := NN.out
      rw [← H5.out] at N9
      have N9 := Lib.hid N9
      clear hB
      go_wp2
      go_ret
      exact ⟨true, rfl, BB.out, fun _ => ⟨OK.out VV.out, N9.out, R9.out⟩, fun h => (by cases h)⟩
end Go.Proofs.YtppjmngnjdeigaaDoor
