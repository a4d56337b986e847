/- Contracts: are two answers equal, the program's and the model's. -/
import Derived.Test.YtaiedpblfnaooabWtEq
import Derived.Test.YtaiedpblfnaooabAnw
import Derived.Test.YtaiedpblfnaooabFloat
namespace Go.Proofs.Ytaiedpblfnaooab
open Go.ChangeShapes Go.WideShapes Go.ChangeAt Go.RowKit

/-- The cells of an answer. -/
def awV (x : Aw) (ai : Option Addr) (ci : Nat) (aw : Option Addr) (cw : Nat) : Array Value := #[.int .u64 x.a, .int .u64 x.b, .int .u64 x.c, .int .u64 x.d, .slice ai x.zs.length ci, .slice aw x.ws.length cw]
def eqQ (x y : Aw) : Bool := x.a == y.a && x.b == y.b && (x.c == y.c && x.d == y.d)
def eqA (x y : Aw) : Bool := eqQ x y && eqL x.zs y.zs && eqWs x.ws y.ws
theorem eqA_1 {x y : Aw} (h : eqQ x y = false) : eqA x y = false := by unfold eqA; rw [h]; rfl
theorem eqA_2 {x y : Aw} (h : eqQ x y = true) (h2 : eqL x.zs y.zs = false) : eqA x y = false := by unfold eqA; rw [h, h2]; rfl
theorem eqA_3 {x y : Aw} (h : eqQ x y = true) (h2 : eqL x.zs y.zs = true) : eqA x y = eqWs x.ws y.ws := by unfold eqA; rw [h, h2]; rfl

set_option maxHeartbeats 1600000 in
theorem iSameA_any (x y : Aw) (ai : Option Addr) (ci : Nat) (aw : Option Addr) (cw : Nat) (bi : Option Addr) (di : Nat) (bw : Option Addr) (dw : Nat) (w : World) (hi : IntsIn w ai x.zs) (hw : WitsIn w aw x.ws) (ki : IntsIn w bi y.zs) (kw : WitsIn w bw y.ws) (h1 : x.zs.length ≤ 1048576) (h2 : x.ws.length ≤ 1048576) :
    Calls Try.prog 62 #[.agg (awV x ai ci aw cw), .agg (awV y bi di bw dw)] w fun e w' => e = .returned (.bool (eqA x y)) ∧ Below w.heap.size w w' := by
  unfold awV
  have eq := eq_query
  have H1 := Lib.hid fun W p q => eq64_any ai bi x.zs y.zs ci di W p q h1
  have H2 := Lib.hid fun W p q => eqWits_any aw bw x.ws y.ws cw dw W p q h2
  have HI := Lib.hid (And.intro hi (And.intro hw (And.intro ki kw)))
  clear hi hw ki kw h1 h2
  have HB := Lib.hid (block_alloc2 w (.cells (awV x ai ci aw cw) 85) (.cells (awV y bi di bw dw) 85))
  have kk : Below w.heap.size w ((w.alloc (.cells (awV x ai ci aw cw) 85)).alloc (.cells (awV y bi di bw dw) 85)) := below_new (below_new (Below.refl _ _) _) _
  have KK := Lib.hid kk
  clear kk
  unfold awV at HB KK
  have key : Hid (∀ X : World, Below w.heap.size w X → IntsIn X ai x.zs ∧ WitsIn X aw x.ws ∧ IntsIn X bi y.zs ∧ WitsIn X bw y.ws) := Lib.hid fun X hX => ⟨intsIn_below HI.out.1 hX, witsIn_below HI.out.2.1 hX, intsIn_below HI.out.2.2.1 hX, witsIn_below HI.out.2.2.2 hX⟩
  clear HI
  cases q1 : eqQ x y
  · have f := Lib.hid (eqA_1 q1)
    have q1 : (x.a == y.a && x.b == y.b && (x.c == y.c && x.d == y.d)) = false := q1
    go_enter Try.func62, Try.ntmps62
    go_wp2
    go_returns
    exact ⟨ret_bool f.out.symm, KK.out⟩
  · cases q2 : eqL x.zs y.zs
    · have f := Lib.hid (eqA_2 q1 q2)
      have q1 : (x.a == y.a && x.b == y.b && (x.c == y.c && x.d == y.d)) = true := q1
      rw [q2] at H1
      clear q2
      go_enter Try.func62, Try.ntmps62
      go_wp2_with (go_at_call 113; refine (H1.out _ (key.out _ KK.out).1 (key.out _ KK.out).2.2.1).mono ?_; rintro e w1 ⟨rfl, hB⟩; have k1 := Lib.hid (KK.out.trans (Below.mono hB KK.out.size)); clear hB)
      go_returns
      exact ⟨ret_bool f.out.symm, k1.out⟩
    · have f := Lib.hid (eqA_3 q1 q2)
      have q1 : (x.a == y.a && x.b == y.b && (x.c == y.c && x.d == y.d)) = true := q1
      rw [q2] at H1
      clear q2
      generalize eqWs x.ws y.ws = q at *
      go_enter Try.func62, Try.ntmps62
      go_wp2_with (first
        | (go_at_call 113; refine (H1.out _ (key.out _ KK.out).1 (key.out _ KK.out).2.2.1).mono ?_; rintro e w1 ⟨rfl, hB⟩; have k1 := Lib.hid (KK.out.trans (Below.mono hB KK.out.size)); have c0 := cell_of_block (Ab.block hB HB.out.1); have c1 := cell_of_block (Ab.block hB HB.out.2); clear hB)
        | (go_at_call 114; refine (H2.out _ (key.out _ k1.out).2.1 (key.out _ k1.out).2.2.2).mono ?_; rintro e w2 ⟨rfl, hB⟩; have k2 := Lib.hid (k1.out.trans (Below.mono hB k1.out.size)); clear hB))
      go_returns
      exact ⟨ret_bool f.out.symm, k2.out⟩

set_option maxHeartbeats 1600000 in
theorem sSame7_any (x y : Aw) (ai : Option Addr) (ci : Nat) (aw : Option Addr) (cw : Nat) (bi : Option Addr) (di : Nat) (bw : Option Addr) (dw : Nat) (g h : Nat) (w : World) (hg : w.heap[g]? = some (.cells (awV x ai ci aw cw) 85 (0, 0))) (hh : w.heap[h]? = some (.cells (awV y bi di bw dw) 85 (0, 0))) (hi : IntsIn w ai x.zs) (hw : WitsIn w aw x.ws) (ki : IntsIn w bi y.zs) (kw : WitsIn w bw y.ws) (h1 : x.zs.length ≤ 1048576) (h2 : x.ws.length ≤ 1048576) :
    Calls Try.prog 111 #[.pointer (some ⟨g, 0, none⟩), .pointer (some ⟨h, 0, none⟩)] w fun e w' => e = .returned (.bool (eqA x y)) ∧ Below w.heap.size w w' := by
  unfold awV at hg hh
  have eq := eq_query
  have H1 := Lib.hid fun W p q => sSame_any ai bi x.zs y.zs ci di W p q h1
  have HI := Lib.hid (And.intro hi (And.intro hw (And.intro ki kw)))
  have G := Lib.hid (And.intro hg hh)
  have c0 := cell_of_block hg
  have c1 := cell_of_block hh
  have z0 := lt_of_block hg
  have z1 := lt_of_block hh
  clear hi hw ki kw h1 hg hh
  have hbw := cell_bw
  cases q1 : eqQ x y
  · have f := Lib.hid (eqA_1 q1)
    have q1 : (x.a == y.a && x.b == y.b && (x.c == y.c && x.d == y.d)) = false := q1
    go_enter Try.func111, Try.ntmps111
    go_wp2_with fail
    refine region_bw (by kernel_rfl) (by kernel_rfl) ?_
    repeat (go_big_quiet_step (fail))
    refine wpQuiet_nil ?_; intro wq hq; replace hq := below_of_bw hq; obtain ⟨qc, qf, qz⟩ := bcell hq
    go_wp2_with fail
    go_returns
    exact ⟨ret_bool f.out.symm, hq⟩
  · cases q2 : eqL x.zs y.zs
    · have f := Lib.hid (eqA_2 q1 q2)
      have q1 : (x.a == y.a && x.b == y.b && (x.c == y.c && x.d == y.d)) = true := q1
      rw [q2] at H1
      clear q2
      go_enter Try.func111, Try.ntmps111
      go_wp2_with fail
      refine region_bw (by kernel_rfl) (by kernel_rfl) ?_
      repeat (go_big_quiet_step ((go_at_call 155; exact calls_bw (H1.out _ (intsIn_below HI.out.1 (below_bw _ _)) (intsIn_below HI.out.2.2.1 (below_bw _ _))))))
      refine wpQuiet_nil ?_; intro wq hq; replace hq := below_of_bw hq; obtain ⟨qc, qf, qz⟩ := bcell hq
      go_wp2_with fail
      go_returns
      exact ⟨ret_bool f.out.symm, hq⟩
    · by_cases hl : x.ws.length = y.ws.length
      · have L := Lib.hid hl
        have F3 := Lib.hid (eqA_3 q1 q2)
        have q1 : (x.a == y.a && x.b == y.b && (x.c == y.c && x.d == y.d)) = true := q1
        have q3 : ((x.ws.length : Int) != (y.ws.length : Int)) = false := by simp [hl]
        rw [q2] at H1
        clear q2 hl
        go_enter Try.func111, Try.ntmps111
        go_wp2_with fail
        refine region_bw (by kernel_rfl) (by kernel_rfl) ?_
        repeat (go_big_quiet_step ((go_at_call 155; exact calls_bw (H1.out _ (intsIn_below HI.out.1 (below_bw _ _)) (intsIn_below HI.out.2.2.1 (below_bw _ _))))))
        refine wpQuiet_nil ?_; intro wq hq; replace hq := below_of_bw hq; obtain ⟨qc, qf, qz⟩ := bcell hq
        have B1 := Lib.hid hq
        clear c0 c1 hq qc qf qz q3
        go_wp2_with fail
        have ew := eq_wit
        go_loopw [5] (fun i wr => ∃ j : Nat, j ≤ x.ws.length ∧ i = .int .i64 (j : Int) ∧ eqWT x.ws y.ws j = true ∧ Below w.heap.size w wr) (fun i _ => x.ws.length - (intOf i).toNat)
        case atStart => exact ⟨0, Nat.zero_le _, rfl, rfl, B1.out⟩
        case round =>
          obtain ⟨j, hj, rfl, hs, hB⟩ := hrel
          have BB := Lib.hid hB
          have S := Lib.hid hs
          have c0 := cell_of_block (Ab.block hB G.out.1)
          have c1 := cell_of_block (Ab.block hB G.out.2)
          have y0 := Nat.lt_of_lt_of_le z0 hB.size
          have y1 := Nat.lt_of_lt_of_le z1 hB.size
          clear hs z0 z1
          by_cases hjl : j < x.ws.length
          · have hd : decide ((j : Int) < (x.ws.length : Int)) = true := by simpa using hjl
            obtain ⟨_, b1, o1, rfl, hb1, p0, p1⟩ := HI.out.2.1 j hjl
            obtain ⟨_, b2, o2, rfl, hb2, q0, q1'⟩ := HI.out.2.2.2 j (L.out ▸ hjl)
            have d0 := (hB.cell (p := ⟨b1, o1 + j * 2, none⟩) hb1).trans p0
            have d1 := (hB.cell (p := ⟨b1, o1 + j * 2 + 1, none⟩) hb1).trans p1
            have e0 := (hB.cell (p := ⟨b2, o2 + j * 2, none⟩) hb2).trans q0
            have e1 := (hB.cell (p := ⟨b2, o2 + j * 2 + 1, none⟩) hb2).trans q1'
            have v1 : b1 < wr.heap.size := Nat.lt_of_lt_of_le hb1 hB.size
            have v2 : b2 < wr.heap.size := Nat.lt_of_lt_of_le hb2 hB.size
            have i1 : (0 : Int) ≤ (j : Int) := by omega
            have i2 : (j : Int) < (x.ws.length : Int) := by omega
            have i3 : (j : Int) < (y.ws.length : Int) := by have := L.out; omega
            have no := Lib.hid fun h => eqWs_no (ys := y.ws) hjl h
            have nx := Lib.hid fun h => eqWT_next (k := j) S.out h
            clear hB p0 p1 q0 q1' S q1
            cases hxy : ((wtAt x.ws j).c == (wtAt y.ws j).c && (wtAt x.ws j).h == (wtAt y.ws j).h)
            · have N := Lib.hid (F3.out.trans (no.out hxy))
              clear no nx
              generalize wtAt x.ws j = s at *
              generalize wtAt y.ws j = t at *
              obtain ⟨s0, s1⟩ := s
              obtain ⟨t0, t1⟩ := t
              simp only at d0 d1 e0 e1 hxy
              go_wp2_with fail
              refine region_bw (by kernel_rfl) (by kernel_rfl) ?_
              repeat (go_big_quiet_step (fail))
              refine wpQuiet_nil ?_; intro wq hq; replace hq := below_of_bw hq; obtain ⟨qc, qf, qz⟩ := bcell hq
              go_wp2_with fail
              go_returns
              exact ⟨ret_bool N.out.symm, BB.out.trans (hq.mono BB.out.size)⟩
            · have N := Lib.hid (nx.out hxy)
              clear no nx
              generalize wtAt x.ws j = s at *
              generalize wtAt y.ws j = t at *
              obtain ⟨s0, s1⟩ := s
              obtain ⟨t0, t1⟩ := t
              simp only at d0 d1 e0 e1 hxy
              go_wp2_with fail
              refine region_bw (by kernel_rfl) (by kernel_rfl) ?_
              repeat (go_big_quiet_step (fail))
              refine wpQuiet_nil ?_; intro wq hq; replace hq := below_of_bw hq; obtain ⟨qc, qf, qz⟩ := bcell hq
              go_wp2_with fail
              exact ⟨⟨j + 1, hjl, by rw [Int.natCast_succ], N.out, BB.out.trans (hq.mono BB.out.size)⟩, by (simp [intOf]) <;> omega⟩
          · have e : j = x.ws.length := by omega
            subst e
            have hd : decide ((x.ws.length : Int) < (x.ws.length : Int)) = false := by simp
            clear hB q1
            go_wp2
            go_returns
            exact ⟨ret_bool (F3.out.trans (eqWs_yes L.out S.out)).symm, BB.out⟩
      · have f := Lib.hid ((eqA_3 q1 q2).trans (eqWs_len hl))
        have q1 : (x.a == y.a && x.b == y.b && (x.c == y.c && x.d == y.d)) = true := q1
        have q3 : ((x.ws.length : Int) != (y.ws.length : Int)) = true := by simp; omega
        rw [q2] at H1
        clear q2 hl
        go_enter Try.func111, Try.ntmps111
        go_wp2_with fail
        refine region_bw (by kernel_rfl) (by kernel_rfl) ?_
        repeat (go_big_quiet_step ((go_at_call 155; exact calls_bw (H1.out _ (intsIn_below HI.out.1 (below_bw _ _)) (intsIn_below HI.out.2.2.1 (below_bw _ _))))))
        refine wpQuiet_nil ?_; intro wq hq; replace hq := below_of_bw hq; obtain ⟨qc, qf, qz⟩ := bcell hq
        go_wp2_with fail
        go_returns
        exact ⟨ret_bool f.out.symm, hq⟩

theorem sSameA_any (x y : Aw) (ai : Option Addr) (ci : Nat) (aw : Option Addr) (cw : Nat) (bi : Option Addr) (di : Nat) (bw : Option Addr) (dw : Nat) (w : World) (hi : IntsIn w ai x.zs) (hw : WitsIn w aw x.ws) (ki : IntsIn w bi y.zs) (kw : WitsIn w bw y.ws) (h1 : x.zs.length ≤ 1048576) (h2 : x.ws.length ≤ 1048576) :
    Calls Try.prog 60 #[.agg (awV x ai ci aw cw), .agg (awV y bi di bw dw)] w fun e w' => e = .returned (.bool (eqA x y)) ∧ Below w.heap.size w w' := by
  have HB := block_alloc2 w (.cells (awV x ai ci aw cw) 85) (.cells (awV y bi di bw dw) 85)
  have kk : Below w.heap.size w ((w.alloc (.cells (awV x ai ci aw cw) 85)).alloc (.cells (awV y bi di bw dw) 85)) := below_new (below_new (Below.refl _ _) _) _
  have S := Lib.hid (sSame7_any x y ai ci aw cw bi di bw dw w.heap.size (w.heap.size + 1) _ HB.1 HB.2 (intsIn_below hi kk) (witsIn_below hw kk) (intsIn_below ki kk) (witsIn_below kw kk) h1 h2)
  have KK := Lib.hid kk
  clear HB kk hi hw ki kw h1 h2
  unfold awV at *
  go_enter Try.func60, Try.ntmps60
  go_wp2_with (go_at_call 111; refine S.out.mono ?_; rintro e w1 ⟨rfl, hB⟩; have k1 := Lib.hid (KK.out.trans (Below.mono hB KK.out.size)); clear hB)
  go_returns
  exact ⟨rfl, k1.out⟩
end Go.Proofs.Ytaiedpblfnaooab
