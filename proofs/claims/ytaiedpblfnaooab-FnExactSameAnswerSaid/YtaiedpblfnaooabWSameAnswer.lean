/- SameAnswer answers, for every two answers, as its model does. No conditions. -/
import Derived.Test.YtaiedpblfnaooabAnwE
import Derived.Test.YtaiedpblfnaooabAnw2
import Derived.Test.YtaiedpblfnaooabMake1Y
import Derived.Deep.DeepCutAuto
namespace Go.Proofs.Ytaiedpblfnaooab
open Go.ChangeShapes Go.WideShapes Go.ChangeAt Go.RowKit

/-- The boxes of the law's own. -/
def LB2 (w W : World) (A B : Array Value) : Prop := W.heap[w.heap.size]? = some (.cells A 94 (0, 0)) ∧ W.heap[w.heap.size + 1]? = some (.cells B 94 (0, 0)) ∧ Below w.heap.size w W
theorem lB2_start (w : World) (A B : Array Value) : LB2 w ((w.alloc (.cells A 94)).alloc (.cells B 94)) A B := ⟨(block_alloc2 w _ _).1, (block_alloc2 w _ _).2, below_new (below_new (Below.refl _ _) _) _⟩
theorem LB2.ab {w W W' : World} {A B : Array Value} (h : LB2 w W A B) (hb : Ab W W') : LB2 w W' A B := ⟨hb.block h.1, hb.block h.2.1, h.2.2.trans (Below.mono hb h.2.2.size)⟩
/-- An answer of the call's own in memory. -/
def AwIn (W : World) (p : Option Addr × Option Addr) (x : Aw) : Prop := IntsIn W p.1 x.zs ∧ WitsIn W p.2 x.ws
theorem AwIn.ab {W W' : World} {p : Option Addr × Option Addr} {x : Aw} (h : AwIn W p x) (hb : Ab W W') : AwIn W' p x := ⟨intsIn_below h.1 hb, witsIn_below h.2 hb⟩
def awP (x : Aw) (p : Option Addr × Option Addr) : Value := .agg #[.int .u64 x.a, .int .u64 x.b, .int .u64 x.c, .int .u64 x.d, .slice p.1 x.zs.length x.zs.length, .slice p.2 x.ws.length x.ws.length]

set_option maxRecDepth 100000 in
set_option maxHeartbeats 6400000 in
theorem fnExactSameAnswer_walk (x : Aw) (ai : Option Addr) (ci : Nat) (aw : Option Addr) (cw : Nat) (hx : x.fits) (y : Aw) (bi : Option Addr) (di : Nat) (bw : Option Addr) (dw : Nat) (hy : y.fits) (w : World) (h1 : IntsIn w ai x.zs) (h2 : WitsIn w aw x.ws) (h3 : IntsIn w bi y.zs) (h4 : WitsIn w bw y.ws) :
    Calls Try.prog 13 #[.agg #[.int .u64 x.a, .int .u64 x.b, .int .u64 x.c, .int .u64 x.d, .slice ai x.zs.length ci, .slice aw x.ws.length cw], .agg #[.int .u64 y.a, .int .u64 y.b, .int .u64 y.c, .int .u64 y.d, .slice bi y.zs.length di, .slice bw y.ws.length dw]] w fun e w' => e = .returned (.bool true) ∧ Below w.heap.size w w' := by
  have B0 := Lib.hid (lB2_start w #[.int .u64 x.a, .int .u64 x.b, .int .u64 x.c, .int .u64 x.d, .slice ai x.zs.length ci, .slice aw x.ws.length cw] #[.int .u64 y.a, .int .u64 y.b, .int .u64 y.c, .int .u64 y.d, .slice bi y.zs.length di, .slice bw y.ws.length dw])
  have H0 := Lib.hid (show AwIn w (ai, aw) x from ⟨h1, h2⟩)
  have J0 := Lib.hid (show AwIn w (bi, bw) y from ⟨h3, h4⟩)
  have Z1 := Lib.hid fun W => szAnswer_any x ai ci aw cw 1048576 hx (by decide) (by decide) W
  have Z2 := Lib.hid fun l l0 l1 W => szAnswer_any y bi di bw dw l hy l0 l1 W
  clear h1 h2 h3 h4 hx hy
  go_enter Try.func13, Try.ntmps13
  go_upto_region 3 with (go_at_call 59; refine (Z1.out _).mono ?_; rintro e w1 ⟨z, rfl, z0, z1, z2, hB⟩; have B1 := Lib.hid (B0.out.ab hB); have c1 := cell_of_block B1.out.2.1; clear hB)
  by_cases hz : z < 0
  · have d1 : decide (z < 0) = true := decide_eq_true hz
    go_wp2
    go_returns
    exact ⟨rfl, B1.out.2.2⟩
  have d1 : decide (z < 0) = false := decide_eq_false hz
  have zp : 0 ≤ z := by omega
  have n1 := Lib.hid (z2 zp)
  clear z2
  go_upto_region 6 with (go_at_call 59; refine (Z2.out z zp z1 _).mono ?_; rintro e w2 ⟨q, rfl, q0, q1, q2, hB⟩; have B2 := Lib.hid (B1.out.ab hB); clear hB c1)
  by_cases hq : q < 0
  · have d2 : decide (q < 0) = true := decide_eq_true hq
    go_wp2
    go_returns
    exact ⟨rfl, B2.out.2.2⟩
  have d2 : decide (q < 0) = false := decide_eq_false hq
  have n2 := Lib.hid (q2 (by omega))
  clear q2 z0 z1 q0 q1 hz hq zp
  have T1 := Lib.hid fun W (hs : AwIn W (ai, aw) x) => toAnswer_any x ai ci aw cw W hs.1 hs.2 n1.out.1 n1.out.2
  have T2 := Lib.hid fun W (hs : AwIn W (bi, bw) y) => toAnswer_any y bi di bw dw W hs.1 hs.2 n2.out.1 n2.out.2
  have S := fun p r W (hp : AwIn W p x) (hr : AwIn W r y) => sSameA_any x y p.1 x.zs.length p.2 x.ws.length r.1 y.zs.length r.2 y.ws.length W hp.1 hp.2 hr.1 hr.2 n1.out.1 n1.out.2
  have I := fun p r W (hp : AwIn W p x) (hr : AwIn W r y) => iSameA_any x y p.1 x.zs.length p.2 x.ws.length r.1 y.zs.length r.2 y.ws.length W hp.1 hp.2 hr.1 hr.2 n1.out.1 n1.out.2
  have E1 := Lib.hid fun p r W (hp : AwIn W p x) (hr : AwIn W r x) => eqAnswer_same x p.1 x.zs.length p.2 x.ws.length r.1 x.zs.length r.2 x.ws.length W hp.1 hp.2 hr.1 hr.2 n1.out.1 n1.out.2
  have E2 := Lib.hid fun p r W (hp : AwIn W p y) (hr : AwIn W r y) => eqAnswer_same y p.1 y.zs.length p.2 y.ws.length r.1 y.zs.length r.2 y.ws.length W hp.1 hp.2 hr.1 hr.2 n2.out.1 n2.out.2
  unfold awV at S I
  generalize eqA x y = qq at *
  have q4 : (qq != qq) = false := by simp
  have S := Lib.hid S
  have I := Lib.hid I
  go_upto_region 7 with (fail)
  have hbw := cell_bw
  refine wp_region_makeX_at (XX := Option Addr × Option Addr) (Y := Bool) 1 1 0 (fun p W => AwIn W p x) (fun p W => AwIn W p y) (fun r _ => r = qq) (fun _ _ _ h hb => h.ab hb) (fun _ _ _ h hb => h.ab hb) (fun _ _ _ h _ => h) (awP x) (awP y) (fun r => .bool r) (by kernel_rfl) rfl rfl rfl rfl (by kernel_rfl) rfl rfl rfl (none, none) true ?_
  simp only [Nat.reduceAdd, List.take_succ_cons, List.take_zero, List.drop_succ_cons, List.drop_zero]
  intro v1 hv1
  have c0 := cell_of_block (B2.out.ab hv1).1
  have z0 := lt_of_block (B2.out.ab hv1).1
  repeat (go_big_quiet_step (fail))
  refine wpQuiet_nil ?_
  clear c0 z0
  refine ⟨?_, ?_⟩
  · intro u2 hu2
    go_simp
    simp only [Yld]
    refine ⟨trivial, (T1.out u2 (H0.out.ab (B2.out.ab hu2).2.2)).mono ?_⟩
    rintro e u3 ⟨gi, gw, rfl, k1, k2, hb⟩
    exact ⟨_, rfl, gi, gw, rfl, hb, k1, k2⟩
  intro p v2 hv2
  simp only [Act.put, List.setIfInBounds_toArray, List.set_cons_succ, List.set_cons_zero]
  have c1 := cell_of_block (B2.out.ab hv2).2.1
  have z1 := lt_of_block (B2.out.ab hv2).2.1
  repeat (go_big_quiet_step (fail))
  refine wpQuiet_nil ?_
  clear c1 z1
  refine ⟨?_, ?_⟩
  · intro u2 hu2
    go_simp
    simp only [Yld]
    refine ⟨trivial, (T2.out u2 (J0.out.ab (B2.out.ab hu2).2.2)).mono ?_⟩
    rintro e u3 ⟨gi, gw, rfl, k1, k2, hb⟩
    exact ⟨_, rfl, gi, gw, rfl, hb, k1, k2⟩
  intro r v3 hv3
  simp only [Act.put, List.setIfInBounds_toArray, List.set_cons_succ, List.set_cons_zero]
  refine wpQuiet_nil ?_
  refine ⟨?_, ?_⟩
  · intro u3 hu3 hp hr
    unfold awP
    go_simp
    simp only [Yld]
    refine ⟨trivial, (S.out p r u3 hp hr).mono ?_⟩
    rintro e u4 ⟨rfl, hb⟩
    exact ⟨_, rfl, rfl, hb⟩
  intro q9
  simp only [List.setIfInBounds_toArray, List.set_cons_succ, List.set_cons_zero]
  refine ⟨rfl, .bool q9, fun _ => rfl, ?_⟩
  simp only [Act.put, List.setIfInBounds_toArray, List.set_cons_succ, List.set_cons_zero]
  intro w8 hw8 _ _ hq9
  subst hq9
  have B8 := Lib.hid (B2.out.ab hw8)
  clear B2 hw8 hv1 hv2 hv3 hbw
  have c0 := cell_of_block B8.out.1
  go_upto_region 10 with (go_at_call 61; refine (T1.out _ (H0.out.ab B8.out.2.2)).mono ?_; rintro e w9 ⟨gi, gw, rfl, k1, k2, hB⟩; have B9 := Lib.hid (B8.out.ab hB); have X9 := Lib.hid (show AwIn w9 (gi, gw) x from ⟨k1, k2⟩); clear hB k1 k2 c0)
  have L9 := Lib.hid (block_alloc w9 (.cells #[.int .u64 x.a, .int .u64 x.b, .int .u64 x.c, .int .u64 x.d, .slice gi x.zs.length x.zs.length, .slice gw x.ws.length x.ws.length] 85))
  have A9 := below_new (Below.refl w9.heap.size w9) (.cells #[.int .u64 x.a, .int .u64 x.b, .int .u64 x.c, .int .u64 x.d, .slice gi x.zs.length x.zs.length, .slice gw x.ws.length x.ws.length] 85)
  have B9 := Lib.hid (B9.out.ab A9)
  have X9 := Lib.hid (X9.out.ab A9)
  clear A9
  generalize w9.alloc (.cells #[.int .u64 x.a, .int .u64 x.b, .int .u64 x.c, .int .u64 x.d, .slice gi x.zs.length x.zs.length, .slice gw x.ws.length x.ws.length] 85) = V9 at *
  generalize w9.heap.size = g9 at *
  have c0 := cell_of_block B9.out.2.1
  go_upto_region 11 with (go_at_call 61; refine (T2.out _ (J0.out.ab B9.out.2.2)).mono ?_; rintro e w10 ⟨hi, hw, rfl, k1, k2, hB⟩; have B10 := Lib.hid (B9.out.ab hB); have X10 := Lib.hid (X9.out.ab hB); have L10 := Lib.hid (Ab.block hB L9.out); have Y10 := Lib.hid (show AwIn w10 (hi, hw) y from ⟨k1, k2⟩); clear hB k1 k2 c0)
  have M10 := Lib.hid (block_alloc w10 (.cells #[.int .u64 y.a, .int .u64 y.b, .int .u64 y.c, .int .u64 y.d, .slice hi y.zs.length y.zs.length, .slice hw y.ws.length y.ws.length] 85))
  have A10 := below_new (Below.refl w10.heap.size w10) (.cells #[.int .u64 y.a, .int .u64 y.b, .int .u64 y.c, .int .u64 y.d, .slice hi y.zs.length y.zs.length, .slice hw y.ws.length y.ws.length] 85)
  have B10 := Lib.hid (B10.out.ab A10)
  have X10 := Lib.hid (X10.out.ab A10)
  have Y10 := Lib.hid (Y10.out.ab A10)
  have L10 := Lib.hid (Ab.block A10 L10.out)
  clear A10 B9 X9 L9 B8
  generalize w10.alloc (.cells #[.int .u64 y.a, .int .u64 y.b, .int .u64 y.c, .int .u64 y.d, .slice hi y.zs.length y.zs.length, .slice hw y.ws.length y.ws.length] 85) = V10 at *
  generalize w10.heap.size = g10 at *
  have c9 := cell_of_block L10.out
  have c10 := cell_of_block M10.out
  go_upto_region 14 with (go_at_call 62; refine (I.out (gi, gw) (hi, hw) _ X10.out Y10.out).mono ?_; rintro e w11 ⟨rfl, hB⟩; have B11 := Lib.hid (B10.out.ab hB); have X11 := Lib.hid (X10.out.ab hB); have Y11 := Lib.hid (Y10.out.ab hB); have L11 := Lib.hid (Ab.block hB L10.out); have M11 := Lib.hid (Ab.block hB M10.out); clear hB c9 c10)
  have hbw := cell_bw
  refine wp_region_make1Y_at (XX := Option Addr × Option Addr) (Y := Bool) 2 0 (fun p W => AwIn W p x) (fun r _ => r = true) (fun _ _ _ h hb => h.ab hb) (fun _ _ _ h _ => h) (awP x) (fun r => .bool r) (by kernel_rfl) rfl rfl rfl (by kernel_rfl) rfl rfl (none, none) true ?_
  simp only [Nat.reduceAdd, List.take_succ_cons, List.take_zero, List.drop_succ_cons, List.drop_zero]
  intro v1 hv1
  have c0 := cell_of_block (B11.out.ab hv1).1
  have z0 := lt_of_block (B11.out.ab hv1).1
  have c9 := cell_of_block (Ab.block hv1 L11.out)
  have z9 := lt_of_block (Ab.block hv1 L11.out)
  repeat (go_big_quiet_step (fail))
  refine wpQuiet_nil ?_
  clear c0 z0 c9 z9
  refine ⟨?_, ?_⟩
  · intro u2 hu2
    go_simp
    simp only [Yld]
    refine ⟨trivial, (T1.out u2 (H0.out.ab (B11.out.ab hu2).2.2)).mono ?_⟩
    rintro e u3 ⟨gi, gw, rfl, k1, k2, hb⟩
    exact ⟨_, rfl, gi, gw, rfl, hb, k1, k2⟩
  intro p4 v3 hv3
  simp only [Act.put, List.setIfInBounds_toArray, List.set_cons_succ, List.set_cons_zero]
  refine wpQuiet_nil ?_
  refine ⟨?_, ?_⟩
  · intro u3 hu3 hp
    unfold awP
    go_simp
    simp only [Yld]
    refine ⟨trivial, (E1.out (gi, gw) p4 u3 (X11.out.ab hu3) hp).mono ?_⟩
    rintro e u4 ⟨rfl, hb⟩
    exact ⟨_, rfl, rfl, hb⟩
  intro e4
  simp only [List.setIfInBounds_toArray, List.set_cons_succ, List.set_cons_zero]
  refine ⟨rfl, .bool (!e4), fun _ => rfl, ?_⟩
  simp only [Act.put, List.setIfInBounds_toArray, List.set_cons_succ, List.set_cons_zero]
  intro w12 hw12 _ he4
  subst he4
  have B12 := Lib.hid (B11.out.ab hw12)
  have Y12 := Lib.hid (Y11.out.ab hw12)
  have M12 := Lib.hid (Ab.block hw12 M11.out)
  clear hw12 hv1 hv3 hbw B11 B10 X10 Y10 L10 M10 X11 Y11 L11 M11
  go_upto_region 16 with (fail)
  have hbw := cell_bw
  refine wp_region_make1Y_at (XX := Option Addr × Option Addr) (Y := Bool) 2 0 (fun p W => AwIn W p y) (fun r _ => r = true) (fun _ _ _ h hb => h.ab hb) (fun _ _ _ h _ => h) (awP y) (fun r => .bool r) (by kernel_rfl) rfl rfl rfl (by kernel_rfl) rfl rfl (none, none) true ?_
  simp only [Nat.reduceAdd, List.take_succ_cons, List.take_zero, List.drop_succ_cons, List.drop_zero]
  intro v1 hv1
  have c0 := cell_of_block (B12.out.ab hv1).2.1
  have z0 := lt_of_block (B12.out.ab hv1).2.1
  have c9 := cell_of_block (Ab.block hv1 M12.out)
  have z9 := lt_of_block (Ab.block hv1 M12.out)
  repeat (go_big_quiet_step (fail))
  refine wpQuiet_nil ?_
  clear c0 z0 c9 z9
  refine ⟨?_, ?_⟩
  · intro u2 hu2
    go_simp
    simp only [Yld]
    refine ⟨trivial, (T2.out u2 (J0.out.ab (B12.out.ab hu2).2.2)).mono ?_⟩
    rintro e u3 ⟨gi, gw, rfl, k1, k2, hb⟩
    exact ⟨_, rfl, gi, gw, rfl, hb, k1, k2⟩
  intro p5 v3 hv3
  simp only [Act.put, List.setIfInBounds_toArray, List.set_cons_succ, List.set_cons_zero]
  refine wpQuiet_nil ?_
  refine ⟨?_, ?_⟩
  · intro u3 hu3 hp
    unfold awP
    go_simp
    simp only [Yld]
    refine ⟨trivial, (E2.out (hi, hw) p5 u3 (Y12.out.ab hu3) hp).mono ?_⟩
    rintro e u4 ⟨rfl, hb⟩
    exact ⟨_, rfl, rfl, hb⟩
  intro e5
  simp only [List.setIfInBounds_toArray, List.set_cons_succ, List.set_cons_zero]
  refine ⟨rfl, .bool (!e5), fun _ => rfl, ?_⟩
  simp only [Act.put, List.setIfInBounds_toArray, List.set_cons_succ, List.set_cons_zero]
  intro w13 hw13 _ he5
  subst he5
  have B13 := Lib.hid (B12.out.ab hw13)
  clear hw13 hv1 hv3 hbw B12 Y12 M12
  go_wp2
  go_returns
  exact ⟨rfl, B13.out.2.2⟩
/-! ### The frame round the walk -/
section
set_option maxRecDepth 100000 in
theorem fnExactSameAnswer_lifted (os : Os) (started : os.Started) (H : Type) (enc : TypeId × Value → H) :
    ReturnsInHanded {} Try.checked os 13 .any (Rows.fnExactSameAnswerSpec.pre6 enc Try.prog Try.f13 Rows.fnExactSameAnswerRow.domain false) (Rows.fnExactSameAnswerSpec.post enc Try.prog Try.f13 false true false false) := by
  refine returnsInHanded_of_change_sized (C := Try.checked) own started (by kernel_rfl) Try.func13
    (ChangeSpec.witness6 (enc := enc) (C := Try.checked) false ⟨#[], #[.agg #[.int .u64 0, .int .u64 0, .int .u64 0, .int .u64 0, .slice none 0 0, .slice none 0 0], .agg #[.int .u64 0, .int .u64 0, .int .u64 0, .int .u64 0, .slice none 0 0, .slice none 0 0]], []⟩ 8 (by kernel_rfl) (by kernel_rfl) (by kernel_rfl) (by kernel_rfl)) ?_
  intro W base args ds gs before hval hW _ hsz _
  have hW' := hW
  obtain ⟨p, q, hA, hV, rfl, _, _⟩ := hW
  obtain ⟨rfl, rfl⟩ := trodVars_none hV
  have hlt : ∀ x ∈ p, x.block < W.heap.size := fun x hx => by simpa using hW'.lt x (by simpa using hx)
  rw [Try.params13] at hA hval hsz
  obtain ⟨v0, vs0, d0, ds0, p0, q0, hargs, rfl, rfl, h0, r0⟩ := trodAll_cons hA
  obtain ⟨v1, vs1, d1, ds1, p1, q1, rfl, rfl, rfl, h1, r1⟩ := trodAll_cons r0
  obtain ⟨rfl, rfl, rfl⟩ := trodAll_nil r1
  obtain rfl : args = #[v0, v1] := by cases args; simp_all
  obtain ⟨x0, ai0, ci0, aw0, cw0, rfl, hx0, hi0, hw0⟩ := open_answer (u := 47) (ei := 2) (e := 190) Try.underlying94 (by kernel_rfl) (by kernel_rfl) (by kernel_rfl) (by kernel_rfl) (by kernel_rfl) (by kernel_rfl) (by kernel_rfl) Try.underlying190 (by kernel_rfl) (by kernel_rfl) (by kernel_rfl) (by kernel_rfl) (by kernel_rfl) (by kernel_rfl) (by kernel_rfl) (by kernel_rfl) (by kernel_rfl) (by kernel_rfl) (by kernel_rfl) (hval 0 94 v0 rfl rfl) h0
  obtain ⟨x1, ai1, ci1, aw1, cw1, rfl, hx1, hi1, hw1⟩ := open_answer (u := 47) (ei := 2) (e := 190) Try.underlying94 (by kernel_rfl) (by kernel_rfl) (by kernel_rfl) (by kernel_rfl) (by kernel_rfl) (by kernel_rfl) (by kernel_rfl) Try.underlying190 (by kernel_rfl) (by kernel_rfl) (by kernel_rfl) (by kernel_rfl) (by kernel_rfl) (by kernel_rfl) (by kernel_rfl) (by kernel_rfl) (by kernel_rfl) (by kernel_rfl) (by kernel_rfl) (hval 1 94 v1 rfl rfl) h1
  refine (fnExactSameAnswer_walk x0 ai0 ci0 aw0 cw0 hx0 x1 ai1 ci1 aw1 cw1 hx1 W hi0 hw0 hi1 hw1).mono fun e W' ⟨he, hb⟩ => ?_
  subst he
  exact ⟨_, rfl, law_post laidOut rfl Try.underlying4 (of_all (by kernel_rfl)) rfl hW' rfl rfl rfl hb⟩

theorem fnExactSameAnswer_over : Rows.fnExactSameAnswerRow.holds Try.pinned (OpenSpec.ofChange Rows.fnExactSameAnswerSpec) :=
  OpenClaim.holds_of_wide 13 Try.f13 rfl rfl rfl rfl rfl rfl rfl ⟨rfl, rfl, rfl, rfl, rfl⟩ rfl rfl rfl rfl rfl (by kernel_rfl) Try.func13 (by kernel_rfl)
    (of_decide_eq_true (by kernel_rfl)) (by unfold Func.isWrapper; rw [if_neg (of_decide_eq_false (by kernel_rfl))]; exact ⟨rfl, rfl⟩)
    (fun os started H enc _ => fnExactSameAnswer_lifted os started H enc)

/-- The statement. -/
theorem fnExactSameAnswer_holds : Rows.FnExactSameAnswerSaid := fnExactSameAnswer_over
end
end Go.Proofs.Ytaiedpblfnaooab
