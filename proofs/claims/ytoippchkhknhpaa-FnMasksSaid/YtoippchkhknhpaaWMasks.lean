/- FnMasks: what holds of two masks, whatever the bytes. No conditions. -/
import Derived.Test.YtoippchkhknhpaaFmC
namespace Go.Proofs.Ytoippchkhknhpaa
open Go.ChangeShapes Go.WideShapes Go.ChangeAt Go.RowKit

theorem bytes_at {w : World} {a : Addr} {zs : List Int} (h : ∀ i, i < zs.length → w.cell? (a.add i) = some (.int .u8 (zs.getD i 0))) (hn : 0 < zs.length) : ∃ b off, a = ⟨b, off, none⟩ ∧ ∀ i, i < zs.length → w.cell? ⟨b, off + i, none⟩ = some (.int .u8 (zs.getD i 0)) := by
  obtain ⟨b, off, sp⟩ := a
  cases sp with
  | none => exact ⟨b, off, rfl, fun i hi => by
    have := h i hi
    by_cases e : i = 0
    · subst e; simpa [Addr.add] using this
    · simpa [Addr.add, e] using this⟩
  | some x =>
    have := h 0 hn
    simp [World.cell?, Addr.add] at this
    split at this <;> simp at this
theorem open_bytesS {H : Type} {enc : TypeId × Value → H} {P : Program} {W : World} {t e : TypeId} {v : Value} {d : DataW H} {p : List MemPlace} {r : Reach} {b : Nat} (ht : P.underlying t = some (.slice e)) (he : P.underlying e = some (.int .u8)) (hc : P.cellsOf e = 1)
    (hv : Value.okWide P W r b t v) (h : DataW.Trod enc P W 0 (fun _ => true) true t v d p) : ∃ a zs cap, v = .slice a zs.length cap ∧ BytesIn W a zs := by
  obtain ⟨a0, len, cap, rfl⟩ := okWide_slice ht hv
  obtain ⟨fuel, hf⟩ := h
  rcases open_ints ht he hc hf with ⟨hcs, hx⟩ | ⟨a, len', cap', zs, hcs, _, hl, hm, hz, hx, hcell, hwz⟩
  · simp [Value.cells] at hcs
    obtain ⟨rfl, rfl, rfl⟩ := hcs
    exact ⟨none, [], 0, rfl, fun i hi => by simp at hi⟩
  · simp [Value.cells] at hcs
    obtain ⟨rfl, rfl, rfl⟩ := hcs
    simp at hz
    refine ⟨some a, zs.take len, cap, ?_, ?_⟩
    · rw [List.length_take, Nat.min_eq_left (by omega)]
    · intro i hi
      rw [List.length_take] at hi
      obtain ⟨b, off, rfl, hcc⟩ := bytes_at hcell (by omega)
      have h2 := hcc i (by omega)
      have hi2 : i < zs.length := by omega
      have e : (zs.take len).getD i 0 = zs.getD i 0 := by simp [List.getD, show i < len by omega]
      have hw := hwz _ (List.getElem_mem hi2)
      have e2 : zs.getD i 0 = zs[i] := by simp [List.getD, hi2]
      simp [Lit.wf, IntKind.min, IntKind.max, IntKind.signed, IntKind.bits] at hw
      refine ⟨b, off, rfl, World.block_lt_of_cell? _ _ h2, ?_, ?_, ?_⟩
      · rw [h2, e]
      · rw [e, e2]; omega
      · rw [e, e2]; omega

theorem eqTo_self (L : List Int) : ∀ k, eqTo L L k = true
  | 0 => rfl
  | k + 1 => by unfold eqTo; rw [eqTo_self L k]; simp
/-- A box with a mask. -/
structure Bx (w : World) (g : Nat) (x y : Int) : Prop where
  lt : g < w.heap.size
  c0 : w.cell? ⟨g, 0, none⟩ = some (.int .u64 x)
  c1 : w.cell? ⟨g, 1, none⟩ = some (.int .u64 y)
theorem Bx.below {w w' : World} {g : Nat} {x y : Int} (h : Bx w g x y) (b : Below w.heap.size w w') : Bx w' g x y := ⟨Nat.lt_of_lt_of_le h.lt b.size, (b.cell h.lt).trans h.c0, (b.cell h.lt).trans h.c1⟩
theorem Bx.new (w : World) (x y : Int) : Bx (w.alloc (.cells #[.int .u64 x, .int .u64 y] 51)) w.heap.size x y := ⟨by simp, by simp, by simp⟩
theorem Bx.past {w : World} {g : Nat} {x y : Int} (h : Bx w g x y) (o : Obj) : Bx (w.alloc o) g x y := h.below (below_new (Below.refl _ _) o)
theorem sA2Same_any (a b : Option Addr) (L : List Int) (c d : Nat) (w : World) (ha : IntsIn w a L) (hb : IntsIn w b L) (hn : L.length ≤ 1048576) :
    Calls Try.prog 64 #[.slice a L.length c, .slice b L.length d] w fun e w' => e = .returned (.bool true) ∧ Below w.heap.size w w' := by
  have H := sSame_any a b L L c d w ha hb hn
  have e : eqL L L = true := eqL_yes rfl (eqTo_self L L.length)
  rw [e] at H
  go_enter Try.func64, Try.ntmps64
  go_wp2_with (go_at_call 108; refine H.mono ?_; rintro e w1 ⟨rfl, hB⟩)
  go_ret
  exact ⟨rfl, hB⟩
theorem sA2Has_any (a : Option Addr) (L : List Int) (c : Nat) (x : Int) (t : Bool) (w : World) (ha : IntsIn w a L) (hn : L.length ≤ 1048576) (h : decide (x ∈ L) = t) :
    Calls Try.prog 68 #[.slice a L.length c, .int .i64 x] w fun e w' => e = .returned (.bool t) ∧ Below w.heap.size w w' := by
  have H := sIn_any a L c x w ha (by omega)
  rw [h] at H
  clear h
  go_enter Try.func68, Try.ntmps68
  go_wp2_with (go_at_call 109; refine H.mono ?_; rintro e w1 ⟨rfl, hB⟩)
  go_ret
  exact ⟨rfl, hB⟩
theorem h2 {X Y h : Int} {L : List Int} {t : Bool} (e : L = hol (hasB X Y) 96) (m : decide (h ∈ hol (hasB X Y) 96) = t) : decide (h ∈ L) = t := by rw [e]; exact m
theorem eqO_of {X Y h o0 o1 s0 s1 : Int} {z : Bool} (g : FH X Y h o0 o1 s0 s1 z) : z = true → ∀ v : World, (Op.equalIn 10000 51 (.agg #[.int .u64 o0, .int .u64 o1]) (.agg #[.int .u64 X, .int .u64 Y])).run Try.prog v = .ok true v := fun e v => by
  obtain ⟨h1, h2⟩ := g.same1 e
  rw [eq_mask, h1, h2]; simp
theorem eqS_of {X Y h o0 o1 s0 s1 : Int} {z : Bool} (g : FH X Y h o0 o1 s0 s1 z) : z = false → ∀ v : World, (Op.equalIn 10000 51 (.agg #[.int .u64 s0, .int .u64 s1]) (.agg #[.int .u64 X, .int .u64 Y])).run Try.prog v = .ok true v := fun e v => by
  obtain ⟨h1, h2⟩ := g.same2 e
  rw [eq_mask, h1, h2]; simp

set_option maxRecDepth 20000 in
set_option maxHeartbeats 1600000 in
theorem fnMasks_walk (a : Option Addr) (zs : List Int) (c : Nat) (b : Option Addr) (ys : List Int) (d : Nat) (w : World) (ha : BytesIn w a zs) (hb : BytesIn w b ys) :
    Calls Try.prog 12 #[.slice a zs.length c, .slice b ys.length d] w fun e w' => e = .returned (.bool true) ∧ Below w.heap.size w w' := by
  have HA := Lib.hid ha
  have HB := Lib.hid hb
  clear ha hb
  cases hlong : (decide (3000 < zs.length) || decide (3000 < ys.length))
  · have LG := Lib.hid hlong
    clear hlong
    have tok1 : True := trivial
    have tok2 : True := trivial
    go_enter Try.func12, Try.ntmps12
    go_wp2_with (first
      | (go_at_call 52; refine (a2Long_any a b zs ys c d false LG.out _).mono ?_; rintro e w0 ⟨rfl, hB⟩; have K0 := Lib.hid hB; clear hB)
      | (go_at_call 53; have _t := tok1; clear _t tok1; refine Calls.mono (a2Mask_any a zs c _ ?_) ?_; exact bytesIn_below HA.out K0.out; rintro e w1 ⟨X, Y, rfl, hX, hY0, hY, hB⟩; have K1 := Lib.hid (K0.out.trans (hB.mono K0.out.size)); have UX := Lib.hid hX; have UY0 := Lib.hid hY0; have UY := Lib.hid hY; clear hB hX hY0 hY)
      | (go_at_call 53; refine Calls.mono (a2Mask_any b ys d _ ?_) ?_; exact bytesIn_below HB.out (below_new K1.out _); rintro e w2 ⟨U, V, rfl, hU, hV0, hV, hB⟩; have M2 := Lib.hid ((Bx.new w1 X Y).below hB); have K2 := Lib.hid ((below_new K1.out (.cells #[.int .u64 X, .int .u64 Y] 51)).trans (hB.mono (below_new K1.out (.cells #[.int .u64 X, .int .u64 Y] 51)).size)); obtain ⟨p0, p1, q0, q1, l0, l1, r0, r1, k0, k1, c0, c1, c2, c3, z, L, hF⟩ := fm_all X Y U V UX.out UY0.out UY.out hU hV0 hV; have FF := Lib.hid hF; obtain ⟨mz, m0, m1⟩ := M2.out; clear hB hF hU hV0 hV)
      | (go_at_call 54; refine (FF.out.meet _).mono ?_; rintro e w3 ⟨rfl, hB⟩; have M3 := Lib.hid ((M2.out.past (.cells #[.int .u64 U, .int .u64 V] 51)).below hB); have N3 := Lib.hid ((Bx.new w2 U V).below hB); have K3 := Lib.hid ((below_new K2.out (.cells #[.int .u64 U, .int .u64 V] 51)).trans (hB.mono (below_new K2.out (.cells #[.int .u64 U, .int .u64 V] 51)).size)); clear mz m0 m1; obtain ⟨mz, m0, m1⟩ := M3.out; obtain ⟨nz, n0, n1⟩ := N3.out; clear hB)
      | (go_at_call 55; refine (FF.out.join _).mono ?_; rintro e w4 ⟨rfl, hB⟩; have M4 := Lib.hid ((M3.out.past (.cells #[.int .u64 p0, .int .u64 p1] 51)).below hB); have N4 := Lib.hid ((N3.out.past (.cells #[.int .u64 p0, .int .u64 p1] 51)).below hB); have P4 := Lib.hid ((Bx.new w3 p0 p1).below hB); have K4 := Lib.hid ((below_new K3.out (.cells #[.int .u64 p0, .int .u64 p1] 51)).trans (hB.mono (below_new K3.out (.cells #[.int .u64 p0, .int .u64 p1] 51)).size)); clear mz m0 m1; obtain ⟨mz, m0, m1⟩ := M4.out; clear nz n0 n1; obtain ⟨nz, n0, n1⟩ := N4.out; obtain ⟨bpz, bp0, bp1⟩ := P4.out; clear hB)
      | (go_at_call 56; have _t := tok2; clear _t tok2; refine (FF.out.less _).mono ?_; rintro e w5 ⟨rfl, hB⟩; have M5 := Lib.hid ((M4.out.past (.cells #[.int .u64 q0, .int .u64 q1] 51)).below hB); have N5 := Lib.hid ((N4.out.past (.cells #[.int .u64 q0, .int .u64 q1] 51)).below hB); have P5 := Lib.hid ((P4.out.past (.cells #[.int .u64 q0, .int .u64 q1] 51)).below hB); have Q5 := Lib.hid ((Bx.new w4 q0 q1).below hB); have K5 := Lib.hid ((below_new K4.out (.cells #[.int .u64 q0, .int .u64 q1] 51)).trans (hB.mono (below_new K4.out (.cells #[.int .u64 q0, .int .u64 q1] 51)).size)); clear mz m0 m1; obtain ⟨mz, m0, m1⟩ := M5.out; clear nz n0 n1; obtain ⟨nz, n0, n1⟩ := N5.out; clear bpz bp0 bp1; obtain ⟨bpz, bp0, bp1⟩ := P5.out; obtain ⟨bqz, bq0, bq1⟩ := Q5.out; clear hB)
      | (go_at_call 56; refine (FF.out.ssel _).mono ?_; rintro e w6 ⟨rfl, hB⟩; have M6 := Lib.hid ((M5.out.past (.cells #[.int .u64 l0, .int .u64 l1] 51)).below hB); have N6 := Lib.hid ((N5.out.past (.cells #[.int .u64 l0, .int .u64 l1] 51)).below hB); have P6 := Lib.hid ((P5.out.past (.cells #[.int .u64 l0, .int .u64 l1] 51)).below hB); have Q6 := Lib.hid ((Q5.out.past (.cells #[.int .u64 l0, .int .u64 l1] 51)).below hB); have L6 := Lib.hid ((Bx.new w5 l0 l1).below hB); have K6 := Lib.hid ((below_new K5.out (.cells #[.int .u64 l0, .int .u64 l1] 51)).trans (hB.mono (below_new K5.out (.cells #[.int .u64 l0, .int .u64 l1] 51)).size)); clear mz m0 m1; obtain ⟨mz, m0, m1⟩ := M6.out; clear nz n0 n1; obtain ⟨nz, n0, n1⟩ := N6.out; clear bpz bp0 bp1; obtain ⟨bpz, bp0, bp1⟩ := P6.out; clear bqz bq0 bq1; obtain ⟨bqz, bq0, bq1⟩ := Q6.out; obtain ⟨blz, bl0, bl1⟩ := L6.out; clear hB))
    have M7 := Lib.hid (M6.out.past (.cells #[.int .u64 r0, .int .u64 r1] 51))
    have N7 := Lib.hid (N6.out.past (.cells #[.int .u64 r0, .int .u64 r1] 51))
    have P7 := Lib.hid (P6.out.past (.cells #[.int .u64 r0, .int .u64 r1] 51))
    have Q7 := Lib.hid (Q6.out.past (.cells #[.int .u64 r0, .int .u64 r1] 51))
    have L7 := Lib.hid (L6.out.past (.cells #[.int .u64 r0, .int .u64 r1] 51))
    have R7 := Lib.hid (Bx.new w6 r0 r1)
    have K7 := Lib.hid (below_new K6.out (.cells #[.int .u64 r0, .int .u64 r1] 51))
    clear mz m0 m1 nz n0 n1 bpz bp0 bp1 bqz bq0 bq1 blz bl0 bl1
    clear K0 K1 K2 K3 K4 K5 K6 M2 M3 N3 M4 N4 P4 M5 N5 P5 Q5 M6 N6 P6 Q6 L6
    generalize w6.alloc (.cells #[.int .u64 r0, .int .u64 r1] 51) = W at M7 N7 P7 Q7 L7 R7 K7 ⊢
    obtain ⟨mz, m0, m1⟩ := M7.out
    obtain ⟨nz, n0, n1⟩ := N7.out
    obtain ⟨bpz, bp0, bp1⟩ := P7.out
    obtain ⟨bqz, bq0, bq1⟩ := Q7.out
    obtain ⟨blz, bl0, bl1⟩ := L7.out
    obtain ⟨brz, br0, br1⟩ := R7.out
    generalize w1.heap.size = gm at *
    generalize w2.heap.size = gn at *
    generalize w3.heap.size = gp at *
    generalize w4.heap.size = gq at *
    generalize w5.heap.size = gl at *
    generalize w6.heap.size = gr at *
    have e1 : ∀ v : World, (Op.equalIn 10000 51 (.agg #[.int .u64 q0, .int .u64 q1]) (.agg #[.int .u64 q0, .int .u64 q1])).run Try.prog v = .ok true v := fun v => by rw [eq_mask]; simp
    have e2 : ∀ v : World, (Op.equalIn 10000 51 (.agg #[.int .u64 0, .int .u64 0]) (.agg #[.int .u64 0, .int .u64 0])).run Try.prog v = .ok true v := fun v => by rw [eq_mask]; simp
    have e3 : ∀ v : World, (Op.equalIn 10000 51 (.agg #[.int .u64 l0, .int .u64 l1]) (.agg #[.int .u64 0, .int .u64 0])).run Try.prog v = .ok z v := fun v => by rw [eq_mask, FF.out.sub]
    have wr1 : IntKind.i64.wrap ((c1 : Int) + (c2 : Int)) = (c1 : Int) + (c2 : Int) := IntWalk.i64_in _ (by have := FF.out.sum; have := FF.out.b0; omega)
    have wr2 : IntKind.i64.wrap ((c1 : Int) + (c2 : Int) + (c3 : Int)) = (c1 : Int) + (c2 : Int) + (c3 : Int) := IntWalk.i64_in _ (by have := FF.out.sum; have := FF.out.b0; omega)
    have hne : ((c0 : Int) != (c1 : Int) + (c2 : Int) + (c3 : Int)) = false := by have := FF.out.sum; simp; omega
    have e4 : ∀ v : World, (Op.equalIn 10000 51 (.agg #[.int .u64 X, .int .u64 Y]) (.agg #[.int .u64 X, .int .u64 Y])).run Try.prog v = .ok true v := fun v => by rw [eq_mask]; simp
    have hL := Lib.hid (show L.length ≤ 1048576 from by have := FF.out.len; omega)
    have hbw := cell_bw
    refine region_bw (by kernel_rfl) (by kernel_rfl) ?_
    simp only [List.append_eq, List.cons_append, List.nil_append]
    repeat (go_big_quiet_step (first | (go_at_call_of 57 (Value.int IntKind.u64 X); exact calls_bw (FF.out.ok1 _)) | (go_at_call_of 57 (Value.int IntKind.u64 q0); exact calls_bw (FF.out.ok2 _)) | (go_at_call_of 55 (Value.int IntKind.u64 r0); exact calls_bw (FF.out.join2 _)) | (go_at_call_of 55 (Value.int IntKind.u64 k0); exact calls_bw (FF.out.join3 _)) | (go_at_call_of 54 (Value.int IntKind.u64 l0); exact calls_bw (FF.out.meet2 _)) | (go_at_call_of 58 (Value.int IntKind.u64 q0); exact calls_bw (FF.out.n0 _)) | (go_at_call_of 58 (Value.int IntKind.u64 p0); exact calls_bw (FF.out.n1 _)) | (go_at_call_of 58 (Value.int IntKind.u64 l0); exact calls_bw (FF.out.n2 _)) | (go_at_call_of 58 (Value.int IntKind.u64 r0); exact calls_bw (FF.out.n3 _)) | (go_at_call_of 59 (Value.int IntKind.u64 p0); exact calls_bw (FF.out.w1 _)) | (go_at_call_of 59 (Value.int IntKind.u64 q0); exact calls_bw (FF.out.w2 _)) | (go_at_call_of 59 (Value.int IntKind.u64 U); exact calls_bw (FF.out.w3 _)) | (go_at_call_of 60 (Value.int IntKind.u64 X); exact calls_bw (FF.out.sj _))))
    refine wpQuiet_nil ?_; intro wq hq; replace hq := below_of_bw hq; obtain ⟨qc, qf, qz⟩ := bcell hq
    have M8 := Lib.hid (M7.out.below hq)
    have K8 := Lib.hid (K7.out.trans (hq.mono K7.out.size))
    clear hq qc qf qz e1 e2 e3 wr1 wr2 hne hbw mz m0 m1 nz n0 n1 bpz bp0 bp1 bqz bq0 bq1 blz bl0 bl1 brz br0 br1 M7 N7 P7 Q7 L7 R7 K7
    obtain ⟨mz, m0, m1⟩ := M8.out
    have tok3 : True := trivial
    go_wp2_with (first
      | (go_at_call 61; refine (FF.out.hi _).mono ?_; rintro e w9 ⟨v1, rfl, hO, hB⟩; obtain ⟨a1, d1, rfl, hI⟩ := ownInts_in hO; have I9 := Lib.hid hI; have M9 := Lib.hid (M8.out.below hB); have K9 := Lib.hid (K8.out.trans (hB.mono K8.out.size)); clear mz m0 m1; obtain ⟨mz, m0, m1⟩ := M9.out; clear hO hB hI)
      | (go_at_call 62; refine (FF.out.hs _).mono ?_; rintro e w10 ⟨v2, rfl, hO, hB⟩; obtain ⟨a2, d2, rfl, hI⟩ := ownInts_in hO; have J10 := Lib.hid hI; have I10 := Lib.hid (intsIn_below I9.out hB); have M10 := Lib.hid (M9.out.below hB); have K10 := Lib.hid (K9.out.trans (hB.mono K9.out.size)); clear mz m0 m1; obtain ⟨mz, m0, m1⟩ := M10.out; clear hO hB hI)
      | (go_at_call 63; refine Calls.mono (FF.out.mo a1 d1 _ ?_) ?_; exact I10.out; rintro e w11 ⟨rfl, hB⟩; have J11 := Lib.hid (intsIn_below J10.out hB); have I11 := Lib.hid (intsIn_below I10.out hB); have M11 := Lib.hid (M10.out.below hB); have K11 := Lib.hid (K10.out.trans (hB.mono K10.out.size)); clear mz m0 m1; obtain ⟨mz, m0, m1⟩ := M11.out; clear hB)
      | (go_at_call 64; refine Calls.mono (sA2Same_any a1 a2 L d1 d2 _ ?_ ?_ hL.out) ?_; exact intsIn_below I11.out (below_new (Below.refl _ _) _); exact intsIn_below J11.out (below_new (Below.refl _ _) _); rintro e w12 ⟨rfl, hB⟩; have B12 := Lib.hid ((Bx.new w11 X Y).below hB); have M12 := Lib.hid ((M11.out.past (.cells #[.int .u64 X, .int .u64 Y] 51)).below hB); have J12 := Lib.hid (intsIn_below (intsIn_below J11.out (below_new (Below.refl _ _) (.cells #[.int .u64 X, .int .u64 Y] 51))) hB); have K12 := Lib.hid ((below_new K11.out (.cells #[.int .u64 X, .int .u64 Y] 51)).trans (hB.mono (below_new K11.out (.cells #[.int .u64 X, .int .u64 Y] 51)).size)); clear mz m0 m1; obtain ⟨mz, m0, m1⟩ := M12.out; obtain ⟨bz, bb0, bb1⟩ := B12.out; clear hB)
      | (go_at_call 58; refine (FF.out.n4 _).mono ?_; rintro e w13 ⟨rfl, hB⟩; have J13 := Lib.hid (intsIn_below J12.out hB); clear bz bb0 bb1; have M13 := Lib.hid (M12.out.below hB); have K13 := Lib.hid (K12.out.trans (hB.mono K12.out.size)); clear mz m0 m1; obtain ⟨mz, m0, m1⟩ := M13.out; clear hB)
      | (go_at_call 65; refine Calls.mono (a2At_any b ys d 0 96 _ ?_ (by omega) (by omega)) ?_; exact bytesIn_below HB.out K13.out; rintro e w14 ⟨h, rfl, h0, h1, hB⟩; obtain ⟨o0, o1, s0, s1, hs, hG⟩ := fh_all X Y h UX.out UY0.out UY.out h0 (by omega); have GG := Lib.hid hG; have hG0 := hG; have J14 := Lib.hid (intsIn_below J13.out hB); have M14 := Lib.hid (M13.out.below hB); have K14 := Lib.hid (K13.out.trans (hB.mono K13.out.size)); clear mz m0 m1; obtain ⟨mz, m0, m1⟩ := M14.out; clear hB hG; have eo := eqO_of hG0; have es := eqS_of hG0; clear hG0; cases hs)
      | (go_at_call 66; have _t := tok3; clear _t tok3; refine (GG.out.on _).mono ?_; rintro e w15 ⟨rfl, hB⟩; have J15 := Lib.hid (intsIn_below J14.out hB); have M15 := Lib.hid (M14.out.below hB); have K15 := Lib.hid (K14.out.trans (hB.mono K14.out.size)); clear mz m0 m1; obtain ⟨mz, m0, m1⟩ := M15.out; clear hB)
      | (go_at_call 66; refine (GG.out.off _).mono ?_; rintro e w16 ⟨rfl, hB⟩; have O16 := Lib.hid ((Bx.new w15 o0 o1).below hB); have M16 := Lib.hid ((M15.out.past (.cells #[.int .u64 o0, .int .u64 o1] 51)).below hB); have J16 := Lib.hid (intsIn_below (intsIn_below J15.out (below_new (Below.refl _ _) (.cells #[.int .u64 o0, .int .u64 o1] 51))) hB); have K16 := Lib.hid ((below_new K15.out (.cells #[.int .u64 o0, .int .u64 o1] 51)).trans (hB.mono (below_new K15.out (.cells #[.int .u64 o0, .int .u64 o1] 51)).size)); clear mz m0 m1; obtain ⟨mz, m0, m1⟩ := M16.out; obtain ⟨oz, ob0, ob1⟩ := O16.out; clear hB)
      | (go_at_call_of 67 (Value.int IntKind.u64 o0); refine (GG.out.yes _).mono ?_; rintro e w17 ⟨rfl, hB⟩; have S17 := Lib.hid ((Bx.new w16 s0 s1).below hB); have O17 := Lib.hid ((O16.out.past (.cells #[.int .u64 s0, .int .u64 s1] 51)).below hB); have M17 := Lib.hid ((M16.out.past (.cells #[.int .u64 s0, .int .u64 s1] 51)).below hB); have J17 := Lib.hid (intsIn_below (intsIn_below J16.out (below_new (Below.refl _ _) (.cells #[.int .u64 s0, .int .u64 s1] 51))) hB); have K17 := Lib.hid ((below_new K16.out (.cells #[.int .u64 s0, .int .u64 s1] 51)).trans (hB.mono (below_new K16.out (.cells #[.int .u64 s0, .int .u64 s1] 51)).size)); clear mz m0 m1 oz ob0 ob1; obtain ⟨mz, m0, m1⟩ := M17.out; obtain ⟨oz, ob0, ob1⟩ := O17.out; obtain ⟨sz, sb0, sb1⟩ := S17.out; clear hB)
      | (go_at_call_of 67 (Value.int IntKind.u64 s0); refine (GG.out.no _).mono ?_; rintro e w18 ⟨rfl, hB⟩; have S18 := Lib.hid (S17.out.below hB); have O18 := Lib.hid (O17.out.below hB); have J18 := Lib.hid (intsIn_below J17.out hB); clear oz ob0 ob1 sz sb0 sb1; obtain ⟨oz, ob0, ob1⟩ := O18.out; obtain ⟨sz, sb0, sb1⟩ := S18.out; have M18 := Lib.hid (M17.out.below hB); have K18 := Lib.hid (K17.out.trans (hB.mono K17.out.size)); clear mz m0 m1; obtain ⟨mz, m0, m1⟩ := M18.out; clear hB)
      | (go_at_call_of 67 (Value.int IntKind.u64 X); refine (GG.out.has _).mono ?_; rintro e w19 ⟨rfl, hB⟩; have S19 := Lib.hid (S18.out.below hB); have O19 := Lib.hid (O18.out.below hB); have J19 := Lib.hid (intsIn_below J18.out hB); clear oz ob0 ob1 sz sb0 sb1; obtain ⟨oz, ob0, ob1⟩ := O19.out; obtain ⟨sz, sb0, sb1⟩ := S19.out; have M19 := Lib.hid (M18.out.below hB); have K19 := Lib.hid (K18.out.trans (hB.mono K18.out.size)); clear mz m0 m1; obtain ⟨mz, m0, m1⟩ := M19.out; clear hB)
      | (go_at_call 68; refine Calls.mono (sA2Has_any a2 L d2 h _ _ ?_ hL.out (h2 FF.out.isL GG.out.mem)) ?_; exact J19.out; rintro e w20 ⟨rfl, hB⟩; have K20 := Lib.hid (K19.out.trans (hB.mono K19.out.size)); clear hB))
    all_goals go_ret
    all_goals exact ⟨rfl, K20.out⟩
  · have LG := Lib.hid hlong
    clear hlong
    go_enter Try.func12, Try.ntmps12
    go_wp2_with (go_at_call 52; refine (a2Long_any a b zs ys c d true LG.out _).mono ?_; rintro e w1 ⟨rfl, hB⟩)
    go_ret
    exact ⟨rfl, hB⟩
/-! ### The frame round the walk -/
section
set_option maxRecDepth 100000 in
theorem fnMasks_lifted (os : Os) (started : os.Started) (H : Type) (enc : TypeId × Value → H) :
    ReturnsInHanded {} Try.checked os 12 .any (Rows.fnMasksSpec.pre6 enc Try.prog Try.f12 Rows.fnMasksRow.domain false) (Rows.fnMasksSpec.post enc Try.prog Try.f12 false true false false) := by
  refine returnsInHanded_of_change_sized (C := Try.checked) own started (by kernel_rfl) Try.func12
    (ChangeSpec.witness6 (enc := enc) (C := Try.checked) false ⟨#[], #[.slice none 0 0, .slice none 0 0], []⟩ 8 (by kernel_rfl) (by kernel_rfl) (by kernel_rfl) (by kernel_rfl)) ?_
  intro W base args ds gs before hval hW _ hsz _
  have hW' := hW
  obtain ⟨p, q, hA, hV, rfl, _, _⟩ := hW
  obtain ⟨rfl, rfl⟩ := trodVars_none hV
  have hlt : ∀ x ∈ p, x.block < W.heap.size := fun x hx => by simpa using hW'.lt x (by simpa using hx)
  rw [Try.params12] at hA hval hsz
  obtain ⟨v0, vs0, d0, ds0, p0, q0, hargs, rfl, rfl, h0, r0⟩ := trodAll_cons hA
  obtain ⟨v1, vs1, d1, ds1, p1, q1, rfl, rfl, rfl, h1, r1⟩ := trodAll_cons r0
  obtain ⟨rfl, rfl, rfl⟩ := trodAll_nil r1
  obtain rfl : args = #[v0, v1] := by cases args; simp_all
  obtain ⟨a0, z0, c0, rfl, hz0⟩ := open_bytesS (e := 5) (by kernel_rfl) (by kernel_rfl) (by kernel_rfl) (hval 0 72 v0 rfl rfl) h0
  obtain ⟨a1, z1, c1, rfl, hz1⟩ := open_bytesS (e := 5) (by kernel_rfl) (by kernel_rfl) (by kernel_rfl) (hval 1 72 v1 rfl rfl) h1
  refine (fnMasks_walk a0 z0 c0 a1 z1 c1 W hz0 hz1).mono fun e W' ⟨he, hb⟩ => ?_
  subst he
  exact ⟨_, rfl, law_post laidOut rfl Try.underlying4 (of_all (by kernel_rfl)) rfl hW' rfl rfl rfl hb⟩

theorem fnMasks_over : Rows.fnMasksRow.holds Try.pinned (OpenSpec.ofChange Rows.fnMasksSpec) :=
  OpenClaim.holds_of_wide 12 Try.f12 rfl rfl rfl rfl rfl rfl rfl ⟨rfl, rfl, rfl, rfl, rfl⟩ rfl rfl rfl rfl rfl (by kernel_rfl) Try.func12 (by kernel_rfl)
    (of_decide_eq_true (by kernel_rfl)) (by unfold Func.isWrapper; rw [if_neg (of_decide_eq_false (by kernel_rfl))]; exact ⟨rfl, rfl⟩)
    (fun os started H enc _ => fnMasks_lifted os started H enc)

/-- The statement. -/
theorem fnMasks_holds : Rows.FnMasksSaid := fnMasks_over
end
end Go.Proofs.Ytoippchkhknhpaa
