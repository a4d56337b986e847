/- Contracts: the model's ReadCard. -/
import Derived.Test.YtnbijfeidgddmaaGreatDoorRcIC
import Derived.Test.YtnbijfeidgddmaaGreatDoorRsZ3
import Derived.Test.YtnbijfeidgddmaaGreatDoorRsZ2
namespace Go.Proofs.YtnbijfeidgddmaaGreatDoor
open Go.ChangeShapes Go.WideShapes Go.ChangeAt Go.RowKit

theorem sInC (n lo hi : Int) (w : World) : Calls Tryz.prog 64 #[.int .i64 n, .int .i64 lo, .int .i64 hi] w fun e w' => e = .returned (.bool (decide (lo ≤ n) && decide (n ≤ hi))) ∧ w = w' := by
  by_cases h : lo ≤ n
  · rw [decide_eq_true h, Bool.true_and]
    by_cases h2 : n ≤ hi
    · have d := decide_eq_true h2
      rw [d]
      go_enter Tryz.func64, Tryz.ntmps64
      go_wp2
      go_returns
      exact ⟨rfl, rfl⟩
    · have d := decide_eq_false h2
      rw [d]
      go_enter Tryz.func64, Tryz.ntmps64
      go_wp2
      go_returns
      exact ⟨rfl, rfl⟩
  · have d := decide_eq_false h
    rw [d, Bool.false_and]
    go_enter Tryz.func64, Tryz.ntmps64
    go_wp2
    go_returns
    exact ⟨rfl, rfl⟩
theorem sHoleC {n : Int} {x : Bool} (h : decide (0 ≤ n ∧ n ≤ 95) = x) (w : World) : Calls Tryz.prog 48 #[.int .i64 n] w fun e w' => e = .returned (.bool x) ∧ w = w' := by
  have hx : (decide (0 ≤ n) && decide (n ≤ 95)) = x := by rw [← h]; by_cases h0 : 0 ≤ n <;> by_cases h1 : n ≤ 95 <;> simp [h0, h1]
  have I := Lib.hid fun W => sInC n 0 95 W
  rw [hx] at I
  clear h hx
  go_enter Tryz.func48, Tryz.ntmps48
  go_wp2_with (go_at_call 64; refine (I.out _).mono ?_; rintro e w1 ⟨rfl, rfl⟩)
  go_returns
  exact ⟨rfl, rfl⟩
theorem sJoinC (a b c d : Int) (w : World) :
    Calls Tryz.prog 34 #[.agg #[.int .u64 a, .int .u64 b], .agg #[.int .u64 c, .int .u64 d]] w fun e w' => e = .returned (.agg #[.int .u64 (bits .or .u64 a c), .int .u64 (bits .or .u64 b d)]) ∧ Below w.heap.size w w' :=
  (sJoin_any a b c d w).mono fun e w' ⟨he, hw⟩ => ⟨he, by rw [← hw]; exact (by repeat' (first | (with_reducible exact Below.refl _ _) | (with_reducible assumption) | (with_reducible refine below_drewN ?_ _) | (with_reducible refine Below.drew ?_) | (with_reducible refine below_new ?_ _) | (with_reducible refine below_next ?_ (by with_reducible assumption)) | (with_reducible refine Below.setCell ?_ ?_ _) | go_size))⟩
theorem strsC_at {w : World} {a : Option Addr} {zs : List ByteArray} (h : StrsIn w a zs) (h0 : 0 < zs.length) : ∃ b off, a = some ⟨b, off, none⟩ ∧ b < w.heap.size ∧ ∀ i, i < zs.length → w.cell? ⟨b, off + i, none⟩ = some (.string (zs.getD i ⟨#[]⟩)) := by
  obtain ⟨b, off, rfl, hb, _⟩ := h 0 h0
  refine ⟨b, off, rfl, hb, fun i hi => ?_⟩
  obtain ⟨b', off', e, _, hc⟩ := h i hi
  cases e
  exact hc
theorem rc_drew {n : Nat} {w W : World} (h : Below n w W) : Below n w W.drew := Below.drew h
/-- What the model's reader of a card tells. -/
def RdR (s : ByteArray) (w : World) (e : Ending) (w' : World) : Prop := ∃ nm x y, e = .returned (.tuple #[.agg #[.string nm, .int .u64 x, .int .u64 y], .bool (rcG fS s).isSome]) ∧ (∀ v, rcG fS s = some v → v = (nm, x, y)) ∧ Below w.heap.size w w'
theorem rdR_no {s nm : ByteArray} {x y : Int} {w w' : World} (h : rcG fS s = none) (hb : Below w.heap.size w w') : RdR s w (.returned (.tuple #[.agg #[.string nm, .int .u64 x, .int .u64 y], .bool false])) w' :=
  ⟨nm, x, y, by rw [h]; rfl, fun v e => (by rw [h] at e; cases e), hb⟩
theorem rdR_yes {s nm : ByteArray} {x y : Int} {w w' : World} (h : rcG fS s = some (nm, x, y)) (hb : Below w.heap.size w w') : RdR s w (.returned (.tuple #[.agg #[.string nm, .int .u64 x, .int .u64 y], .bool true])) w' :=
  ⟨nm, x, y, by rw [h]; rfl, fun v e => (by rw [h] at e; exact (Option.some.inj e).symm), hb⟩

set_option maxRecDepth 100000 in
set_option maxHeartbeats 6400000 in
theorem sRdC_any (s : ByteArray) (hs : s.size ≤ 1048576) (w : World) :
    Calls Tryz.prog 47 #[.string s] w (RdR s w) := by
  have SP := Lib.hid fun W => sSplitAt_any s 32 (by omega) W
  have R0 := Lib.hid (block_alloc w (.cells #[.string ⟨#[]⟩, .int .u64 0, .int .u64 0] 80))
  have B0 := Lib.hid (below_new (Below.refl w.heap.size w) (.cells #[.string ⟨#[]⟩, .int .u64 0, .int .u64 0] 80))
  obtain ⟨nm, ws, hp⟩ := two_of 32 s
  have hfit := pieces_fit 32 s
  have PP := Lib.hid hp
  rw [hp] at SP hfit
  have fn : nm.size ≤ 1048576 := Nat.le_trans (hfit nm (by simp)) hs
  have FW := Lib.hid (fun i (hi : i < ws.length) => Nat.le_trans (hfit (ws.getD i ⟨#[]⟩) (by simp [List.getD, hi])) hs)
  have hlen : ws.length ≤ 1048576 := by
    have h := pieces_len 32 s
    rw [hp, List.length_cons] at h
    omega
  clear hp hfit
  obtain ⟨L, hL⟩ : ∃ L, L = (nm :: ws).length := ⟨_, rfl⟩
  have HL := Lib.hid (show L = ws.length + 1 from hL)
  have hL1 : 1 ≤ L := by have := HL.out; omega
  have hL2 : L ≤ 1048577 := by have := HL.out; omega
  have HQ := Lib.hid hL
  clear hL
  go_enter Tryz.func47, Tryz.ntmps47
  go_wp2_with (go_at_call 15; refine (SP.out _).mono ?_; rintro e w1 ⟨v, rfl, hO, hB⟩; obtain ⟨a1, k1, hv, hI⟩ := ownStrs_in hO; rw [← HQ.out] at hv; obtain ⟨bq, oq, ha1, l1, hc⟩ := strsC_at hI (by simp); subst ha1; subst hv; have R1 := Lib.hid ((hB.block _ (by simp)).trans R0.out); have B1 := Lib.hid (B0.out.trans (Below.mono hB (by simp))); have d0 := hc 0 (by simp); simp only [List.getD_cons_zero, Nat.add_zero] at d0; have DD := Lib.hid (fun k (h1 : 1 ≤ k) (h2 : k < L) => show w1.cell? ⟨bq, oq + k, none⟩ = some (.string (ws.getD (k - 1) ⟨#[]⟩)) from (by obtain ⟨j, rfl⟩ : ∃ j, k = j + 1 := ⟨k - 1, by omega⟩; exact hc (j + 1) (by rw [← HQ.out]; exact h2))); have L1 := Lib.hid l1; have y9 := lt_of_block R1.out; clear hO hB hI hc)
  have M1 := Lib.hid (block_alloc w1 (.cells #[.string nm, .int .u64 0, .int .u64 0] 80))
  have A1 := Lib.hid (ab_newC w1 (.cells #[.string nm, .int .u64 0, .int .u64 0] 80))
  have hR := lt_of_block R1.out
  clear d0 l1 y9 HQ
  go_loopw [6] (fun i wr => ∃ (k : Nat) (zs : List Int), 1 ≤ k ∧ k ≤ L ∧ rdH fS ws (k - 1) = some zs ∧ i = .int .i64 (k : Int) ∧ wr.heap[w1.heap.size]? = some (.cells #[.string nm, .int .u64 (mo b0 zs (k - 1)), .int .u64 (mo b1 zs (k - 1))] 80 (0, 0)) ∧ Below w1.heap.size w1 wr) (fun i _ => L - (intOf i).toNat)
  case atStart => exact ⟨1, [], Nat.le_refl _, hL1, rfl, rfl, M1.out, A1.out⟩
  case round =>
    obtain ⟨k, zs, hk1, hk2, hz, rfl, hM, hA⟩ := hrel
    have hzl := rdH_len _ _ hz
    have MM := Lib.hid hM
    have AA := Lib.hid hA
    have ZZ := Lib.hid hz
    have R2 := Lib.hid (hA.block _ hR |>.trans R1.out)
    have B2 := Lib.hid (B1.out.trans (Below.mono hA B1.out.size))
    have ux := mo_u64 b0 zs zs.length
    have uy := mo_u64 b1 zs zs.length
    have p0 := fun h => mo_push b0 zs h
    have p1 := fun h => mo_push b1 zs h
    rw [hzl] at ux uy p0 p1
    clear hz hM hA M1 A1
    by_cases hkl : k < L
    · have dl : decide ((k : Int) < (L : Int)) = true := by simpa using hkl
      have c1 : wr.cell? ⟨bq, oq + k, none⟩ = some (.string (ws.getD (k - 1) ⟨#[]⟩)) := (AA.out.cell (p := ⟨bq, oq + k, none⟩) L1.out).trans (DD.out k hk1 hkl)
      have l1 := Nat.lt_of_lt_of_le L1.out AA.out.size
      have hkw : k - 1 < ws.length := by have := HL.out; omega
      have fw := FW.out (k - 1) hkw
      have i1 : (0 : Int) ≤ (k : Int) := by omega
      have i2 : (k : Int) < (L : Int) := by omega
      have ek : k - 1 + 1 = k + 1 - 1 := by omega
      have EK := Lib.hid ek
      clear ek
      generalize hwj : ws.getD (k - 1) ⟨#[]⟩ = wd at *
      have er : wr.frozen? ⟨w.heap.size, 0, none⟩ = false := free_of_block R2.out 0
      have FR := free_of_block R2.out
      cases hv : numL wd.data.toList with
      | none =>
        have EQ := Lib.hid (rcG_bad PP.out (n := k - 1 + 1) hkw (rdH_bad ZZ.out (by rw [show ByteArray.empty = ⟨#[]⟩ from rfl, hwj]; exact fS_none hv)))
        go_wp2_with (go_at_call 30; refine (sNum_no wd fw hv _).mono ?_; rintro e w9 ⟨rfl, hB⟩; have R9 := Lib.hid (Ab.block hB R2.out); have M9 := Ab.block hB MM.out; have B9 := Lib.hid (B2.out.trans (Below.mono hB B2.out.size)); have r0 := cell_of_block R9.out 0; have r1 := cell_of_block R9.out 1; have r2 := cell_of_block R9.out 2; have r9 := lt_of_block R9.out; have rf := free_of_block R9.out; have y0 := cell_of_block M9 0; have y1 := cell_of_block M9 1; have y2 := cell_of_block M9 2; have y9 := lt_of_block M9; clear hB M9)
        refine bodyPost_ret (by simp [results, Tryz.results47, go_sem,  r0, r1, r2]; try rfl) rfl ?_
        exact rdR_no EQ.out (((B9.out.setCell (by simp) _).setCell (by simp) _).setCell (by simp) _)
      | some h =>
        by_cases hh : h ≤ 95
        · have f := Lib.hid (rdH_next ZZ.out (h := (h : Int)) (by rw [show ByteArray.empty = ⟨#[]⟩ from rfl, hwj]; exact fS_in hv hh))
          have H := Lib.hid (sHoleC (n := (h : Int)) (decide_eq_true ⟨by omega, by omega⟩))
          have q0 := Lib.hid (p0 (h : Int))
          have q1 := Lib.hid (p1 (h : Int))
          have O := Lib.hid fun W => sBit_any (h : Int) (by omega) (by omega) W
          generalize mo b0 zs (k - 1) = X at *
          generalize mo b1 zs (k - 1) = Y at *
          generalize b0 (h : Int) = U at *
          generalize b1 (h : Int) = V at *
          have J := Lib.hid fun W => sJoinC X Y U V W
          clear hh hzl ux uy p0 p1
          go_wp2_with (first
            | (go_at_call 30; refine (sNum_ok wd fw h hv _).mono ?_; rintro e w3 ⟨rfl, hB⟩; have A3 := Lib.hid (AA.out.trans (Below.mono hB AA.out.size)); have M3 := Lib.hid (Ab.block hB MM.out); clear hB c1 l1)
            | (go_at_call 48; refine (H.out _).mono ?_; rintro e w4 ⟨rfl, rfl⟩))
          refine wp_region_last 6 (by kernel_rfl) rfl rfl (by kernel_rfl) (by kernel_rfl) rfl ?_
          simp only [List.take_succ_cons, List.take_zero]
          intro u1 h1
          have c0 := cell_of_block (h1.block M3.out) 0
          have c1 := cell_of_block (h1.block M3.out) 1
          have c2 := cell_of_block (h1.block M3.out) 2
          have s0 := lt_of_block (h1.block M3.out)
          have hbw := cell_bw
          repeat (go_big_quiet_step (first | (go_at_call 66; exact calls_bw (O.out _)) | (go_at_call 34; exact calls_bw (J.out _))))
          refine wpQuiet_nil ?_
          intro u3 h3
          have f0 := cell_of_block (h3.block M3.out) 0
          have f1 := cell_of_block (h3.block M3.out) 1
          have f2 := cell_of_block (h3.block M3.out) 2
          have ff := free_of_block (h3.block M3.out)
          have A4 := Lib.hid (A3.out.trans (Below.mono h3 A3.out.size))
          have M4 := Lib.hid (h3.block M3.out)
          go_simp
          simp only [Yld]
          go_wp2
          go_roundw
          case rel => exact ⟨k + 1, _, by omega, hkl, EK.out ▸ f.out, by go_num, by rw [← EK.out, q0.out, q1.out]; exact block_setCell _ (block_setCell _ M4.out), (A4.out.setCell (by simp) _).setCell (by simp) _⟩
          case measure => simp [intOf]; omega
        · have EQ := Lib.hid (rcG_bad PP.out (n := k - 1 + 1) hkw (rdH_bad ZZ.out (by rw [show ByteArray.empty = ⟨#[]⟩ from rfl, hwj]; exact fS_out hv hh)))
          have H := Lib.hid (sHoleC (n := (h : Int)) (decide_eq_false (by omega)))
          clear hh
          go_wp2_with (first
            | (go_at_call 30; refine (sNum_ok wd fw h hv _).mono ?_; rintro e w9 ⟨rfl, hB⟩; have R9 := Lib.hid (Ab.block hB R2.out); have M9 := Ab.block hB MM.out; have B9 := Lib.hid (B2.out.trans (Below.mono hB B2.out.size)); have r0 := cell_of_block R9.out 0; have r1 := cell_of_block R9.out 1; have r2 := cell_of_block R9.out 2; have r9 := lt_of_block R9.out; have rf := free_of_block R9.out; have y0 := cell_of_block M9 0; have y1 := cell_of_block M9 1; have y2 := cell_of_block M9 2; have y9 := lt_of_block M9; clear hB M9)
            | (go_at_call 48; refine (H.out _).mono ?_; rintro e w4 ⟨rfl, rfl⟩))
          refine bodyPost_ret (by simp [results, Tryz.results47, go_sem,  r0, r1, r2]; try rfl) rfl ?_
          exact rdR_no EQ.out (((B9.out.setCell (by simp) _).setCell (by simp) _).setCell (by simp) _)
    · obtain rfl : k = L := by omega
      have dl : decide ((k : Int) < (k : Int)) = false := by simp
      have ekL : k - 1 = ws.length := by have := HL.out; omega
      have er := rcG_at PP.out (hs := zs) (by rw [← ekL]; exact ZZ.out)
      rw [hzl] at er
      generalize mo b0 zs (k - 1) = X at *
      generalize mo b1 zs (k - 1) = Y at *
      have V := fun W h0 h1 h2 => sOk_any nm Y (by unfold maxLen; omega) w1.heap.size 0 W X h0 h1 h2
      clear hzl ekL p0 p1
      cases hk : cardOk nm Y
      · rw [hk] at V
        rw [if_neg (by rw [hk]; simp)] at er
        have EQ := Lib.hid er
        replace V := Lib.hid V
        clear er hk
        have c0 := cell_of_block MM.out 0
        have c0 := cell_of_block MM.out 0
        go_wp2_with fail
        clear c0
        refine wp_region_storeM 4 3 (by kernel_rfl) rfl rfl rfl rfl (by kernel_rfl) (by kernel_rfl) rfl ?_
        simp only [Nat.reduceAdd, List.take_succ_cons, List.take_zero, List.drop_succ_cons, List.drop_zero]
        intro u1 h1
        have c0 := cell_of_block (h1.block MM.out) 0
        have c1 := cell_of_block (h1.block MM.out) 1
        have c2 := cell_of_block (h1.block MM.out) 2
        have s0 := lt_of_block (h1.block MM.out)
        have hbw := cell_bw
        have V2 := Lib.hid fun q : Regrown => V.out (bw u1 q) ((cell_bw u1 q _ 0 s0).trans (c0.trans (by simp))) ((cell_bw u1 q _ 1 s0).trans (c1.trans (by simp))) ((cell_bw u1 q _ 2 s0).trans (c2.trans (by simp)))
        repeat (go_big_quiet_step (first | (go_at_call 78; exact calls_bw (V2.out _))))
        refine wpQuiet_nil ?_
        refine wpPure_skip rfl ?_
        refine wpPure_skip rfl ?_
        refine wpPure_do (.bool false) rfl (fun w => by go_simp) (wpPure_nil ?_)
        intro u3 h3
        have R5 := Lib.hid (h3.block R2.out)
        have B5 := Lib.hid (B2.out.trans (Below.mono h3 B2.out.size))
        have g0 := cell_of_block R5.out 0
        have g1 := cell_of_block R5.out 1
        have g2 := cell_of_block R5.out 2
        have g9 := lt_of_block R5.out
        have gf := free_of_block R5.out
        go_simp
        simp only [Yld, pureRun, pureVal, Act.put, Act.eval, List.setIfInBounds_toArray, List.set_cons_succ, List.set_cons_zero]
        clear hbw c0 c1 c2 s0
        go_wp2
        refine bodyPost_ret (by simp [results, Tryz.results47, go_sem,  g0, g1, g2]; try rfl) rfl ?_
        exact rdR_no EQ.out (((B5.out.setCell (by simp) _).setCell (by simp) _).setCell (by simp) _)
      · rw [hk] at V
        have nk : nm.size ≤ 16 := by
          have hk2 := hk
          unfold cardOk at hk2
          rw [Bool.and_eq_true] at hk2
          exact (nameOk_size hk2.1).2
        have C := fun W h0 h1 h2 => sCt_any nm X Y nk ux uy w1.heap.size 0 W h0 h1 h2
        have hT : cdT nm X Y = cdN nm (hol (hasB X Y) 96) (hol (hasB X Y) 96).length := by unfold cdT; rw [if_pos hk]
        rw [← hT] at C
        clear hT
        replace C := Lib.hid C
        replace V := Lib.hid V
        generalize cdT nm X Y = T at *
        by_cases hT : T = s
        · subst hT
          rw [if_pos ⟨hk, rfl⟩] at er
          have n1 : (T.toList == T.toList) = true := by simp
          have EQ := Lib.hid er
          clear er hk
          have c0 := cell_of_block MM.out 0
          have c0 := cell_of_block MM.out 0
          go_wp2_with fail
          clear c0
          refine wp_region_storeM 4 3 (by kernel_rfl) rfl rfl rfl rfl (by kernel_rfl) (by kernel_rfl) rfl ?_
          simp only [Nat.reduceAdd, List.take_succ_cons, List.take_zero, List.drop_succ_cons, List.drop_zero]
          intro u1 h1
          have c0 := cell_of_block (h1.block MM.out) 0
          have c1 := cell_of_block (h1.block MM.out) 1
          have c2 := cell_of_block (h1.block MM.out) 2
          have s0 := lt_of_block (h1.block MM.out)
          have hbw := cell_bw
          have V2 := Lib.hid fun q : Regrown => V.out (bw u1 q) ((cell_bw u1 q _ 0 s0).trans (c0.trans (by simp))) ((cell_bw u1 q _ 1 s0).trans (c1.trans (by simp))) ((cell_bw u1 q _ 2 s0).trans (c2.trans (by simp)))
          have C2 := Lib.hid fun q : Regrown => C.out (bw u1 q) ((cell_bw u1 q _ 0 s0).trans (c0.trans (by simp))) ((cell_bw u1 q _ 1 s0).trans (c1.trans (by simp))) ((cell_bw u1 q _ 2 s0).trans (c2.trans (by simp)))
          repeat (go_big_quiet_step (first | (go_at_call 78; exact calls_bw (V2.out _)) | (go_at_call 79; exact calls_bw (C2.out _))))
          refine wpQuiet_nil ?_
          refine wpPure_do (.string T) rfl (fun _ => rfl) ?_
          refine wpPure_do (.bool true) rfl (fun w => by go_simp) ?_
          refine wpPure_do (.bool true) rfl (fun w => by go_simp) (wpPure_nil ?_)
          intro u3 h3
          have R5 := Lib.hid (h3.block R2.out)
          have B5 := Lib.hid (B2.out.trans (Below.mono h3 B2.out.size))
          have g0 := cell_of_block R5.out 0
          have g1 := cell_of_block R5.out 1
          have g2 := cell_of_block R5.out 2
          have g9 := lt_of_block R5.out
          have gf := free_of_block R5.out
          go_simp
          simp only [Yld, pureRun, pureVal, Act.put, Act.eval, List.setIfInBounds_toArray, List.set_cons_succ, List.set_cons_zero]
          clear hbw c0 c1 c2 s0
          go_wp2
          refine bodyPost_ret (by simp [results, Tryz.results47, go_sem,  g0, g1, g2]; try rfl) rfl ?_
          exact rdR_yes EQ.out (((B5.out.setCell (by simp) _).setCell (by simp) _).setCell (by simp) _)
        · rw [if_neg (fun q => hT q.2)] at er
          have n1 := str_neC hT
          have EQ := Lib.hid er
          clear er hk
          have c0 := cell_of_block MM.out 0
          have c0 := cell_of_block MM.out 0
          go_wp2_with fail
          clear c0
          refine wp_region_storeM 4 3 (by kernel_rfl) rfl rfl rfl rfl (by kernel_rfl) (by kernel_rfl) rfl ?_
          simp only [Nat.reduceAdd, List.take_succ_cons, List.take_zero, List.drop_succ_cons, List.drop_zero]
          intro u1 h1
          have c0 := cell_of_block (h1.block MM.out) 0
          have c1 := cell_of_block (h1.block MM.out) 1
          have c2 := cell_of_block (h1.block MM.out) 2
          have s0 := lt_of_block (h1.block MM.out)
          have hbw := cell_bw
          have V2 := Lib.hid fun q : Regrown => V.out (bw u1 q) ((cell_bw u1 q _ 0 s0).trans (c0.trans (by simp))) ((cell_bw u1 q _ 1 s0).trans (c1.trans (by simp))) ((cell_bw u1 q _ 2 s0).trans (c2.trans (by simp)))
          have C2 := Lib.hid fun q : Regrown => C.out (bw u1 q) ((cell_bw u1 q _ 0 s0).trans (c0.trans (by simp))) ((cell_bw u1 q _ 1 s0).trans (c1.trans (by simp))) ((cell_bw u1 q _ 2 s0).trans (c2.trans (by simp)))
          repeat (go_big_quiet_step (first | (go_at_call 78; exact calls_bw (V2.out _)) | (go_at_call 79; exact calls_bw (C2.out _))))
          refine wpQuiet_nil ?_
          refine wpPure_do (.string s) rfl (fun _ => rfl) ?_
          refine wpPure_do (.bool false) rfl (fun w => by go_simp) ?_
          refine wpPure_do (.bool false) rfl (fun w => by go_simp) (wpPure_nil ?_)
          intro u3 h3
          have R5 := Lib.hid (h3.block R2.out)
          have B5 := Lib.hid (B2.out.trans (Below.mono h3 B2.out.size))
          have g0 := cell_of_block R5.out 0
          have g1 := cell_of_block R5.out 1
          have g2 := cell_of_block R5.out 2
          have g9 := lt_of_block R5.out
          have gf := free_of_block R5.out
          go_simp
          simp only [Yld, pureRun, pureVal, Act.put, Act.eval, List.setIfInBounds_toArray, List.set_cons_succ, List.set_cons_zero]
          clear hbw c0 c1 c2 s0
          go_wp2
          refine bodyPost_ret (by simp [results, Tryz.results47, go_sem,  g0, g1, g2]; try rfl) rfl ?_
          exact rdR_no EQ.out (((B5.out.setCell (by simp) _).setCell (by simp) _).setCell (by simp) _)

end Go.Proofs.YtnbijfeidgddmaaGreatDoor
