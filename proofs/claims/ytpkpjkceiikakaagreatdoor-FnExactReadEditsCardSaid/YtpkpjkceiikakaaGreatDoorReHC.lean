/- Contract: the model's reader of an edit: a hole pricked or filled. -/
import Derived.Test.YtpkpjkceiikakaaGreatDoorReKC
namespace Go.Proofs.YtpkpjkceiikakaaGreatDoor
open Go.ChangeShapes Go.WideShapes Go.ChangeAt Go.RowKit

set_option maxRecDepth 100000 in
set_option maxHeartbeats 6400000 in
theorem sRed_hole (line : ByteArray) (hs : line.size ≤ 1048576) (wd : ByteArray) (ws : List ByteArray) (hp : pieces 32 line = wd :: ws) (x : ByteArray) (r : List ByteArray) (hw : ws = x :: r) (hz : kindO wd = 3 ∨ kindO wd = 4) (w : World) :
    Calls Tryz.prog 25 #[.string line] w (ReR line w) := by
  have SP := Lib.hid fun W => sSplitAt_any line 32 (by omega) W
  have R0 := Lib.hid (block_alloc w (.cells #[.int .i8 0, .string ⟨#[]⟩, .int .i16 0, .int .u64 0, .int .u64 0] 53))
  have B0 := Lib.hid (below_new (Below.refl w.heap.size w) (.cells #[.int .i8 0, .string ⟨#[]⟩, .int .i16 0, .int .u64 0, .int .u64 0] 53))
  have HW := Lib.hid hw
  clear hw
  have HZ := Lib.hid hz
  clear hz
  have hfit := pieces_fit 32 line
  have PP := Lib.hid hp
  rw [hp] at SP hfit
  have fn : wd.size ≤ 1048576 := Nat.le_trans (hfit wd (by simp)) hs
  have FW := Lib.hid (fun i (hi : i < ws.length) => Nat.le_trans (hfit (ws.getD i ⟨#[]⟩) (by simp [List.getD, hi])) hs)
  have hlen : ws.length ≤ 1048576 := by
    have h := pieces_len 32 line
    rw [hp, List.length_cons] at h
    omega
  clear hp hfit
  obtain ⟨L, hL⟩ : ∃ L, L = (wd :: ws).length := ⟨_, rfl⟩
  have HL := Lib.hid (show L = ws.length + 1 from hL)
  have hL1 : 1 ≤ L := by have := HL.out; omega
  have hL2 : L ≤ 1048577 := by have := HL.out; omega
  have hL3 : (0 : Int) < (L : Int) := by omega
  have HQ := Lib.hid hL
  clear hL
  go_enter Tryz.func25, Tryz.ntmps25
  go_wp2_with (go_at_call 15; refine (SP.out _).mono ?_; rintro e w1 ⟨v, rfl, hO, hB⟩; obtain ⟨a1, k1, hv, hI⟩ := ownStrs_in hO; rw [← HQ.out] at hv; obtain ⟨bq, oq, ha1, l1, hc⟩ := strsC_at hI (by simp); subst ha1; subst hv; have R1 := Lib.hid ((hB.block _ (by simp)).trans R0.out); have B1 := Lib.hid (B0.out.trans (Below.mono hB (by simp))); have d0 := hc 0 (by simp); simp only [List.getD_cons_zero, Nat.add_zero] at d0; have D0 := Lib.hid d0; have DD := Lib.hid (fun k (h1 : 1 ≤ k) (h2 : k < L) => show w1.cell? ⟨bq, oq + k, none⟩ = some (.string (ws.getD (k - 1) ⟨#[]⟩)) from (by obtain ⟨j, rfl⟩ : ∃ j, k = j + 1 := ⟨k - 1, by omega⟩; exact hc (j + 1) (by rw [← HQ.out]; exact h2))); have L1 := Lib.hid l1; have y9 := lt_of_block R1.out; clear hO hB hI hc)
  have M1 := Lib.hid (block_alloc w1 (.cells #[.int .i8 0, .string ⟨#[]⟩, .int .i16 0, .int .u64 0, .int .u64 0] 53))
  have A1 := Lib.hid (ab_newC w1 (.cells #[.int .i8 0, .string ⟨#[]⟩, .int .i16 0, .int .u64 0, .int .u64 0] 53))
  have hR := lt_of_block R1.out
  clear d0 l1 y9 HQ
  have KC := Lib.hid (kindO_cases wd)
  obtain ⟨k0, k4⟩ := kindO_le wd
  go_loopw [6] (fun i wr => ∃ (k : Int), 1 ≤ k ∧ k ≤ 5 ∧ i = .int .i64 k ∧ wr.heap[w1.heap.size]? = some (.cells #[.int .i8 (kiB (kindO wd) k), .string ⟨#[]⟩, .int .i16 0, .int .u64 0, .int .u64 0] 53 (0, 0)) ∧ Below w1.heap.size w1 wr) (fun i _ => 5 - (intOf i).toNat)
  case atStart => exact ⟨1, by omega, by omega, rfl, by rw [kiB_1 k0]; exact M1.out, A1.out⟩
  case round =>
    obtain ⟨k, hk1, hk5, rfl, hM, hA⟩ := hrel
    have MM := Lib.hid hM
    have AA := Lib.hid hA
    have R2 := Lib.hid (hA.block _ hR |>.trans R1.out)
    have B2 := Lib.hid (B1.out.trans (Below.mono hA B1.out.size))
    clear hM hA M1 A1
    have l1 := Nat.lt_of_lt_of_le L1.out AA.out.size
    by_cases hk : k < 5
    · have dl : decide (k < 5) = true := decide_eq_true hk
      have WO := Lib.hid fun W => sWordK_any k hk1 (by omega) W
      have KE := Lib.hid fun W (h : Below wr.heap.size wr W) => (show W.cell? ⟨bq, oq, none⟩ = some (.string wd) from (h.cell (p := ⟨bq, oq, none⟩) l1).trans ((AA.out.cell (p := ⟨bq, oq, none⟩) L1.out).trans D0.out))
      have e0 := KE.out _ (Below.refl _ _)
      have ki := kind_is (w := wd) hk1 (by omega)
      have x8 : IntKind.i8.wrap k = k := i8_inE k (by omega)
      by_cases hkk : kindO wd = k
      · rw [decide_eq_true hkk] at ki
        have KB := Lib.hid (kiB_hit hkk)
        clear hkk
        generalize wdOf k = wx at *
        go_wp2_with fail
        go_region_with (go_at_call 46; refine (WO.out _).mono ?_; rintro e w3 ⟨g3, rfl, l3, hg, hB⟩; have tc := hg; have b3 := Lib.hid (show Below wr.heap.size wr w3 from (by first | exact hB | exact (et_drew (Below.refl wr.heap.size wr)).trans hB)); have e3 := KE.out _ b3.out; have y3 : bq < w3.heap.size := Nat.lt_of_lt_of_le l1 b3.out.size; have M3 := Lib.hid (Ab.block b3.out MM.out); have f0 := cell_of_block M3.out 0; have ff := free_of_block M3.out; have f9 := lt_of_block M3.out; clear hB hg)
        all_goals go_wp2_with fail
        all_goals exact ⟨⟨k + 1, by omega, by omega, by go_num, by rw [KB.out]; exact block_setCell _ M3.out, (AA.out.trans (Below.mono b3.out AA.out.size)).setCell (by simp) _⟩, by (simp [intOf]) <;> omega⟩
      · rw [decide_eq_false hkk] at ki
        have KB := Lib.hid (kiB_miss hkk)
        clear hkk
        generalize wdOf k = wx at *
        go_wp2_with fail
        go_region_with (go_at_call 46; refine (WO.out _).mono ?_; rintro e w3 ⟨g3, rfl, l3, hg, hB⟩; have tc := hg; have b3 := Lib.hid (show Below wr.heap.size wr w3 from (by first | exact hB | exact (et_drew (Below.refl wr.heap.size wr)).trans hB)); have e3 := KE.out _ b3.out; have y3 : bq < w3.heap.size := Nat.lt_of_lt_of_le l1 b3.out.size; have M3 := Lib.hid (Ab.block b3.out MM.out); clear hB hg)
        all_goals go_wp2_with fail
        all_goals exact ⟨⟨k + 1, by omega, by omega, by go_num, by rw [KB.out]; exact M3.out, AA.out.trans (Below.mono b3.out AA.out.size)⟩, by (simp [intOf]) <;> omega⟩
    · obtain rfl : k = 5 := by omega
      have E5 := kiB_5 k4
      rw [E5] at MM
      clear E5 hk hk1 hk5
      have e0 := (AA.out.cell (p := ⟨bq, oq, none⟩) L1.out).trans D0.out
      have ne1 : w.heap.size < w1.heap.size := hR
      have ne2 : w.heap.size ≠ w1.heap.size := by omega
      have hw := HW.out
      subst hw
      have kc := HZ.out
      have dl2 : decide ((L : Int) < 2) = false := decide_eq_false (by have := HL.out; rw [List.length_cons] at this; omega)
      have hh0 := fun (e : r = []) h => reK_h0 (line := line) (w0 := wd) (x := x) (by rw [← e]; exact PP.out) h
      have hhm := fun y z t (e : r = y :: z :: t) h => reK_hm (line := line) (w0 := wd) (x := x) (y := y) (z := z) (r := t) (by rw [← e]; exact PP.out) h
      have hh1 := fun y (e : r = [y]) h => reK_h1 (line := line) (w0 := wd) (x := x) (y := y) (by rw [← e]; exact PP.out) h
      clear HZ HW SP
      generalize kindO wd = K at *
      have q0 : (K == 0) = false := by simp; omega
      have q1 : (K == 1) = false := by simp; omega
      have q2 : (K == 2) = false := by simp; omega
      match hr : r with
      | [] =>
        have EQ := Lib.hid (hh0 (by first | rfl | exact hr) kc)
        clear hh0 hhm hh1
        have l3 : ((L : Int) == 3) = false := by have := HL.out; simp at this; simp; omega
        have r0 := cell_of_block R2.out 0
        have r1 := cell_of_block R2.out 1
        have r2 := cell_of_block R2.out 2
        have r3 := cell_of_block R2.out 3
        have r4 := cell_of_block R2.out 4
        have r9 := lt_of_block R2.out
        have rf := free_of_block R2.out
        have y0 := cell_of_block MM.out 0
        have y1 := cell_of_block MM.out 1
        have y2 := cell_of_block MM.out 2
        have y3 := cell_of_block MM.out 3
        have y4 := cell_of_block MM.out 4
        have y9 := lt_of_block MM.out
        have yf := free_of_block MM.out
        go_wp2
        refine bodyPost_ret (by simp [results, Tryz.results25, go_sem,  r0, r1, r2, r3, r4]; try rfl) rfl ?_
        exact reR_no EQ.out (((((B2.out.setCell (by simp) _).setCell (by simp) _).setCell (by simp) _).setCell (by simp) _).setCell (by simp) _)
      | y :: z :: t =>
        have EQ := Lib.hid (hhm y z t (by first | rfl | exact hr) kc)
        clear hh0 hhm hh1
        have l3 : ((L : Int) == 3) = false := by have := HL.out; simp at this; simp; omega
        have r0 := cell_of_block R2.out 0
        have r1 := cell_of_block R2.out 1
        have r2 := cell_of_block R2.out 2
        have r3 := cell_of_block R2.out 3
        have r4 := cell_of_block R2.out 4
        have r9 := lt_of_block R2.out
        have rf := free_of_block R2.out
        have y0 := cell_of_block MM.out 0
        have y1 := cell_of_block MM.out 1
        have y2 := cell_of_block MM.out 2
        have y3 := cell_of_block MM.out 3
        have y4 := cell_of_block MM.out 4
        have y9 := lt_of_block MM.out
        have yf := free_of_block MM.out
        go_wp2
        refine bodyPost_ret (by simp [results, Tryz.results25, go_sem,  r0, r1, r2, r3, r4]; try rfl) rfl ?_
        exact reR_no EQ.out (((((B2.out.setCell (by simp) _).setCell (by simp) _).setCell (by simp) _).setCell (by simp) _).setCell (by simp) _)
      | [y] =>
        have hre := hh1 y (by first | rfl | exact hr) kc
        clear hh0 hhm hh1
        have l3 : ((L : Int) == 3) = true := by have := HL.out; simp at this; simp; omega
        have i1 : (1 : Int) < (L : Int) := by have := HL.out; simp at this; omega
        have i2 : (2 : Int) < (L : Int) := by have := HL.out; simp at this; omega
        have g1 : wr.cell? ⟨bq, oq + 1, none⟩ = some (.string x) := (AA.out.cell (p := ⟨bq, oq + 1, none⟩) L1.out).trans (DD.out 1 (by omega) (by omega))
        have g2 : wr.cell? ⟨bq, oq + 2, none⟩ = some (.string y) := (AA.out.cell (p := ⟨bq, oq + 2, none⟩) L1.out).trans (DD.out 2 (by omega) (by omega))
        have fx : x.size ≤ 1048576 := FW.out 0 (by simp)
        have fy : y.size ≤ 1048576 := FW.out 1 (by simp)
        clear DD FW HL
        cases hv : numL y.data.toList with
        | none =>
          simp only [fS_none hv] at hre
          have EQ := Lib.hid hre
          clear hre
          have y0 := cell_of_block MM.out 0
          have y9 := lt_of_block MM.out
          go_wp2_with (go_at_call 30; clear y0 y9; refine (sNum_no y fy hv _).mono ?_; rintro e w9 ⟨rfl, hB⟩; have R9 := Lib.hid (Ab.block hB R2.out); have M9 := Lib.hid (Ab.block hB MM.out); have B9 := Lib.hid (B2.out.trans (Below.mono hB B2.out.size)); have z1 := (Below.cell hB (p := ⟨bq, oq + 1, none⟩) l1).trans g1; have z9 := Nat.lt_of_lt_of_le l1 hB.size; have r0 := cell_of_block R9.out 0; have r1 := cell_of_block R9.out 1; have r2 := cell_of_block R9.out 2; have r3 := cell_of_block R9.out 3; have r4 := cell_of_block R9.out 4; have r9 := lt_of_block R9.out; have rf := free_of_block R9.out; have y0 := cell_of_block M9.out 0; have y1 := cell_of_block M9.out 1; have y2 := cell_of_block M9.out 2; have y3 := cell_of_block M9.out 3; have y4 := cell_of_block M9.out 4; have y9 := lt_of_block M9.out; have yf := free_of_block M9.out; clear hB)
          refine bodyPost_ret (by simp [results, Tryz.results25, go_sem,  r0, r1, r2, r3, r4]; try rfl) rfl ?_
          exact reR_no EQ.out (((((B9.out.setCell (by simp) _).setCell (by simp) _).setCell (by simp) _).setCell (by simp) _).setCell (by simp) _)
        | some h =>
          by_cases hh : h ≤ 95
          · simp only [fS_in hv hh] at hre
            have H := Lib.hid (sHoleC (n := (h : Int)) (decide_eq_true ⟨by omega, by omega⟩))
            have w16 : IntKind.i16.wrap (h : Int) = (h : Int) := i16_inJ _ (by omega)
            have VL := fun g o W q0 q1 q2 q3 q4 => sEdit_any ⟨K, x, (h : Int), 0, 0⟩ ⟨by show I8 K; unfold I8; omega, by show x.size ≤ maxLen; unfold maxLen; omega, by show I16 (h : Int); unfold I16; omega, u64_zero, u64_zero⟩ g o W q0 q1 q2 q3 q4
            rw [edOk_hole (x := ⟨K, x, (h : Int), 0, 0⟩) kc] at VL
            have ok2 : (decide (0 ≤ (h : Int) ∧ (h : Int) ≤ 95) && ((0 : Int) == 0 && (0 : Int) == 0)) = true := by simp; omega
            simp only [ok2, Bool.and_true] at VL
            clear ok2 kc
            cases hx : nameOk x
            all_goals
              simp only [hx, if_true, if_false, Bool.false_eq_true] at hre VL
              have EQ := Lib.hid hre
              replace VL := Lib.hid VL
              clear hre hx hh
              have y0 := cell_of_block MM.out 0
              have y9 := lt_of_block MM.out
              go_wp2_with (first | (go_at_call 30; clear y0 y9; refine (sNum_ok y fy h hv _).mono ?_; rintro e w9 ⟨rfl, hB⟩; have R9 := Lib.hid (Ab.block hB R2.out); have M9 := Lib.hid (Ab.block hB MM.out); have B9 := Lib.hid (B2.out.trans (Below.mono hB B2.out.size)); have z1 := (Below.cell hB (p := ⟨bq, oq + 1, none⟩) l1).trans g1; have z9 := Nat.lt_of_lt_of_le l1 hB.size; have r0 := cell_of_block R9.out 0; have r1 := cell_of_block R9.out 1; have r2 := cell_of_block R9.out 2; have r3 := cell_of_block R9.out 3; have r4 := cell_of_block R9.out 4; have r9 := lt_of_block R9.out; have rf := free_of_block R9.out; have y0 := cell_of_block M9.out 0; have y1 := cell_of_block M9.out 1; have y2 := cell_of_block M9.out 2; have y3 := cell_of_block M9.out 3; have y4 := cell_of_block M9.out 4; have y9 := lt_of_block M9.out; have yf := free_of_block M9.out; clear hB) | (go_at_call 48; refine (H.out _).mono ?_; rintro e w4 ⟨rfl, rfl⟩))
              clear r0 r1 r2 r3 r4 r9 rf y0 y1 y2 y3 y4 y9 yf
              have M5 := Lib.hid (block_setCell (j := 2) (.int .i16 (h : Int)) (block_setCell (j := 1) (.string x) M9.out))
              have R5 := Lib.hid (show ((w9.setCell ⟨w1.heap.size, 1, none⟩ (.string x)).setCell ⟨w1.heap.size, 2, none⟩ (.int .i16 (h : Int))).heap[w.heap.size]? = _ from (Below.heap_setCell _ _ _ _ ne2).trans ((Below.heap_setCell _ _ _ _ ne2).trans R9.out))
              have B5 := Lib.hid ((B9.out.setCell (p := ⟨w1.heap.size, 1, none⟩) (by simp; omega) (.string x)).setCell (p := ⟨w1.heap.size, 2, none⟩) (by simp; omega) (.int .i16 (h : Int)))
              generalize (w9.setCell ⟨w1.heap.size, 1, none⟩ (.string x)).setCell ⟨w1.heap.size, 2, none⟩ (.int .i16 (h : Int)) = w5 at *
              refine wp_region_store 2 (by kernel_rfl) rfl rfl rfl (by kernel_rfl) (by kernel_rfl) rfl ?_
              simp only [Nat.reduceAdd, List.take_succ_cons, List.take_zero, List.drop_succ_cons, List.drop_zero]
              intro u7 h7
              have y0 := cell_of_block (h7.block M5.out) 0
              have y1 := cell_of_block (h7.block M5.out) 1
              have y2 := cell_of_block (h7.block M5.out) 2
              have y3 := cell_of_block (h7.block M5.out) 3
              have y4 := cell_of_block (h7.block M5.out) 4
              have y9 := lt_of_block (h7.block M5.out)
              have hbw := cell_bw
              have V2 := Lib.hid fun q : Regrown => VL.out w1.heap.size 0 (bw u7 q) ((cell_bw u7 q _ 0 y9).trans (y0.trans (by simp))) ((cell_bw u7 q _ 1 y9).trans (y1.trans (by simp))) ((cell_bw u7 q _ 2 y9).trans (y2.trans (by simp))) ((cell_bw u7 q _ 3 y9).trans (y3.trans (by simp))) ((cell_bw u7 q _ 4 y9).trans (y4.trans (by simp)))
              repeat (go_big_quiet_step (first | (go_at_call 49; exact calls_bw (V2.out _))))
              refine wpQuiet_nil ?_
              intro u8 h8
              have R9 := Lib.hid (h8.block R5.out)
              have B9 := Lib.hid (B5.out.trans (Below.mono h8 B5.out.size))
              have r0 := cell_of_block R9.out 0
              have r1 := cell_of_block R9.out 1
              have r2 := cell_of_block R9.out 2
              have r3 := cell_of_block R9.out 3
              have r4 := cell_of_block R9.out 4
              have r9 := lt_of_block R9.out
              have rf := free_of_block R9.out
              go_simp
              simp only [Yld, pureRun, pureVal, Act.put, Act.eval, List.setIfInBounds_toArray, List.set_cons_succ, List.set_cons_zero]
              clear hbw y0 y1 y2 y3 y4 y9
              go_wp2
              refine bodyPost_ret (by simp [results, Tryz.results25, go_sem,  r0, r1, r2, r3, r4]; try rfl) rfl ?_
              first | exact reR_no EQ.out (((((B9.out.setCell (by simp) _).setCell (by simp) _).setCell (by simp) _).setCell (by simp) _).setCell (by simp) _) | exact reR_yes EQ.out (((((B9.out.setCell (by simp) _).setCell (by simp) _).setCell (by simp) _).setCell (by simp) _).setCell (by simp) _)
          · simp only [fS_out hv hh] at hre
            have EQ := Lib.hid hre
            have H := Lib.hid (sHoleC (n := (h : Int)) (decide_eq_false (by omega)))
            clear hre hh
            have y0 := cell_of_block MM.out 0
            have y9 := lt_of_block MM.out
            go_wp2_with (first | (go_at_call 30; clear y0 y9; refine (sNum_ok y fy h hv _).mono ?_; rintro e w9 ⟨rfl, hB⟩; have R9 := Lib.hid (Ab.block hB R2.out); have M9 := Lib.hid (Ab.block hB MM.out); have B9 := Lib.hid (B2.out.trans (Below.mono hB B2.out.size)); have z1 := (Below.cell hB (p := ⟨bq, oq + 1, none⟩) l1).trans g1; have z9 := Nat.lt_of_lt_of_le l1 hB.size; have r0 := cell_of_block R9.out 0; have r1 := cell_of_block R9.out 1; have r2 := cell_of_block R9.out 2; have r3 := cell_of_block R9.out 3; have r4 := cell_of_block R9.out 4; have r9 := lt_of_block R9.out; have rf := free_of_block R9.out; have y0 := cell_of_block M9.out 0; have y1 := cell_of_block M9.out 1; have y2 := cell_of_block M9.out 2; have y3 := cell_of_block M9.out 3; have y4 := cell_of_block M9.out 4; have y9 := lt_of_block M9.out; have yf := free_of_block M9.out; clear hB) | (go_at_call 48; refine (H.out _).mono ?_; rintro e w4 ⟨rfl, rfl⟩))
            refine bodyPost_ret (by simp [results, Tryz.results25, go_sem,  r0, r1, r2, r3, r4]; try rfl) rfl ?_
            exact reR_no EQ.out (((((B9.out.setCell (by simp) _).setCell (by simp) _).setCell (by simp) _).setCell (by simp) _).setCell (by simp) _)
end Go.Proofs.YtpkpjkceiikakaaGreatDoor
