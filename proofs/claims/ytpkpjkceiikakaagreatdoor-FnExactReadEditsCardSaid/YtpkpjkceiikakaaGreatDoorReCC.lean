/- Contract: the model's reader of an edit: a card added or taken. -/
import Derived.Test.YtpkpjkceiikakaaGreatDoorReKC
namespace Go.Proofs.YtpkpjkceiikakaaGreatDoor
open Go.ChangeShapes Go.WideShapes Go.ChangeAt Go.RowKit

set_option maxRecDepth 100000 in
set_option maxHeartbeats 6400000 in
theorem sRed_card1 (line : ByteArray) (hs : line.size ≤ 1048576) (wd : ByteArray) (ws : List ByteArray) (hp : pieces 32 line = wd :: ws) (x : ByteArray) (r : List ByteArray) (hw : ws = x :: r) (hz : kindO wd = 1) (w : World) :
    Calls Tryz.prog 25 #[.string line] w (ReR line w) := by
  have SP := Lib.hid fun W => sSplitAt_any line 32 (by omega) W
  have R0 := Lib.hid (block_alloc w (.cells #[.int .i8 0, .string ⟨#[]⟩, .int .i16 0, .int .u64 0, .int .u64 0] 53))
  have B0 := Lib.hid (below_new (Below.refl w.heap.size w) (.cells #[.int .i8 0, .string ⟨#[]⟩, .int .i16 0, .int .u64 0, .int .u64 0] 53))
  have HW := Lib.hid hw
  clear hw
  have HZ := Lib.hid hz
  clear hz
  have hfit := pieces_fit 32 line
  have PP := Lib.hid hp
  rw [hp] at SP hfit
  have fn : wd.size ≤ 1048576 := Nat.le_trans (hfit wd (by simp)) hs
  have FW := Lib.hid (fun i (hi : i < ws.length) => Nat.le_trans (hfit (ws.getD i ⟨#[]⟩) (by simp [List.getD, hi])) hs)
  have hlen : ws.length ≤ 1048576 := by
    have h := pieces_len 32 line
    rw [hp, List.length_cons] at h
    omega
  clear hp hfit
  obtain ⟨L, hL⟩ : ∃ L, L = (wd :: ws).length := ⟨_, rfl⟩
  have HL := Lib.hid (show L = ws.length + 1 from hL)
  have hL1 : 1 ≤ L := by have := HL.out; omega
  have hL2 : L ≤ 1048577 := by have := HL.out; omega
  have hL3 : (0 : Int) < (L : Int) := by omega
  have HQ := Lib.hid hL
  clear hL
  go_enter Tryz.func25, Tryz.ntmps25
  go_wp2_with (go_at_call 15; refine (SP.out _).mono ?_; rintro e w1 ⟨v, rfl, hO, hB⟩; obtain ⟨a1, k1, hv, hI⟩ := ownStrs_in hO; rw [← HQ.out] at hv; obtain ⟨bq, oq, ha1, l1, hc⟩ := strsC_at hI (by simp); subst ha1; subst hv; have R1 := Lib.hid ((hB.block _ (by simp)).trans R0.out); have B1 := Lib.hid (B0.out.trans (Below.mono hB (by simp))); have d0 := hc 0 (by simp); simp only [List.getD_cons_zero, Nat.add_zero] at d0; have D0 := Lib.hid d0; have DD := Lib.hid (fun k (h1 : 1 ≤ k) (h2 : k < L) => show w1.cell? ⟨bq, oq + k, none⟩ = some (.string (ws.getD (k - 1) ⟨#[]⟩)) from (by obtain ⟨j, rfl⟩ : ∃ j, k = j + 1 := ⟨k - 1, by omega⟩; exact hc (j + 1) (by rw [← HQ.out]; exact h2))); have L1 := Lib.hid l1; have y9 := lt_of_block R1.out; clear hO hB hI hc)
  have M1 := Lib.hid (block_alloc w1 (.cells #[.int .i8 0, .string ⟨#[]⟩, .int .i16 0, .int .u64 0, .int .u64 0] 53))
  have A1 := Lib.hid (ab_newC w1 (.cells #[.int .i8 0, .string ⟨#[]⟩, .int .i16 0, .int .u64 0, .int .u64 0] 53))
  have hR := lt_of_block R1.out
  clear d0 l1 y9 HQ
  have KC := Lib.hid (kindO_cases wd)
  obtain ⟨k0, k4⟩ := kindO_le wd
  go_loopw [6] (fun i wr => ∃ (k : Int), 1 ≤ k ∧ k ≤ 5 ∧ i = .int .i64 k ∧ wr.heap[w1.heap.size]? = some (.cells #[.int .i8 (kiB (kindO wd) k), .string ⟨#[]⟩, .int .i16 0, .int .u64 0, .int .u64 0] 53 (0, 0)) ∧ Below w1.heap.size w1 wr) (fun i _ => 5 - (intOf i).toNat)
  case atStart => exact ⟨1, by omega, by omega, rfl, by rw [kiB_1 k0]; exact M1.out, A1.out⟩
  case round =>
    obtain ⟨k, hk1, hk5, rfl, hM, hA⟩ := hrel
    have MM := Lib.hid hM
    have AA := Lib.hid hA
    have R2 := Lib.hid (hA.block _ hR |>.trans R1.out)
    have B2 := Lib.hid (B1.out.trans (Below.mono hA B1.out.size))
    clear hM hA M1 A1
    have l1 := Nat.lt_of_lt_of_le L1.out AA.out.size
    by_cases hk : k < 5
    · have dl : decide (k < 5) = true := decide_eq_true hk
      have WO := Lib.hid fun W => sWordK_any k hk1 (by omega) W
      have KE := Lib.hid fun W (h : Below wr.heap.size wr W) => (show W.cell? ⟨bq, oq, none⟩ = some (.string wd) from (h.cell (p := ⟨bq, oq, none⟩) l1).trans ((AA.out.cell (p := ⟨bq, oq, none⟩) L1.out).trans D0.out))
      have e0 := KE.out _ (Below.refl _ _)
      have ki := kind_is (w := wd) hk1 (by omega)
      have x8 : IntKind.i8.wrap k = k := i8_inE k (by omega)
      by_cases hkk : kindO wd = k
      · rw [decide_eq_true hkk] at ki
        have KB := Lib.hid (kiB_hit hkk)
        clear hkk
        generalize wdOf k = wx at *
        go_wp2_with fail
        go_region_with (go_at_call 46; refine (WO.out _).mono ?_; rintro e w3 ⟨g3, rfl, l3, hg, hB⟩; have tc := hg; have b3 := Lib.hid (show Below wr.heap.size wr w3 from (by first | exact hB | exact (et_drew (Below.refl wr.heap.size wr)).trans hB)); have e3 := KE.out _ b3.out; have y3 : bq < w3.heap.size := Nat.lt_of_lt_of_le l1 b3.out.size; have M3 := Lib.hid (Ab.block b3.out MM.out); have f0 := cell_of_block M3.out 0; have ff := free_of_block M3.out; have f9 := lt_of_block M3.out; clear hB hg)
        all_goals go_wp2_with fail
        all_goals exact ⟨⟨k + 1, by omega, by omega, by go_num, by rw [KB.out]; exact block_setCell _ M3.out, (AA.out.trans (Below.mono b3.out AA.out.size)).setCell (by simp) _⟩, by (simp [intOf]) <;> omega⟩
      · rw [decide_eq_false hkk] at ki
        have KB := Lib.hid (kiB_miss hkk)
        clear hkk
        generalize wdOf k = wx at *
        go_wp2_with fail
        go_region_with (go_at_call 46; refine (WO.out _).mono ?_; rintro e w3 ⟨g3, rfl, l3, hg, hB⟩; have tc := hg; have b3 := Lib.hid (show Below wr.heap.size wr w3 from (by first | exact hB | exact (et_drew (Below.refl wr.heap.size wr)).trans hB)); have e3 := KE.out _ b3.out; have y3 : bq < w3.heap.size := Nat.lt_of_lt_of_le l1 b3.out.size; have M3 := Lib.hid (Ab.block b3.out MM.out); clear hB hg)
        all_goals go_wp2_with fail
        all_goals exact ⟨⟨k + 1, by omega, by omega, by go_num, by rw [KB.out]; exact M3.out, AA.out.trans (Below.mono b3.out AA.out.size)⟩, by (simp [intOf]) <;> omega⟩
    · obtain rfl : k = 5 := by omega
      have E5 := kiB_5 k4
      rw [E5] at MM
      clear E5 hk hk1 hk5
      have e0 := (AA.out.cell (p := ⟨bq, oq, none⟩) L1.out).trans D0.out
      have ne1 : w.heap.size < w1.heap.size := hR
      have ne2 : w.heap.size ≠ w1.heap.size := by omega
      have hw := HW.out
      subst hw
      have kc := HZ.out
      have dl2 : decide ((L : Int) < 2) = false := decide_eq_false (by have := HL.out; rw [List.length_cons] at this; omega)
      have rl := rest_le PP.out
      have hre := reK_card PP.out (by omega)
      have fr : (restB line wd).size ≤ 1048576 := Nat.le_trans (restB_le line wd) hs
      have hrb : line.extract (wd.size + 1) line.size = restB line wd := rfl
      generalize restB line wd = rest at *
      rw [kc] at MM hre
      have s1 : ¬ 9223372036854775807 < wd.size + 1 := by omega
      have s2 : IntKind.i64.wrap ((wd.size : Int) + 1) = ((wd.size + 1 : Nat) : Int) := by rw [← Int.natCast_succ]; exact IntWalk.i64_in _ (by omega)
      clear HZ HW SP FW DD HL PP D0 hlen k0 k4 KC kc
      match hc : rcG fS rest with
      | none =>
        rw [hc] at hre
        have CR := Lib.hid fun W => sRdK_no rest fr hc W
        have EQ := Lib.hid hre
        clear hre hc
        have y0 := cell_of_block MM.out 0
        have y9 := lt_of_block MM.out
        go_upto_region 12 with (go_at_call 47; clear y0 y9; refine (CR.out _).mono ?_; rintro e w9 ⟨nx, xx, yx, rfl, hB⟩; have hB2 := below_new hB (.cells #[.string nx, .int .u64 xx, .int .u64 yx] 80); have R9 := Lib.hid (Ab.block hB2 R2.out); have M9 := Lib.hid (Ab.block hB2 MM.out); have B9 := Lib.hid (B2.out.trans (Below.mono hB2 B2.out.size)); have C9 := Lib.hid (block_alloc w9 (.cells #[.string nx, .int .u64 xx, .int .u64 yx] 80)); have ne3 : w1.heap.size < w9.heap.size := Nat.lt_of_lt_of_le (lt_of_block MM.out) hB.size; have ne4 : w1.heap.size ≠ w9.heap.size := (by omega); have ne5 : w.heap.size ≠ w9.heap.size := (by omega); clear hB hB2)
        obtain ⟨V, hV⟩ : ∃ V, V = w9.alloc (.cells #[.string nx, .int .u64 xx, .int .u64 yx] 80) := ⟨_, rfl⟩
        rw [← hV] at R9 B9 C9 M9 ⊢
        clear hV
        have y0 := cell_of_block M9.out 0
        have y1 := cell_of_block M9.out 1
        have y2 := cell_of_block M9.out 2
        have y3 := cell_of_block M9.out 3
        have y4 := cell_of_block M9.out 4
        have y9 := lt_of_block M9.out
        have yf := free_of_block M9.out
        have c0 := cell_of_block C9.out 0
        have c1 := cell_of_block C9.out 1
        have c2 := cell_of_block C9.out 2
        have c9 := lt_of_block C9.out
        go_upto_region 14 with fail
        have M5 := Lib.hid (block_setCell (j := 4) (.int .u64 yx) (block_setCell (j := 3) (.int .u64 xx) (block_setCell (j := 1) (.string nx) M9.out)))
        have R5 := Lib.hid (show (((V.setCell ⟨w1.heap.size, 1, none⟩ (.string nx)).setCell ⟨w1.heap.size, 3, none⟩ (.int .u64 xx)).setCell ⟨w1.heap.size, 4, none⟩ (.int .u64 yx)).heap[w.heap.size]? = _ from (Below.heap_setCell _ _ _ _ ne2).trans ((Below.heap_setCell _ _ _ _ ne2).trans ((Below.heap_setCell _ _ _ _ ne2).trans R9.out)))
        have B5 := Lib.hid (((B9.out.setCell (p := ⟨w1.heap.size, 1, none⟩) (Nat.le_of_lt ne1) (.string nx)).setCell (p := ⟨w1.heap.size, 3, none⟩) (Nat.le_of_lt ne1) (.int .u64 xx)).setCell (p := ⟨w1.heap.size, 4, none⟩) (Nat.le_of_lt ne1) (.int .u64 yx))
        clear y0 y1 y2 y3 y4 y9 yf c0 c1 c2 c9
        generalize ((V.setCell ⟨w1.heap.size, 1, none⟩ (.string nx)).setCell ⟨w1.heap.size, 3, none⟩ (.int .u64 xx)).setCell ⟨w1.heap.size, 4, none⟩ (.int .u64 yx) = w5 at *
        have y0 := cell_of_block M5.out 0
        have y1 := cell_of_block M5.out 1
        have y2 := cell_of_block M5.out 2
        have y3 := cell_of_block M5.out 3
        have y4 := cell_of_block M5.out 4
        have y9 := lt_of_block M5.out
        have yf := free_of_block M5.out
        have r0 := cell_of_block R5.out 0
        have r1 := cell_of_block R5.out 1
        have r2 := cell_of_block R5.out 2
        have r3 := cell_of_block R5.out 3
        have r4 := cell_of_block R5.out 4
        have r9 := lt_of_block R5.out
        have rf := free_of_block R5.out
        go_wp2
        refine bodyPost_ret (by simp [results, Tryz.results25, go_sem,  r0, r1, r2, r3, r4]; try rfl) rfl ?_
        exact reR_no EQ.out (((((B5.out.setCell (by simp) _).setCell (by simp) _).setCell (by simp) _).setCell (by simp) _).setCell (by simp) _)
      | some (nm, a, b) =>
        rw [hc] at hre
        have CR := Lib.hid fun W => sRdK_yes rest fr nm a b hc W
        have EQ := Lib.hid hre
        clear hre hc
        have y0 := cell_of_block MM.out 0
        have y9 := lt_of_block MM.out
        go_upto_region 12 with (go_at_call 47; clear y0 y9; refine (CR.out _).mono ?_; rintro e w9 ⟨rfl, hB⟩; have hB2 := below_new hB (.cells #[.string nm, .int .u64 a, .int .u64 b] 80); have R9 := Lib.hid (Ab.block hB2 R2.out); have M9 := Lib.hid (Ab.block hB2 MM.out); have B9 := Lib.hid (B2.out.trans (Below.mono hB2 B2.out.size)); have C9 := Lib.hid (block_alloc w9 (.cells #[.string nm, .int .u64 a, .int .u64 b] 80)); have ne3 : w1.heap.size < w9.heap.size := Nat.lt_of_lt_of_le (lt_of_block MM.out) hB.size; have ne4 : w1.heap.size ≠ w9.heap.size := (by omega); have ne5 : w.heap.size ≠ w9.heap.size := (by omega); clear hB hB2)
        obtain ⟨V, hV⟩ : ∃ V, V = w9.alloc (.cells #[.string nm, .int .u64 a, .int .u64 b] 80) := ⟨_, rfl⟩
        rw [← hV] at R9 B9 C9 M9 ⊢
        clear hV
        have y0 := cell_of_block M9.out 0
        have y1 := cell_of_block M9.out 1
        have y2 := cell_of_block M9.out 2
        have y3 := cell_of_block M9.out 3
        have y4 := cell_of_block M9.out 4
        have y9 := lt_of_block M9.out
        have yf := free_of_block M9.out
        have c0 := cell_of_block C9.out 0
        have c1 := cell_of_block C9.out 1
        have c2 := cell_of_block C9.out 2
        have c9 := lt_of_block C9.out
        go_upto_region 14 with fail
        have M5 := Lib.hid (block_setCell (j := 4) (.int .u64 b) (block_setCell (j := 3) (.int .u64 a) (block_setCell (j := 1) (.string nm) M9.out)))
        have R5 := Lib.hid (show (((V.setCell ⟨w1.heap.size, 1, none⟩ (.string nm)).setCell ⟨w1.heap.size, 3, none⟩ (.int .u64 a)).setCell ⟨w1.heap.size, 4, none⟩ (.int .u64 b)).heap[w.heap.size]? = _ from (Below.heap_setCell _ _ _ _ ne2).trans ((Below.heap_setCell _ _ _ _ ne2).trans ((Below.heap_setCell _ _ _ _ ne2).trans R9.out)))
        have B5 := Lib.hid (((B9.out.setCell (p := ⟨w1.heap.size, 1, none⟩) (Nat.le_of_lt ne1) (.string nm)).setCell (p := ⟨w1.heap.size, 3, none⟩) (Nat.le_of_lt ne1) (.int .u64 a)).setCell (p := ⟨w1.heap.size, 4, none⟩) (Nat.le_of_lt ne1) (.int .u64 b))
        clear y0 y1 y2 y3 y4 y9 yf c0 c1 c2 c9
        generalize ((V.setCell ⟨w1.heap.size, 1, none⟩ (.string nm)).setCell ⟨w1.heap.size, 3, none⟩ (.int .u64 a)).setCell ⟨w1.heap.size, 4, none⟩ (.int .u64 b) = w5 at *
        have y0 := cell_of_block M5.out 0
        have y1 := cell_of_block M5.out 1
        have y2 := cell_of_block M5.out 2
        have y3 := cell_of_block M5.out 3
        have y4 := cell_of_block M5.out 4
        have y9 := lt_of_block M5.out
        have yf := free_of_block M5.out
        have r0 := cell_of_block R5.out 0
        have r1 := cell_of_block R5.out 1
        have r2 := cell_of_block R5.out 2
        have r3 := cell_of_block R5.out 3
        have r4 := cell_of_block R5.out 4
        have r9 := lt_of_block R5.out
        have rf := free_of_block R5.out
        go_wp2
        refine bodyPost_ret (by simp [results, Tryz.results25, go_sem,  r0, r1, r2, r3, r4]; try rfl) rfl ?_
        exact reR_yes EQ.out (((((B5.out.setCell (by simp) _).setCell (by simp) _).setCell (by simp) _).setCell (by simp) _).setCell (by simp) _)
set_option maxRecDepth 100000 in
set_option maxHeartbeats 6400000 in
theorem sRed_card2 (line : ByteArray) (hs : line.size ≤ 1048576) (wd : ByteArray) (ws : List ByteArray) (hp : pieces 32 line = wd :: ws) (x : ByteArray) (r : List ByteArray) (hw : ws = x :: r) (hz : kindO wd = 2) (w : World) :
    Calls Tryz.prog 25 #[.string line] w (ReR line w) := by
  have SP := Lib.hid fun W => sSplitAt_any line 32 (by omega) W
  have R0 := Lib.hid (block_alloc w (.cells #[.int .i8 0, .string ⟨#[]⟩, .int .i16 0, .int .u64 0, .int .u64 0] 53))
  have B0 := Lib.hid (below_new (Below.refl w.heap.size w) (.cells #[.int .i8 0, .string ⟨#[]⟩, .int .i16 0, .int .u64 0, .int .u64 0] 53))
  have HW := Lib.hid hw
  clear hw
  have HZ := Lib.hid hz
  clear hz
  have hfit := pieces_fit 32 line
  have PP := Lib.hid hp
  rw [hp] at SP hfit
  have fn : wd.size ≤ 1048576 := Nat.le_trans (hfit wd (by simp)) hs
  have FW := Lib.hid (fun i (hi : i < ws.length) => Nat.le_trans (hfit (ws.getD i ⟨#[]⟩) (by simp [List.getD, hi])) hs)
  have hlen : ws.length ≤ 1048576 := by
    have h := pieces_len 32 line
    rw [hp, List.length_cons] at h
    omega
  clear hp hfit
  obtain ⟨L, hL⟩ : ∃ L, L = (wd :: ws).length := ⟨_, rfl⟩
  have HL := Lib.hid (show L = ws.length + 1 from hL)
  have hL1 : 1 ≤ L := by have := HL.out; omega
  have hL2 : L ≤ 1048577 := by have := HL.out; omega
  have hL3 : (0 : Int) < (L : Int) := by omega
  have HQ := Lib.hid hL
  clear hL
  go_enter Tryz.func25, Tryz.ntmps25
  go_wp2_with (go_at_call 15; refine (SP.out _).mono ?_; rintro e w1 ⟨v, rfl, hO, hB⟩; obtain ⟨a1, k1, hv, hI⟩ := ownStrs_in hO; rw [← HQ.out] at hv; obtain ⟨bq, oq, ha1, l1, hc⟩ := strsC_at hI (by simp); subst ha1; subst hv; have R1 := Lib.hid ((hB.block _ (by simp)).trans R0.out); have B1 := Lib.hid (B0.out.trans (Below.mono hB (by simp))); have d0 := hc 0 (by simp); simp only [List.getD_cons_zero, Nat.add_zero] at d0; have D0 := Lib.hid d0; have DD := Lib.hid (fun k (h1 : 1 ≤ k) (h2 : k < L) => show w1.cell? ⟨bq, oq + k, none⟩ = some (.string (ws.getD (k - 1) ⟨#[]⟩)) from (by obtain ⟨j, rfl⟩ : ∃ j, k = j + 1 := ⟨k - 1, by omega⟩; exact hc (j + 1) (by rw [← HQ.out]; exact h2))); have L1 := Lib.hid l1; have y9 := lt_of_block R1.out; clear hO hB hI hc)
  have M1 := Lib.hid (block_alloc w1 (.cells #[.int .i8 0, .string ⟨#[]⟩, .int .i16 0, .int .u64 0, .int .u64 0] 53))
  have A1 := Lib.hid (ab_newC w1 (.cells #[.int .i8 0, .string ⟨#[]⟩, .int .i16 0, .int .u64 0, .int .u64 0] 53))
  have hR := lt_of_block R1.out
  clear d0 l1 y9 HQ
  have KC := Lib.hid (kindO_cases wd)
  obtain ⟨k0, k4⟩ := kindO_le wd
  go_loopw [6] (fun i wr => ∃ (k : Int), 1 ≤ k ∧ k ≤ 5 ∧ i = .int .i64 k ∧ wr.heap[w1.heap.size]? = some (.cells #[.int .i8 (kiB (kindO wd) k), .string ⟨#[]⟩, .int .i16 0, .int .u64 0, .int .u64 0] 53 (0, 0)) ∧ Below w1.heap.size w1 wr) (fun i _ => 5 - (intOf i).toNat)
  case atStart => exact ⟨1, by omega, by omega, rfl, by rw [kiB_1 k0]; exact M1.out, A1.out⟩
  case round =>
    obtain ⟨k, hk1, hk5, rfl, hM, hA⟩ := hrel
    have MM := Lib.hid hM
    have AA := Lib.hid hA
    have R2 := Lib.hid (hA.block _ hR |>.trans R1.out)
    have B2 := Lib.hid (B1.out.trans (Below.mono hA B1.out.size))
    clear hM hA M1 A1
    have l1 := Nat.lt_of_lt_of_le L1.out AA.out.size
    by_cases hk : k < 5
    · have dl : decide (k < 5) = true := decide_eq_true hk
      have WO := Lib.hid fun W => sWordK_any k hk1 (by omega) W
      have KE := Lib.hid fun W (h : Below wr.heap.size wr W) => (show W.cell? ⟨bq, oq, none⟩ = some (.string wd) from (h.cell (p := ⟨bq, oq, none⟩) l1).trans ((AA.out.cell (p := ⟨bq, oq, none⟩) L1.out).trans D0.out))
      have e0 := KE.out _ (Below.refl _ _)
      have ki := kind_is (w := wd) hk1 (by omega)
      have x8 : IntKind.i8.wrap k = k := i8_inE k (by omega)
      by_cases hkk : kindO wd = k
      · rw [decide_eq_true hkk] at ki
        have KB := Lib.hid (kiB_hit hkk)
        clear hkk
        generalize wdOf k = wx at *
        go_wp2_with fail
        go_region_with (go_at_call 46; refine (WO.out _).mono ?_; rintro e w3 ⟨g3, rfl, l3, hg, hB⟩; have tc := hg; have b3 := Lib.hid (show Below wr.heap.size wr w3 from (by first | exact hB | exact (et_drew (Below.refl wr.heap.size wr)).trans hB)); have e3 := KE.out _ b3.out; have y3 : bq < w3.heap.size := Nat.lt_of_lt_of_le l1 b3.out.size; have M3 := Lib.hid (Ab.block b3.out MM.out); have f0 := cell_of_block M3.out 0; have ff := free_of_block M3.out; have f9 := lt_of_block M3.out; clear hB hg)
        all_goals go_wp2_with fail
        all_goals exact ⟨⟨k + 1, by omega, by omega, by go_num, by rw [KB.out]; exact block_setCell _ M3.out, (AA.out.trans (Below.mono b3.out AA.out.size)).setCell (by simp) _⟩, by (simp [intOf]) <;> omega⟩
      · rw [decide_eq_false hkk] at ki
        have KB := Lib.hid (kiB_miss hkk)
        clear hkk
        generalize wdOf k = wx at *
        go_wp2_with fail
        go_region_with (go_at_call 46; refine (WO.out _).mono ?_; rintro e w3 ⟨g3, rfl, l3, hg, hB⟩; have tc := hg; have b3 := Lib.hid (show Below wr.heap.size wr w3 from (by first | exact hB | exact (et_drew (Below.refl wr.heap.size wr)).trans hB)); have e3 := KE.out _ b3.out; have y3 : bq < w3.heap.size := Nat.lt_of_lt_of_le l1 b3.out.size; have M3 := Lib.hid (Ab.block b3.out MM.out); clear hB hg)
        all_goals go_wp2_with fail
        all_goals exact ⟨⟨k + 1, by omega, by omega, by go_num, by rw [KB.out]; exact M3.out, AA.out.trans (Below.mono b3.out AA.out.size)⟩, by (simp [intOf]) <;> omega⟩
    · obtain rfl : k = 5 := by omega
      have E5 := kiB_5 k4
      rw [E5] at MM
      clear E5 hk hk1 hk5
      have e0 := (AA.out.cell (p := ⟨bq, oq, none⟩) L1.out).trans D0.out
      have ne1 : w.heap.size < w1.heap.size := hR
      have ne2 : w.heap.size ≠ w1.heap.size := by omega
      have hw := HW.out
      subst hw
      have kc := HZ.out
      have dl2 : decide ((L : Int) < 2) = false := decide_eq_false (by have := HL.out; rw [List.length_cons] at this; omega)
      have rl := rest_le PP.out
      have hre := reK_card PP.out (by omega)
      have fr : (restB line wd).size ≤ 1048576 := Nat.le_trans (restB_le line wd) hs
      have hrb : line.extract (wd.size + 1) line.size = restB line wd := rfl
      generalize restB line wd = rest at *
      rw [kc] at MM hre
      have s1 : ¬ 9223372036854775807 < wd.size + 1 := by omega
      have s2 : IntKind.i64.wrap ((wd.size : Int) + 1) = ((wd.size + 1 : Nat) : Int) := by rw [← Int.natCast_succ]; exact IntWalk.i64_in _ (by omega)
      clear HZ HW SP FW DD HL PP D0 hlen k0 k4 KC kc
      match hc : rcG fS rest with
      | none =>
        rw [hc] at hre
        have CR := Lib.hid fun W => sRdK_no rest fr hc W
        have EQ := Lib.hid hre
        clear hre hc
        have y0 := cell_of_block MM.out 0
        have y9 := lt_of_block MM.out
        go_upto_region 12 with (go_at_call 47; clear y0 y9; refine (CR.out _).mono ?_; rintro e w9 ⟨nx, xx, yx, rfl, hB⟩; have hB2 := below_new hB (.cells #[.string nx, .int .u64 xx, .int .u64 yx] 80); have R9 := Lib.hid (Ab.block hB2 R2.out); have M9 := Lib.hid (Ab.block hB2 MM.out); have B9 := Lib.hid (B2.out.trans (Below.mono hB2 B2.out.size)); have C9 := Lib.hid (block_alloc w9 (.cells #[.string nx, .int .u64 xx, .int .u64 yx] 80)); have ne3 : w1.heap.size < w9.heap.size := Nat.lt_of_lt_of_le (lt_of_block MM.out) hB.size; have ne4 : w1.heap.size ≠ w9.heap.size := (by omega); have ne5 : w.heap.size ≠ w9.heap.size := (by omega); clear hB hB2)
        obtain ⟨V, hV⟩ : ∃ V, V = w9.alloc (.cells #[.string nx, .int .u64 xx, .int .u64 yx] 80) := ⟨_, rfl⟩
        rw [← hV] at R9 B9 C9 M9 ⊢
        clear hV
        have y0 := cell_of_block M9.out 0
        have y1 := cell_of_block M9.out 1
        have y2 := cell_of_block M9.out 2
        have y3 := cell_of_block M9.out 3
        have y4 := cell_of_block M9.out 4
        have y9 := lt_of_block M9.out
        have yf := free_of_block M9.out
        have c0 := cell_of_block C9.out 0
        have c1 := cell_of_block C9.out 1
        have c2 := cell_of_block C9.out 2
        have c9 := lt_of_block C9.out
        go_upto_region 14 with fail
        have M5 := Lib.hid (block_setCell (j := 4) (.int .u64 yx) (block_setCell (j := 3) (.int .u64 xx) (block_setCell (j := 1) (.string nx) M9.out)))
        have R5 := Lib.hid (show (((V.setCell ⟨w1.heap.size, 1, none⟩ (.string nx)).setCell ⟨w1.heap.size, 3, none⟩ (.int .u64 xx)).setCell ⟨w1.heap.size, 4, none⟩ (.int .u64 yx)).heap[w.heap.size]? = _ from (Below.heap_setCell _ _ _ _ ne2).trans ((Below.heap_setCell _ _ _ _ ne2).trans ((Below.heap_setCell _ _ _ _ ne2).trans R9.out)))
        have B5 := Lib.hid (((B9.out.setCell (p := ⟨w1.heap.size, 1, none⟩) (Nat.le_of_lt ne1) (.string nx)).setCell (p := ⟨w1.heap.size, 3, none⟩) (Nat.le_of_lt ne1) (.int .u64 xx)).setCell (p := ⟨w1.heap.size, 4, none⟩) (Nat.le_of_lt ne1) (.int .u64 yx))
        clear y0 y1 y2 y3 y4 y9 yf c0 c1 c2 c9
        generalize ((V.setCell ⟨w1.heap.size, 1, none⟩ (.string nx)).setCell ⟨w1.heap.size, 3, none⟩ (.int .u64 xx)).setCell ⟨w1.heap.size, 4, none⟩ (.int .u64 yx) = w5 at *
        have y0 := cell_of_block M5.out 0
        have y1 := cell_of_block M5.out 1
        have y2 := cell_of_block M5.out 2
        have y3 := cell_of_block M5.out 3
        have y4 := cell_of_block M5.out 4
        have y9 := lt_of_block M5.out
        have yf := free_of_block M5.out
        have r0 := cell_of_block R5.out 0
        have r1 := cell_of_block R5.out 1
        have r2 := cell_of_block R5.out 2
        have r3 := cell_of_block R5.out 3
        have r4 := cell_of_block R5.out 4
        have r9 := lt_of_block R5.out
        have rf := free_of_block R5.out
        go_wp2
        refine bodyPost_ret (by simp [results, Tryz.results25, go_sem,  r0, r1, r2, r3, r4]; try rfl) rfl ?_
        exact reR_no EQ.out (((((B5.out.setCell (by simp) _).setCell (by simp) _).setCell (by simp) _).setCell (by simp) _).setCell (by simp) _)
      | some (nm, a, b) =>
        rw [hc] at hre
        have CR := Lib.hid fun W => sRdK_yes rest fr nm a b hc W
        have EQ := Lib.hid hre
        clear hre hc
        have y0 := cell_of_block MM.out 0
        have y9 := lt_of_block MM.out
        go_upto_region 12 with (go_at_call 47; clear y0 y9; refine (CR.out _).mono ?_; rintro e w9 ⟨rfl, hB⟩; have hB2 := below_new hB (.cells #[.string nm, .int .u64 a, .int .u64 b] 80); have R9 := Lib.hid (Ab.block hB2 R2.out); have M9 := Lib.hid (Ab.block hB2 MM.out); have B9 := Lib.hid (B2.out.trans (Below.mono hB2 B2.out.size)); have C9 := Lib.hid (block_alloc w9 (.cells #[.string nm, .int .u64 a, .int .u64 b] 80)); have ne3 : w1.heap.size < w9.heap.size := Nat.lt_of_lt_of_le (lt_of_block MM.out) hB.size; have ne4 : w1.heap.size ≠ w9.heap.size := (by omega); have ne5 : w.heap.size ≠ w9.heap.size := (by omega); clear hB hB2)
        obtain ⟨V, hV⟩ : ∃ V, V = w9.alloc (.cells #[.string nm, .int .u64 a, .int .u64 b] 80) := ⟨_, rfl⟩
        rw [← hV] at R9 B9 C9 M9 ⊢
        clear hV
        have y0 := cell_of_block M9.out 0
        have y1 := cell_of_block M9.out 1
        have y2 := cell_of_block M9.out 2
        have y3 := cell_of_block M9.out 3
        have y4 := cell_of_block M9.out 4
        have y9 := lt_of_block M9.out
        have yf := free_of_block M9.out
        have c0 := cell_of_block C9.out 0
        have c1 := cell_of_block C9.out 1
        have c2 := cell_of_block C9.out 2
        have c9 := lt_of_block C9.out
        go_upto_region 14 with fail
        have M5 := Lib.hid (block_setCell (j := 4) (.int .u64 b) (block_setCell (j := 3) (.int .u64 a) (block_setCell (j := 1) (.string nm) M9.out)))
        have R5 := Lib.hid (show (((V.setCell ⟨w1.heap.size, 1, none⟩ (.string nm)).setCell ⟨w1.heap.size, 3, none⟩ (.int .u64 a)).setCell ⟨w1.heap.size, 4, none⟩ (.int .u64 b)).heap[w.heap.size]? = _ from (Below.heap_setCell _ _ _ _ ne2).trans ((Below.heap_setCell _ _ _ _ ne2).trans ((Below.heap_setCell _ _ _ _ ne2).trans R9.out)))
        have B5 := Lib.hid (((B9.out.setCell (p := ⟨w1.heap.size, 1, none⟩) (Nat.le_of_lt ne1) (.string nm)).setCell (p := ⟨w1.heap.size, 3, none⟩) (Nat.le_of_lt ne1) (.int .u64 a)).setCell (p := ⟨w1.heap.size, 4, none⟩) (Nat.le_of_lt ne1) (.int .u64 b))
        clear y0 y1 y2 y3 y4 y9 yf c0 c1 c2 c9
        generalize ((V.setCell ⟨w1.heap.size, 1, none⟩ (.string nm)).setCell ⟨w1.heap.size, 3, none⟩ (.int .u64 a)).setCell ⟨w1.heap.size, 4, none⟩ (.int .u64 b) = w5 at *
        have y0 := cell_of_block M5.out 0
        have y1 := cell_of_block M5.out 1
        have y2 := cell_of_block M5.out 2
        have y3 := cell_of_block M5.out 3
        have y4 := cell_of_block M5.out 4
        have y9 := lt_of_block M5.out
        have yf := free_of_block M5.out
        have r0 := cell_of_block R5.out 0
        have r1 := cell_of_block R5.out 1
        have r2 := cell_of_block R5.out 2
        have r3 := cell_of_block R5.out 3
        have r4 := cell_of_block R5.out 4
        have r9 := lt_of_block R5.out
        have rf := free_of_block R5.out
        go_wp2
        refine bodyPost_ret (by simp [results, Tryz.results25, go_sem,  r0, r1, r2, r3, r4]; try rfl) rfl ?_
        exact reR_yes EQ.out (((((B5.out.setCell (by simp) _).setCell (by simp) _).setCell (by simp) _).setCell (by simp) _).setCell (by simp) _)
end Go.Proofs.YtpkpjkceiikakaaGreatDoor
