/- Contract: the model's reader of an edit. -/
import Derived.Test.YtpkpjkceiikakaaGreatDoorRxY
namespace Go.Proofs.YtpkpjkceiikakaaGreatDoor
open Go.ChangeShapes Go.WideShapes Go.ChangeAt Go.RowKit

theorem sRdK_no (s : ByteArray) (hs : s.size ≤ 1048576) (h : rcG fS s = none) (w : World) :
    Calls Tryz.prog 47 #[.string s] w fun e w' => ∃ nm x y, e = .returned (.tuple #[.agg #[.string nm, .int .u64 x, .int .u64 y], .bool false]) ∧ Below w.heap.size w w' :=
  (sRdC_any s hs w).mono fun e w' h' => by
    obtain ⟨nm, x, y, he, _, hb⟩ := h'
    exact ⟨nm, x, y, by rw [he, h]; rfl, hb⟩
theorem sRdK_yes (s : ByteArray) (hs : s.size ≤ 1048576) (nm : ByteArray) (a b : Int) (h : rcG fS s = some (nm, a, b)) (w : World) :
    Calls Tryz.prog 47 #[.string s] w fun e w' => e = .returned (.tuple #[.agg #[.string nm, .int .u64 a, .int .u64 b], .bool true]) ∧ Below w.heap.size w w' :=
  (sRdC_any s hs w).mono fun e w' h' => by
    obtain ⟨nm', x, y, he, hq, hb⟩ := h'
    have hq := hq _ h
    simp only [Prod.mk.injEq] at hq
    obtain ⟨rfl, rfl, rfl⟩ := hq
    exact ⟨by rw [he, h]; rfl, hb⟩
theorem kindO_le (w : ByteArray) : 0 ≤ kindO w ∧ kindO w ≤ 4 := by
  rcases kindO_cases w with h | h | h <;> omega
theorem kind_is {w : ByteArray} {k : Int} (h1 : 1 ≤ k) (h4 : k ≤ 4) : ((wdOf k).toList == w.toList) = decide (kindO w = k) := by
  have hk : k = 1 ∨ k = 2 ∨ k = 3 ∨ k = 4 := by omega
  rw [Bool.eq_iff_iff, beq_iff_eq, decide_eq_true_eq, Lib.toList_data, Lib.toList_data]
  constructor
  · intro h
    rw [← data_inj h]; exact kindO_wd hk
  · intro h
    rw [(kindO_inv (w := w) (by omega)).2, h]
/-- The kind that the model has found below a number. -/
def kiB (K k : Int) : Int := if K < k then K else 0
theorem kiB_1 {K : Int} (h : 0 ≤ K) : kiB K 1 = 0 := by unfold kiB; split <;> omega
theorem kiB_5 {K : Int} (h : K ≤ 4) : kiB K 5 = K := by unfold kiB; split <;> omega
theorem kiB_hit {K k : Int} (h : K = k) : kiB K (k + 1) = k := by unfold kiB; split <;> omega
theorem kiB_miss {K k : Int} (h : K ≠ k) : kiB K (k + 1) = kiB K k := by unfold kiB; split <;> split <;> omega
theorem reK_one {line w0 : ByteArray} (hp : pieces 32 line = [w0]) : reI line = none := by
  rw [re_same]; unfold reS; rw [hp]
theorem reK_zero {line w0 x : ByteArray} {r : List ByteArray} (hp : pieces 32 line = w0 :: x :: r) (h : kindO w0 = 0) : reI line = none := by
  rw [re_same]; unfold reS; rw [hp]; simp only [h]; simp
theorem reK_card {line w0 x : ByteArray} {r : List ByteArray} (hp : pieces 32 line = w0 :: x :: r) (h : kindO w0 = 1 ∨ kindO w0 = 2) : reI line = (match rcG fS (restB line w0) with
      | none => none
      | some (nm, a, b) => some ⟨kindO w0, nm, 0, a, b⟩) := by
  rw [re_same]; unfold reS; rw [hp]; simp only [if_pos h]; rfl
theorem reK_h0 {line w0 x : ByteArray} (hp : pieces 32 line = [w0, x]) (h : kindO w0 = 3 ∨ kindO w0 = 4) : reI line = none := by
  rw [re_same]; unfold reS; rw [hp]; simp only [if_neg (show ¬ (kindO w0 = 1 ∨ kindO w0 = 2) by omega), if_pos h]
theorem reK_hm {line w0 x y z : ByteArray} {r : List ByteArray} (hp : pieces 32 line = w0 :: x :: y :: z :: r) (h : kindO w0 = 3 ∨ kindO w0 = 4) : reI line = none := by
  rw [re_same]; unfold reS; rw [hp]; simp only [if_neg (show ¬ (kindO w0 = 1 ∨ kindO w0 = 2) by omega), if_pos h]
theorem reK_h1 {line w0 x y : ByteArray} (hp : pieces 32 line = [w0, x, y]) (h : kindO w0 = 3 ∨ kindO w0 = 4) : reI line = (match fS y with
        | some n => if nameOk x = true then some ⟨kindO w0, x, n, 0, 0⟩ else none
        | none => none) := by
  rw [re_same]; unfold reS; rw [hp]; simp only [if_neg (show ¬ (kindO w0 = 1 ∨ kindO w0 = 2) by omega), if_pos h]; rfl
theorem rest_le {line w0 x : ByteArray} {r : List ByteArray} (hp : pieces 32 line = w0 :: x :: r) : w0.size + 1 ≤ line.size := by
  have h := congrArg List.length (line_split hp).1
  rw [List.length_append, List.length_cons, ← Lib.size_eq, ← Lib.size_eq] at h
  omega

set_option maxRecDepth 100000 in
set_option maxHeartbeats 6400000 in
theorem sRed_plain (line : ByteArray) (hs : line.size ≤ 1048576) (wd : ByteArray) (ws : List ByteArray) (hp : pieces 32 line = wd :: ws) (hz : ws = [] ∨ kindO wd = 0) (hn : reI line = none) (w : World) :
    Calls Tryz.prog 25 #[.string line] w (ReR line w) := by
  have SP := Lib.hid fun W => sSplitAt_any line 32 (by omega) W
  have R0 := Lib.hid (block_alloc w (.cells #[.int .i8 0, .string ⟨#[]⟩, .int .i16 0, .int .u64 0, .int .u64 0] 53))
  have B0 := Lib.hid (below_new (Below.refl w.heap.size w) (.cells #[.int .i8 0, .string ⟨#[]⟩, .int .i16 0, .int .u64 0, .int .u64 0] 53))
  have HZ := Lib.hid hz
  clear hz
  have EQ := Lib.hid hn
  clear hn
  have hfit := pieces_fit 32 line
  have PP := Lib.hid hp
  rw [hp] at SP hfit
  have fn : wd.size ≤ 1048576 := Nat.le_trans (hfit wd (by simp)) hs
  have FW := Lib.hid (fun i (hi : i < ws.length) => Nat.le_trans (hfit (ws.getD i ⟨#[]⟩) (by simp [List.getD, hi])) hs)
  have hlen : ws.length ≤ 1048576 := by
    have h := pieces_len 32 line
    rw [hp, List.length_cons] at h
    omega
  clear hp hfit
  obtain ⟨L, hL⟩ : ∃ L, L = (wd :: ws).length := ⟨_, rfl⟩
  have HL := Lib.hid (show L = ws.length + 1 from hL)
  have hL1 : 1 ≤ L := by have := HL.out; omega
  have hL2 : L ≤ 1048577 := by have := HL.out; omega
  have hL3 : (0 : Int) < (L : Int) := by omega
  have HQ := Lib.hid hL
  clear hL
  go_enter Tryz.func25, Tryz.ntmps25
  go_wp2_with (go_at_call 15; refine (SP.out _).mono ?_; rintro e w1 ⟨v, rfl, hO, hB⟩; obtain ⟨a1, k1, hv, hI⟩ := ownStrs_in hO; rw [← HQ.out] at hv; obtain ⟨bq, oq, ha1, l1, hc⟩ := strsC_at hI (by simp); subst ha1; subst hv; have R1 := Lib.hid ((hB.block _ (by simp)).trans R0.out); have B1 := Lib.hid (B0.out.trans (Below.mono hB (by simp))); have d0 := hc 0 (by simp); simp only [List.getD_cons_zero, Nat.add_zero] at d0; have D0 := Lib.hid d0; have DD := Lib.hid (fun k (h1 : 1 ≤ k) (h2 : k < L) => show w1.cell? ⟨bq, oq + k, none⟩ = some (.string (ws.getD (k - 1) ⟨#[]⟩)) from (by obtain ⟨j, rfl⟩ : ∃ j, k = j + 1 := ⟨k - 1, by omega⟩; exact hc (j + 1) (by rw [← HQ.out]; exact h2))); have L1 := Lib.hid l1; have y9 := lt_of_block R1.out; clear hO hB hI hc)
  have M1 := Lib.hid (block_alloc w1 (.cells #[.int .i8 0, .string ⟨#[]⟩, .int .i16 0, .int .u64 0, .int .u64 0] 53))
  have A1 := Lib.hid (ab_newC w1 (.cells #[.int .i8 0, .string ⟨#[]⟩, .int .i16 0, .int .u64 0, .int .u64 0] 53))
  have hR := lt_of_block R1.out
  clear d0 l1 y9 HQ
  have KC := Lib.hid (kindO_cases wd)
  obtain ⟨k0, k4⟩ := kindO_le wd
  go_loopw [6] (fun i wr => ∃ (k : Int), 1 ≤ k ∧ k ≤ 5 ∧ i = .int .i64 k ∧ wr.heap[w1.heap.size]? = some (.cells #[.int .i8 (kiB (kindO wd) k), .string ⟨#[]⟩, .int .i16 0, .int .u64 0, .int .u64 0] 53 (0, 0)) ∧ Below w1.heap.size w1 wr) (fun i _ => 5 - (intOf i).toNat)
  case atStart => exact ⟨1, by omega, by omega, rfl, by rw [kiB_1 k0]; exact M1.out, A1.out⟩
  case round =>
    obtain ⟨k, hk1, hk5, rfl, hM, hA⟩ := hrel
    have MM := Lib.hid hM
    have AA := Lib.hid hA
    have R2 := Lib.hid (hA.block _ hR |>.trans R1.out)
    have B2 := Lib.hid (B1.out.trans (Below.mono hA B1.out.size))
    clear hM hA M1 A1
    have l1 := Nat.lt_of_lt_of_le L1.out AA.out.size
    by_cases hk : k < 5
    · have dl : decide (k < 5) = true := decide_eq_true hk
      have WO := Lib.hid fun W => sWordK_any k hk1 (by omega) W
      have KE := Lib.hid fun W (h : Below wr.heap.size wr W) => (show W.cell? ⟨bq, oq, none⟩ = some (.string wd) from (h.cell (p := ⟨bq, oq, none⟩) l1).trans ((AA.out.cell (p := ⟨bq, oq, none⟩) L1.out).trans D0.out))
      have e0 := KE.out _ (Below.refl _ _)
      have ki := kind_is (w := wd) hk1 (by omega)
      have x8 : IntKind.i8.wrap k = k := i8_inE k (by omega)
      by_cases hkk : kindO wd = k
      · rw [decide_eq_true hkk] at ki
        have KB := Lib.hid (kiB_hit hkk)
        clear hkk
        generalize wdOf k = wx at *
        go_wp2_with fail
        go_region_with (go_at_call 46; refine (WO.out _).mono ?_; rintro e w3 ⟨g3, rfl, l3, hg, hB⟩; have tc := hg; have b3 := Lib.hid (show Below wr.heap.size wr w3 from (by first | exact hB | exact (et_drew (Below.refl wr.heap.size wr)).trans hB)); have e3 := KE.out _ b3.out; have y3 : bq < w3.heap.size := Nat.lt_of_lt_of_le l1 b3.out.size; have M3 := Lib.hid (Ab.block b3.out MM.out); have f0 := cell_of_block M3.out 0; have ff := free_of_block M3.out; have f9 := lt_of_block M3.out; clear hB hg)
        all_goals go_wp2_with fail
        all_goals exact ⟨⟨k + 1, by omega, by omega, by go_num, by rw [KB.out]; exact block_setCell _ M3.out, (AA.out.trans (Below.mono b3.out AA.out.size)).setCell (by simp) _⟩, by (simp [intOf]) <;> omega⟩
      · rw [decide_eq_false hkk] at ki
        have KB := Lib.hid (kiB_miss hkk)
        clear hkk
        generalize wdOf k = wx at *
        go_wp2_with fail
        go_region_with (go_at_call 46; refine (WO.out _).mono ?_; rintro e w3 ⟨g3, rfl, l3, hg, hB⟩; have tc := hg; have b3 := Lib.hid (show Below wr.heap.size wr w3 from (by first | exact hB | exact (et_drew (Below.refl wr.heap.size wr)).trans hB)); have e3 := KE.out _ b3.out; have y3 : bq < w3.heap.size := Nat.lt_of_lt_of_le l1 b3.out.size; have M3 := Lib.hid (Ab.block b3.out MM.out); clear hB hg)
        all_goals go_wp2_with fail
        all_goals exact ⟨⟨k + 1, by omega, by omega, by go_num, by rw [KB.out]; exact M3.out, AA.out.trans (Below.mono b3.out AA.out.size)⟩, by (simp [intOf]) <;> omega⟩
    · obtain rfl : k = 5 := by omega
      have E5 := kiB_5 k4
      rw [E5] at MM
      clear E5 hk hk1 hk5
      have e0 := (AA.out.cell (p := ⟨bq, oq, none⟩) L1.out).trans D0.out
      have ne1 : w.heap.size < w1.heap.size := hR
      have ne2 : w.heap.size ≠ w1.heap.size := by omega
      clear SP FW DD D0 hlen
      rcases HZ.out with hz | hz
      · have dl2 : decide ((L : Int) < 2) = true := decide_eq_true (by have := HL.out; rw [hz, List.length_nil] at this; omega)
        clear hz HZ HL
        generalize kindO wd = K at *
        cases hq : (K == 0)
        all_goals
          have r0 := cell_of_block R2.out 0
          have r1 := cell_of_block R2.out 1
          have r2 := cell_of_block R2.out 2
          have r3 := cell_of_block R2.out 3
          have r4 := cell_of_block R2.out 4
          have r9 := lt_of_block R2.out
          have rf := free_of_block R2.out
          have y0 := cell_of_block MM.out 0
          have y1 := cell_of_block MM.out 1
          have y2 := cell_of_block MM.out 2
          have y3 := cell_of_block MM.out 3
          have y4 := cell_of_block MM.out 4
          have y9 := lt_of_block MM.out
          have yf := free_of_block MM.out
          go_wp2
          refine bodyPost_ret (by simp [results, Tryz.results25, go_sem,  r0, r1, r2, r3, r4]; try rfl) rfl ?_
          exact reR_no EQ.out (((((B2.out.setCell (by simp) _).setCell (by simp) _).setCell (by simp) _).setCell (by simp) _).setCell (by simp) _)
      · rw [hz] at MM
        clear hz HZ HL
        have r0 := cell_of_block R2.out 0
        have r1 := cell_of_block R2.out 1
        have r2 := cell_of_block R2.out 2
        have r3 := cell_of_block R2.out 3
        have r4 := cell_of_block R2.out 4
        have r9 := lt_of_block R2.out
        have rf := free_of_block R2.out
        have y0 := cell_of_block MM.out 0
        have y1 := cell_of_block MM.out 1
        have y2 := cell_of_block MM.out 2
        have y3 := cell_of_block MM.out 3
        have y4 := cell_of_block MM.out 4
        have y9 := lt_of_block MM.out
        have yf := free_of_block MM.out
        go_wp2
        refine bodyPost_ret (by simp [results, Tryz.results25, go_sem,  r0, r1, r2, r3, r4]; try rfl) rfl ?_
        exact reR_no EQ.out (((((B2.out.setCell (by simp) _).setCell (by simp) _).setCell (by simp) _).setCell (by simp) _).setCell (by simp) _)
end Go.Proofs.YtpkpjkceiikakaaGreatDoor
