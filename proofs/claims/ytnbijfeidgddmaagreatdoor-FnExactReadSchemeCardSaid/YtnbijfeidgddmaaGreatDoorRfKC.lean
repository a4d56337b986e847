/- Contract: the model's reader of a field. -/
import Derived.Test.YtnbijfeidgddmaaGreatDoorRfIC
import Derived.Test.YtnbijfeidgddmaaGreatDoorRcSC
namespace Go.Proofs.YtnbijfeidgddmaaGreatDoor
open Go.ChangeShapes Go.WideShapes Go.ChangeAt Go.RowKit

set_option maxHeartbeats 800000 in
theorem sKindsR_any (k : Int) (h1 : 0 ≤ k) (h4 : k ≤ 3) (w : World) : Calls Tryz.prog 29 #[] w fun e w' => ∃ g, e = .returned (.slice (some ⟨g, 0, none⟩) 4 4) ∧ g < w'.heap.size ∧ w'.cell? ⟨g, k.toNat, none⟩ = some (.string (kwOf k)) ∧ Below w.heap.size w w' := by
  have h : k = 0 ∨ k = 1 ∨ k = 2 ∨ k = 3 := by omega
  go_enter Tryz.func29, Tryz.ntmps29
  go_wp2
  go_ret
  refine ⟨w.heap.size, rfl, by simp, ?_, below_new (Below.refl _ _) _⟩
  rw [cell_of_block (block_alloc w _)]
  rcases h with rfl | rfl | rfl | rfl <;> rfl
/-- The field that a line tells of, the model's way. -/
def rfV (s kw a b : ByteArray) : Option Fd := match kdO kw, numL a.data.toList, numL b.data.toList with
  | some k, some x, some y => if x < 96 ∧ y < 96 then some ⟨s, k, (x : Int), (y : Int)⟩ else none
  | _, _, _ => none
def rfS (line : ByteArray) : Option Fd := match pieces 32 line with
  | [s, kw, a, b] => rfV s kw a b
  | _ => none
theorem rfS_four {line s kw a b : ByteArray} (hp : pieces 32 line = [s, kw, a, b]) : rfS line = rfV s kw a b := by unfold rfS; rw [hp]
theorem rfS_len {line : ByteArray} (h : (pieces 32 line).length ≠ 4) : rfS line = none := by
  unfold rfS
  split
  · rename_i hp; rw [hp] at h; exact absurd rfl h
  · rfl
theorem rfV_a {s kw a b : ByteArray} (h : numL a.data.toList = none) : rfV s kw a b = none := by unfold rfV; rw [h]; cases kdO kw <;> rfl
theorem rfV_b {s kw a b : ByteArray} (h : numL b.data.toList = none) : rfV s kw a b = none := by unfold rfV; rw [h]; cases kdO kw <;> cases numL a.data.toList <;> rfl
theorem rfV_out {s kw a b : ByteArray} {x y : Nat} (h2 : numL a.data.toList = some x) (h3 : numL b.data.toList = some y) (h : ¬ (x < 96 ∧ y < 96)) : rfV s kw a b = none := by
  unfold rfV; rw [h2, h3]; cases kdO kw with
  | none => rfl
  | some k => exact if_neg h
theorem rfV_k {s kw a b : ByteArray} (h : kdO kw = none) : rfV s kw a b = none := by unfold rfV; rw [h]
theorem rfV_all {s kw a b : ByteArray} {k : Int} {x y : Nat} (h1 : kdO kw = some k) (h2 : numL a.data.toList = some x) (h3 : numL b.data.toList = some y) (h : x < 96 ∧ y < 96) : rfV s kw a b = some ⟨s, k, (x : Int), (y : Int)⟩ := by
  unfold rfV; rw [h1, h2, h3]; exact if_pos h
theorem sNumG_any (s : ByteArray) (hs : s.size ≤ 1048576) (w : World) :
    Calls Tryz.prog 30 #[.string s] w fun e w' => ∃ n v, e = .returned (.tuple #[.int .i64 n, .bool v]) ∧ Below w.heap.size w w' := by
  cases h : numL s.data.toList with
  | none => exact (sNum_no s hs h w).mono fun e w' ⟨he, hb⟩ => ⟨_, _, he, hb⟩
  | some n => exact (sNum_ok s hs n h w).mono fun e w' ⟨he, hb⟩ => ⟨_, _, he, hb⟩
/-- What the model's reader of a field tells. -/
def RfS (line : ByteArray) (w : World) (e : Ending) (w' : World) : Prop := ∃ x : Fd, e = .returned (.tuple #[.agg #[.string x.s, .int .i8 x.k, .int .i16 x.t, .int .i16 x.z], .bool (rfS line).isSome]) ∧ (∀ v, rfS line = some v → v = x) ∧ Below w.heap.size w w'
theorem rfT_no {line : ByteArray} {k t z : Int} {s : ByteArray} {w w' : World} (hn : rfS line = none) (hb : Below w.heap.size w w') : RfS line w (.returned (.tuple #[.agg #[.string s, .int .i8 k, .int .i16 t, .int .i16 z], .bool false])) w' :=
  ⟨⟨s, k, t, z⟩, by rw [hn]; rfl, fun v e => (by rw [hn] at e; cases e), hb⟩
theorem rfT_yes {line : ByteArray} {k t z : Int} {s : ByteArray} {w w' : World} (hn : rfS line = some ⟨s, k, t, z⟩) (hb : Below w.heap.size w w') : RfS line w (.returned (.tuple #[.agg #[.string s, .int .i8 k, .int .i16 t, .int .i16 z], .bool true])) w' :=
  ⟨⟨s, k, t, z⟩, by rw [hn]; rfl, fun v e => (by rw [hn] at e; exact (Option.some.inj e).symm), hb⟩
/-- The kind that the model has found below a number. -/
def kfB (o : Option Int) (k : Int) : Int := match o with
  | some K => if K < k then K else -1
  | none => -1
theorem kfB_0 (w : ByteArray) : kfB (kdO w) 0 = -1 := by
  cases h : kdO w with
  | none => rfl
  | some K => unfold kfB; exact if_neg (by have := (kdO_inv h).1; omega)
theorem kfB_4 (w : ByteArray) : kfB (kdO w) 4 = (kdO w).getD (-1) := by
  cases h : kdO w with
  | none => rfl
  | some K => unfold kfB; exact if_pos (by have := (kdO_inv h).1; omega)
theorem kfB_hit {o : Option Int} {k : Int} (h : o = some k) : kfB o (k + 1) = k := by subst h; unfold kfB; exact if_pos (by omega)
theorem kfB_miss {o : Option Int} {k : Int} (h : o ≠ some k) : kfB o (k + 1) = kfB o k := by
  cases o with
  | none => rfl
  | some K =>
    have hk : K ≠ k := fun e => h (by rw [e])
    unfold kfB
    by_cases h2 : K < k
    · simp only [if_pos h2, if_pos (show K < k + 1 by omega)]
    · simp only [if_neg h2, if_neg (show ¬ K < k + 1 by omega)]
theorem kindW_is {w : ByteArray} {k : Int} (h0 : 0 ≤ k) (h3 : k ≤ 3) : ((kwOf k).toList == w.toList) = decide (kdO w = some k) := by
  rw [Bool.eq_iff_iff, beq_iff_eq, decide_eq_true_eq, Lib.toList_data, Lib.toList_data]
  constructor
  · intro h
    rw [← data_inj h]; exact kdO_kw h0 h3
  · intro h
    rw [(kdO_inv h).2]
theorem i16_inR (n : Int) (h : -32768 ≤ n ∧ n ≤ 32767) : IntKind.i16.wrap n = n := by
  unfold IntKind.wrap
  simp [IntKind.bits, IntKind.signed]
  omega
theorem rf_drew {n : Nat} {w W : World} (h : Below n w W) : Below n w W.drew := Below.drew h

set_option maxRecDepth 100000 in
set_option maxHeartbeats 6400000 in
theorem sRef_any (line : ByteArray) (hs : line.size ≤ 1048576) (w : World) :
    Calls Tryz.prog 16 #[.string line] w (RfS line w) := by
  have SP := Lib.hid fun W => sSplitAt_any line 32 (by omega) W
  have R0 := Lib.hid (block_alloc w (.cells #[.string ⟨#[]⟩, .int .i8 0, .int .i16 0, .int .i16 0] 38))
  have B0 := Lib.hid (below_new (Below.refl w.heap.size w) (.cells #[.string ⟨#[]⟩, .int .i8 0, .int .i16 0, .int .i16 0] 38))
  have hfit := pieces_fit 32 line
  by_cases h4 : (pieces 32 line).length = 4
  · obtain ⟨s, kw, a, b, hp⟩ := four_of h4
    have hr := rfS_four hp
    rw [hp] at SP hfit
    have fa : a.size ≤ 1048576 := Nat.le_trans (hfit a (by simp)) hs
    have fb : b.size ≤ 1048576 := Nat.le_trans (hfit b (by simp)) hs
    have HR := Lib.hid hr
    clear hp h4 hfit hs hr
    go_enter Tryz.func16, Tryz.ntmps16
    go_upto_region 5 with (go_at_call 15; refine (SP.out _).mono ?_; rintro e w1 ⟨v, rfl, hO, hB⟩; obtain ⟨a1, k1, hv, hI⟩ := ownStrs_in hO; obtain ⟨bq, oq, ha1, l1, hc⟩ := strsC_at hI (by simp); subst ha1; simp only [List.length_cons, List.length_nil, Nat.reduceAdd] at hv; subst hv; have R1 := Lib.hid ((hB.block _ (by simp)).trans R0.out); have B1 := Lib.hid (B0.out.trans (Below.mono hB (by simp))); have d0 : w1.cell? ⟨bq, oq, none⟩ = some (.string s) := hc 0 (by simp); have D1 := Lib.hid (show w1.cell? ⟨bq, oq + 1, none⟩ = some (.string kw) from hc 1 (by simp)); have D2 := Lib.hid (show w1.cell? ⟨bq, oq + 2, none⟩ = some (.string a) from hc 2 (by simp)); have D3 := Lib.hid (show w1.cell? ⟨bq, oq + 3, none⟩ = some (.string b) from hc 3 (by simp)); have L1 := Lib.hid l1; have y9 := lt_of_block R1.out; clear hO hB hI hc)
    have M1 := Lib.hid (block_alloc w1 (.cells #[.string s, .int .i8 (-1), .int .i16 0, .int .i16 0] 38))
    have A1 := Lib.hid (ab_newC w1 (.cells #[.string s, .int .i8 (-1), .int .i16 0, .int .i16 0] 38))
    have hR := lt_of_block R1.out
    clear d0 l1 y9
    go_wp2_with fail
    go_loopw [6] (fun i wr => ∃ (k : Int), 0 ≤ k ∧ k ≤ 4 ∧ i = .int .i64 k ∧ wr.heap[w1.heap.size]? = some (.cells #[.string s, .int .i8 (kfB (kdO kw) k), .int .i16 0, .int .i16 0] 38 (0, 0)) ∧ Below w1.heap.size w1 wr) (fun i _ => 4 - (intOf i).toNat)
    case atStart => exact ⟨0, by omega, by omega, rfl, by rw [kfB_0]; exact M1.out, A1.out⟩
    case round =>
      obtain ⟨k, hk0, hk4, rfl, hM, hA⟩ := hrel
      have MM := Lib.hid hM
      have AA := Lib.hid hA
      have R2 := Lib.hid (hA.block _ hR |>.trans R1.out)
      have B2 := Lib.hid (B1.out.trans (Below.mono hA B1.out.size))
      clear hM hA M1 A1
      have l1 := Nat.lt_of_lt_of_le L1.out AA.out.size
      by_cases hk : k < 4
      · have dl : decide (k < 4) = true := decide_eq_true hk
        have WO := Lib.hid fun W => sKindsR_any k hk0 (by omega) W
        have KE := Lib.hid fun W (h : Below wr.heap.size wr W) => (show W.cell? ⟨bq, oq + 1, none⟩ = some (.string kw) from (h.cell (p := ⟨bq, oq + 1, none⟩) l1).trans ((AA.out.cell (p := ⟨bq, oq + 1, none⟩) L1.out).trans D1.out))
        have e0 := KE.out _ (Below.refl _ _)
        have ki := kindW_is (w := kw) hk0 (by omega)
        have x8 : IntKind.i8.wrap k = k := i8_inE k (by omega)
        by_cases hkk : kdO kw = some k
        · rw [decide_eq_true hkk] at ki
          have KB := Lib.hid (kfB_hit hkk)
          clear hkk
          generalize kwOf k = wx at *
          go_wp2_with fail
          go_region_with (go_at_call 29; refine (WO.out _).mono ?_; rintro e w3 ⟨g3, rfl, l3, hg, hB⟩; have tc := hg; have b3 := Lib.hid (show Below wr.heap.size wr w3 from (by first | exact hB | exact (rf_drew (Below.refl wr.heap.size wr)).trans hB)); have e3 := KE.out _ b3.out; have y3 : bq < w3.heap.size := Nat.lt_of_lt_of_le l1 b3.out.size; have M3 := Lib.hid (Ab.block b3.out MM.out); have f1 := cell_of_block M3.out 1; have ff := free_of_block M3.out; have f9 := lt_of_block M3.out; clear hB hg)
          all_goals go_wp2_with fail
          all_goals exact ⟨⟨k + 1, by omega, by omega, by go_num, by rw [KB.out]; exact block_setCell _ M3.out, (AA.out.trans (Below.mono b3.out AA.out.size)).setCell (by simp) _⟩, by (simp [intOf]) <;> omega⟩
        · rw [decide_eq_false hkk] at ki
          have KB := Lib.hid (kfB_miss hkk)
          clear hkk
          generalize kwOf k = wx at *
          go_wp2_with fail
          go_region_with (go_at_call 29; refine (WO.out _).mono ?_; rintro e w3 ⟨g3, rfl, l3, hg, hB⟩; have tc := hg; have b3 := Lib.hid (show Below wr.heap.size wr w3 from (by first | exact hB | exact (rf_drew (Below.refl wr.heap.size wr)).trans hB)); have e3 := KE.out _ b3.out; have y3 : bq < w3.heap.size := Nat.lt_of_lt_of_le l1 b3.out.size; have M3 := Lib.hid (Ab.block b3.out MM.out); clear hB hg)
          all_goals go_wp2_with fail
          all_goals exact ⟨⟨k + 1, by omega, by omega, by go_num, by rw [KB.out]; exact M3.out, AA.out.trans (Below.mono b3.out AA.out.size)⟩, by (simp [intOf]) <;> omega⟩
      · obtain rfl : k = 4 := by omega
        rw [kfB_4] at MM
        have d2 := (AA.out.cell (p := ⟨bq, oq + 2, none⟩) L1.out).trans D2.out
        have D3R := Lib.hid ((AA.out.cell (p := ⟨bq, oq + 3, none⟩) L1.out).trans D3.out)
        have ne1 : w.heap.size < w1.heap.size := hR
        have ne2 : w.heap.size ≠ w1.heap.size := by omega
        clear hk hk0 hk4 SP D1 D2 D3
        cases ha : numL a.data.toList with
        | none =>
          have EQ := Lib.hid (HR.out.trans (rfV_a ha))
          have NA := Lib.hid fun W => sNum_no a fa ha W
          have NB := Lib.hid fun W => sNumG_any b fb W
          clear ha
          have tok1 : True := trivial
          go_upto_region 12 with (first | (go_at_call 30; have _t := tok1; clear _t tok1; refine (NA.out _).mono ?_; rintro e w3 ⟨rfl, hB⟩; have R3 := Lib.hid (Ab.block hB R2.out); have M3 := Lib.hid (Ab.block hB MM.out); have B3 := Lib.hid (B2.out.trans (Below.mono hB B2.out.size)); have d3 := (Below.cell hB (p := ⟨bq, oq + 3, none⟩) l1).trans D3R.out; have l3 := Nat.lt_of_lt_of_le l1 hB.size; clear hB d2) | (go_at_call 30; refine (NB.out _).mono ?_; rintro e w4 ⟨nb, vb, rfl, hB⟩; have R4 := Lib.hid (Ab.block hB R3.out); have M4 := Lib.hid (Ab.block hB M3.out); have B4 := Lib.hid (B3.out.trans (Below.mono hB B3.out.size)); clear hB d3))
          have r0 := cell_of_block R4.out 0
          have r1 := cell_of_block R4.out 1
          have r2 := cell_of_block R4.out 2
          have r3 := cell_of_block R4.out 3
          have r9 := lt_of_block R4.out
          have rf := free_of_block R4.out
          have y0 := cell_of_block M4.out 0
          have y1 := cell_of_block M4.out 1
          have y2 := cell_of_block M4.out 2
          have y3 := cell_of_block M4.out 3
          have y9 := lt_of_block M4.out
          have yf := free_of_block M4.out
          go_wp2
          refine bodyPost_ret (by simp [results, Tryz.results16, go_sem,  r0, r1, r2, r3]; try rfl) rfl ?_
          exact rfT_no EQ.out ((((B4.out.setCell (by simp) _).setCell (by simp) _).setCell (by simp) _).setCell (by simp) _)
        | some x =>
          have NA := Lib.hid fun W => sNum_ok a fa x ha W
          cases hb : numL b.data.toList with
          | none =>
            have EQ := Lib.hid (HR.out.trans (rfV_b hb))
            have NB := Lib.hid fun W => sNum_no b fb hb W
            clear ha hb
            have tok1 : True := trivial
            go_upto_region 12 with (first | (go_at_call 30; have _t := tok1; clear _t tok1; refine (NA.out _).mono ?_; rintro e w3 ⟨rfl, hB⟩; have R3 := Lib.hid (Ab.block hB R2.out); have M3 := Lib.hid (Ab.block hB MM.out); have B3 := Lib.hid (B2.out.trans (Below.mono hB B2.out.size)); have d3 := (Below.cell hB (p := ⟨bq, oq + 3, none⟩) l1).trans D3R.out; have l3 := Nat.lt_of_lt_of_le l1 hB.size; clear hB d2) | (go_at_call 30; refine (NB.out _).mono ?_; rintro e w4 ⟨rfl, hB⟩; have R4 := Lib.hid (Ab.block hB R3.out); have M4 := Lib.hid (Ab.block hB M3.out); have B4 := Lib.hid (B3.out.trans (Below.mono hB B3.out.size)); clear hB d3))
            have r0 := cell_of_block R4.out 0
            have r1 := cell_of_block R4.out 1
            have r2 := cell_of_block R4.out 2
            have r3 := cell_of_block R4.out 3
            have r9 := lt_of_block R4.out
            have rf := free_of_block R4.out
            have y0 := cell_of_block M4.out 0
            have y1 := cell_of_block M4.out 1
            have y2 := cell_of_block M4.out 2
            have y3 := cell_of_block M4.out 3
            have y9 := lt_of_block M4.out
            have yf := free_of_block M4.out
            go_wp2
            refine bodyPost_ret (by simp [results, Tryz.results16, go_sem,  r0, r1, r2, r3]; try rfl) rfl ?_
            exact rfT_no EQ.out ((((B4.out.setCell (by simp) _).setCell (by simp) _).setCell (by simp) _).setCell (by simp) _)
          | some y =>
            have NB := Lib.hid fun W => sNum_ok b fb y hb W
            by_cases hx : x < 96
            · have gx : decide ((96 : Int) ≤ (x : Int)) = false := decide_eq_false (by omega)
              by_cases hy : y < 96
              · have gy : decide ((96 : Int) ≤ (y : Int)) = false := decide_eq_false (by omega)
                have wx : IntKind.i16.wrap (x : Int) = (x : Int) := i16_inR _ (by omega)
                have wy : IntKind.i16.wrap (y : Int) = (y : Int) := i16_inR _ (by omega)
                cases hk : kdO kw
                all_goals
                  rw [hk] at MM
                  have EQ := Lib.hid (HR.out.trans (by first | exact rfV_k hk | exact rfV_all hk ha hb ⟨hx, hy⟩))
                  try have kge : decide ((0 : Int) ≤ _) = true := decide_eq_true (kdO_inv hk).1.1
                  clear ha hb hx hy hk
                  have tok1 : True := trivial
                  go_upto_region 14 with (first | (go_at_call 30; have _t := tok1; clear _t tok1; refine (NA.out _).mono ?_; rintro e w3 ⟨rfl, hB⟩; have R3 := Lib.hid (Ab.block hB R2.out); have M3 := Lib.hid (Ab.block hB MM.out); have B3 := Lib.hid (B2.out.trans (Below.mono hB B2.out.size)); have d3 := (Below.cell hB (p := ⟨bq, oq + 3, none⟩) l1).trans D3R.out; have l3 := Nat.lt_of_lt_of_le l1 hB.size; clear hB d2) | (go_at_call 30; refine (NB.out _).mono ?_; rintro e w4 ⟨rfl, hB⟩; have R4 := Lib.hid (Ab.block hB R3.out); have M4 := Lib.hid (Ab.block hB M3.out); have B4 := Lib.hid (B3.out.trans (Below.mono hB B3.out.size)); clear hB d3))
                  have y0 := cell_of_block M4.out 0
                  have y1 := cell_of_block M4.out 1
                  have y2 := cell_of_block M4.out 2
                  have y3 := cell_of_block M4.out 3
                  have y9 := lt_of_block M4.out
                  have yf := free_of_block M4.out
                  go_upto_region 16 with fail
                  have M5 := Lib.hid (block_setCell (j := 3) (.int .i16 (y : Int)) (block_setCell (j := 2) (.int .i16 (x : Int)) M4.out))
                  have R5 := Lib.hid (show ((w4.setCell ⟨w1.heap.size, 2, none⟩ (.int .i16 (x : Int))).setCell ⟨w1.heap.size, 3, none⟩ (.int .i16 (y : Int))).heap[w.heap.size]? = _ from (Below.heap_setCell _ _ _ _ ne2).trans ((Below.heap_setCell _ _ _ _ ne2).trans R4.out))
                  have B5 := Lib.hid ((B4.out.setCell (p := ⟨w1.heap.size, 2, none⟩) (Nat.le_of_lt ne1) (.int .i16 (x : Int))).setCell (p := ⟨w1.heap.size, 3, none⟩) (Nat.le_of_lt ne1) (.int .i16 (y : Int)))
                  clear y0 y1 y2 y3 y9 yf
                  generalize (w4.setCell ⟨w1.heap.size, 2, none⟩ (.int .i16 (x : Int))).setCell ⟨w1.heap.size, 3, none⟩ (.int .i16 (y : Int)) = w5 at *
                  have y0 := cell_of_block M5.out 0
                  have y1 := cell_of_block M5.out 1
                  have y2 := cell_of_block M5.out 2
                  have y3 := cell_of_block M5.out 3
                  have y9 := lt_of_block M5.out
                  have yf := free_of_block M5.out
                  have r0 := cell_of_block R5.out 0
                  have r1 := cell_of_block R5.out 1
                  have r2 := cell_of_block R5.out 2
                  have r3 := cell_of_block R5.out 3
                  have r9 := lt_of_block R5.out
                  have rf := free_of_block R5.out
                  go_region_with fail
                  all_goals go_wp2
                  all_goals refine bodyPost_ret (by simp [results, Tryz.results16, go_sem,  r0, r1, r2, r3]; try rfl) rfl ?_
                  all_goals first | exact rfT_no EQ.out ((((B5.out.setCell (by simp) _).setCell (by simp) _).setCell (by simp) _).setCell (by simp) _) | exact rfT_yes EQ.out ((((B5.out.setCell (by simp) _).setCell (by simp) _).setCell (by simp) _).setCell (by simp) _) | exact rfT_no EQ.out (((((rf_drew B5.out).setCell (by simp) _).setCell (by simp) _).setCell (by simp) _).setCell (by simp) _) | exact rfT_yes EQ.out (((((rf_drew B5.out).setCell (by simp) _).setCell (by simp) _).setCell (by simp) _).setCell (by simp) _)
              · have gy : decide ((96 : Int) ≤ (y : Int)) = true := decide_eq_true (by omega)
                have EQ := Lib.hid (HR.out.trans (rfV_out ha hb (fun q => hy q.2)))
                clear ha hb hx hy
                have tok1 : True := trivial
                go_upto_region 12 with (first | (go_at_call 30; have _t := tok1; clear _t tok1; refine (NA.out _).mono ?_; rintro e w3 ⟨rfl, hB⟩; have R3 := Lib.hid (Ab.block hB R2.out); have M3 := Lib.hid (Ab.block hB MM.out); have B3 := Lib.hid (B2.out.trans (Below.mono hB B2.out.size)); have d3 := (Below.cell hB (p := ⟨bq, oq + 3, none⟩) l1).trans D3R.out; have l3 := Nat.lt_of_lt_of_le l1 hB.size; clear hB d2) | (go_at_call 30; refine (NB.out _).mono ?_; rintro e w4 ⟨rfl, hB⟩; have R4 := Lib.hid (Ab.block hB R3.out); have M4 := Lib.hid (Ab.block hB M3.out); have B4 := Lib.hid (B3.out.trans (Below.mono hB B3.out.size)); clear hB d3))
                have r0 := cell_of_block R4.out 0
                have r1 := cell_of_block R4.out 1
                have r2 := cell_of_block R4.out 2
                have r3 := cell_of_block R4.out 3
                have r9 := lt_of_block R4.out
                have rf := free_of_block R4.out
                have y0 := cell_of_block M4.out 0
                have y1 := cell_of_block M4.out 1
                have y2 := cell_of_block M4.out 2
                have y3 := cell_of_block M4.out 3
                have y9 := lt_of_block M4.out
                have yf := free_of_block M4.out
                go_wp2
                refine bodyPost_ret (by simp [results, Tryz.results16, go_sem,  r0, r1, r2, r3]; try rfl) rfl ?_
                exact rfT_no EQ.out ((((B4.out.setCell (by simp) _).setCell (by simp) _).setCell (by simp) _).setCell (by simp) _)
            · have gx : decide ((96 : Int) ≤ (x : Int)) = true := decide_eq_true (by omega)
              have EQ := Lib.hid (HR.out.trans (rfV_out ha hb (fun q => hx q.1)))
              clear ha hb hx
              have tok1 : True := trivial
              go_upto_region 12 with (first | (go_at_call 30; have _t := tok1; clear _t tok1; refine (NA.out _).mono ?_; rintro e w3 ⟨rfl, hB⟩; have R3 := Lib.hid (Ab.block hB R2.out); have M3 := Lib.hid (Ab.block hB MM.out); have B3 := Lib.hid (B2.out.trans (Below.mono hB B2.out.size)); have d3 := (Below.cell hB (p := ⟨bq, oq + 3, none⟩) l1).trans D3R.out; have l3 := Nat.lt_of_lt_of_le l1 hB.size; clear hB d2) | (go_at_call 30; refine (NB.out _).mono ?_; rintro e w4 ⟨rfl, hB⟩; have R4 := Lib.hid (Ab.block hB R3.out); have M4 := Lib.hid (Ab.block hB M3.out); have B4 := Lib.hid (B3.out.trans (Below.mono hB B3.out.size)); clear hB d3))
              have r0 := cell_of_block R4.out 0
              have r1 := cell_of_block R4.out 1
              have r2 := cell_of_block R4.out 2
              have r3 := cell_of_block R4.out 3
              have r9 := lt_of_block R4.out
              have rf := free_of_block R4.out
              have y0 := cell_of_block M4.out 0
              have y1 := cell_of_block M4.out 1
              have y2 := cell_of_block M4.out 2
              have y3 := cell_of_block M4.out 3
              have y9 := lt_of_block M4.out
              have yf := free_of_block M4.out
              go_wp2
              refine bodyPost_ret (by simp [results, Tryz.results16, go_sem,  r0, r1, r2, r3]; try rfl) rfl ?_
              exact rfT_no EQ.out ((((B4.out.setCell (by simp) _).setCell (by simp) _).setCell (by simp) _).setCell (by simp) _)
  · have EQ := Lib.hid (rfS_len h4)
    generalize pieces 32 line = ps at *
    have l4 : ((ps.length : Int) == 4) = false := by simp; omega
    clear h4 hfit hs
    go_enter Tryz.func16, Tryz.ntmps16
    go_upto_region 2 with (go_at_call 15; refine (SP.out _).mono ?_; rintro e w1 ⟨v, rfl, hO, hB⟩; obtain ⟨a1, k1, hv, hI⟩ := ownStrs_in hO; subst hv; have R1 := Lib.hid ((hB.block _ (by simp)).trans R0.out); have B1 := Lib.hid (B0.out.trans (Below.mono hB (by simp))); clear hO hB hI)
    have r0 := cell_of_block R1.out 0
    have r1 := cell_of_block R1.out 1
    have r2 := cell_of_block R1.out 2
    have r3 := cell_of_block R1.out 3
    have r9 := lt_of_block R1.out
    have rf := free_of_block R1.out
    go_wp2
    refine bodyPost_ret (by simp [results, Tryz.results16, go_sem,  r0, r1, r2, r3]; try rfl) rfl ?_
    exact rfT_no EQ.out ((((B1.out.setCell (by simp) _).setCell (by simp) _).setCell (by simp) _).setCell (by simp) _)
end Go.Proofs.YtnbijfeidgddmaaGreatDoor
