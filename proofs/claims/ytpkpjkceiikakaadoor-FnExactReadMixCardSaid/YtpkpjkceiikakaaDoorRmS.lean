/- Contract: the model's ReadMix. -/
import Derived.Test.YtpkpjkceiikakaaDoorRmM
import Derived.Test.YtpkpjkceiikakaaDoorNuS
import Derived.Test.YtpkpjkceiikakaaDoorSplS
import Derived.Test.YtpkpjkceiikakaaDoorHoles
import Derived.Deep.DeepCutAuto
namespace Go.Proofs.YtpkpjkceiikakaaDoor
open Go.ChangeShapes Go.WideShapes Go.ChangeAt Go.RowKit

theorem strsIn_at {w : World} {a : Option Addr} {zs : List ByteArray} (h : StrsIn w a zs) (h0 : 0 < zs.length) : ∃ b off, a = some ⟨b, off, none⟩ ∧ b < w.heap.size ∧ ∀ i, i < zs.length → w.cell? ⟨b, off + i, none⟩ = some (.string (zs.getD i ⟨#[]⟩)) := by
  obtain ⟨b, off, rfl, hb, _⟩ := h 0 h0
  refine ⟨b, off, rfl, hb, fun i hi => ?_⟩
  obtain ⟨b', off', e, _, hc⟩ := h i hi
  cases e
  exact hc
theorem intsIn_at {w : World} {a : Option Addr} {zs : List Int} (h : IntsIn w a zs) (h0 : 0 < zs.length) : ∃ b off, a = some ⟨b, off, none⟩ ∧ b < w.heap.size ∧ ∀ i, i < zs.length → w.cell? ⟨b, off + i, none⟩ = some (.int .i64 (zs.getD i 0)) := by
  obtain ⟨b, off, rfl, hb, _⟩ := h 0 h0
  refine ⟨b, off, rfl, hb, fun i hi => ?_⟩
  obtain ⟨b', off', e, _, hc⟩ := h i hi
  cases e
  exact hc
theorem four_ofS {ps : List ByteArray} (h : ps.length = 4) : ∃ a b c d, ps = [a, b, c, d] := by
  match ps, h with
  | [a, b, c, d], _ => exact ⟨a, b, c, d, rfl⟩
theorem mixW_no {a : ByteArray} (h : ¬ a = mixW) : (a.toList == ([109, 105, 120] : List UInt8)) = false := by
  rw [beq_eq_false_iff_ne]
  intro e
  apply h
  apply data_inj
  rw [← Lib.toList_data, e]; rfl

set_option maxRecDepth 100000 in
set_option maxHeartbeats 6400000 in
theorem sReadMix_any (s : ByteArray) (hs : s.size ≤ 1048576) (w : World) :
    Calls Tryd.prog 7 #[.string s] w fun e w' => e = .returned (rmV (rmS s)) ∧ Below w.heap.size w w' := by
  obtain ⟨i0, hi, hz0, hz1, hz2⟩ := info_parts info_i64
  have SP := Lib.hid fun W => sSplitAt_any s 32 (by omega) W
  have R0 := Lib.hid (block_alloc w (.cells #[.int .i16 0, .int .i16 0, .int .i16 0] 24))
  have B0 := Lib.hid (below_new (Below.refl w.heap.size w) (.cells #[.int .i16 0, .int .i16 0, .int .i16 0] 24))
  by_cases hn : (pieces 32 s).length = 4
  · obtain ⟨a, b, c, d, hp⟩ := four_ofS hn
    have hfit := pieces_fit 32 s
    have er := rmS_four hp
    rw [hp] at SP hfit
    have fb : b.size ≤ 1048576 := Nat.le_trans (hfit b (by simp)) hs
    have fc : c.size ≤ 1048576 := Nat.le_trans (hfit c (by simp)) hs
    have fd : d.size ≤ 1048576 := Nat.le_trans (hfit d (by simp)) hs
    have dn : ((4 : Int) != 4) = false := by decide
    clear hn hp hfit
    by_cases ha : a = mixW
    · rw [if_pos ha] at er
      have da : (a.toList == ([109, 105, 120] : List UInt8)) = true := by rw [beq_iff_eq, ha, Lib.toList_data]; rfl
      clear ha
      cases hb : numL b.data.toList with
      | none =>
        rw [er, rs3_b (fun q e => by rw [hb] at e; cases e)]
        clear er
        go_enter Tryd.func7, Tryd.ntmps7
        go_wp2_with (go_at_call 21; refine (SP.out _).mono ?_; rintro e w1 ⟨v, rfl, hO, hB⟩; obtain ⟨a1, k1, hv, hI⟩ := ownStrs_in hO; obtain ⟨b1, o1, ha1, l1, hc⟩ := strsIn_at hI (by simp); subst ha1; subst hv; have R1 := Lib.hid ((hB.block _ (by simp)).trans R0.out); have B1 := Lib.hid (B0.out.trans (Below.mono hB (by simp))); have d0 := hc 0 (by simp); have d1 := hc 1 (by simp); have d2 := hc 2 (by simp); have d3 := hc 3 (by simp); simp only [List.getD_cons_zero, List.getD_cons_succ, Nat.add_zero] at d0 d1 d2 d3; have D1 := Lib.hid d1; have D2 := Lib.hid d2; have D3 := Lib.hid d3; have L1 := Lib.hid l1; have y9 := lt_of_block R1.out; clear hO hB hI hc d1 d2 d3)
        have O2 := Lib.hid (own_none (w := w1) (B := w1.heap.size) rfl (Nat.le_refl _))
        have A2 := Lib.hid (below_new (Below.refl w1.heap.size w1) (.cells #[] 2))
        generalize Value.slice (some ⟨w1.heap.size, 0, none⟩) 0 0 = v2 at *
        generalize w1.alloc (.cells #[] 2) = w2 at *
        clear d0 l1 y9
        refine wp_loop_rounds 4 ?_
        rw [rounds_succ]
        have c0 := (A2.out.cell (p := ⟨b1, o1 + 1, none⟩) L1.out).trans D1.out
        have l0 := Nat.lt_of_lt_of_le L1.out A2.out.size
        have z0 := A2.out.size
        go_wp2_with (go_at_call 22; refine (sNum_no b fb hb _).mono ?_; rintro e w3 ⟨rfl, hB⟩; have A3 := Lib.hid (A2.out.trans (Below.mono hB A2.out.size)); clear c0 l0; have R9 := Lib.hid ((A3.out.block _ (lt_of_block R1.out)).trans R1.out); have B9 := Lib.hid (B1.out.trans (Below.mono A3.out B1.out.size)); have r0 := cell_of_block R9.out 0; have r1 := cell_of_block R9.out 1; have r2 := cell_of_block R9.out 2; have r9 := lt_of_block R9.out; have rf := free_of_block R9.out; clear hB)
        refine bodyPost_ret (by simp [results, Tryd.results7, go_sem,  r0, r1, r2]; try rfl) rfl ?_
        exact ⟨rfl, ((B9.out.setCell (by simp) _).setCell (by simp) _).setCell (by simp) _⟩
      | some x =>
        by_cases gb : 96 < x
        · rw [er, rs3_b (fun q e => by rw [hb] at e; have := Option.some.inj e; omega)]
          clear er
          have e9 : decide ((96 : Int) < (x : Int)) = true := decide_eq_true (by omega)
          go_enter Tryd.func7, Tryd.ntmps7
          go_wp2_with (go_at_call 21; refine (SP.out _).mono ?_; rintro e w1 ⟨v, rfl, hO, hB⟩; obtain ⟨a1, k1, hv, hI⟩ := ownStrs_in hO; obtain ⟨b1, o1, ha1, l1, hc⟩ := strsIn_at hI (by simp); subst ha1; subst hv; have R1 := Lib.hid ((hB.block _ (by simp)).trans R0.out); have B1 := Lib.hid (B0.out.trans (Below.mono hB (by simp))); have d0 := hc 0 (by simp); have d1 := hc 1 (by simp); have d2 := hc 2 (by simp); have d3 := hc 3 (by simp); simp only [List.getD_cons_zero, List.getD_cons_succ, Nat.add_zero] at d0 d1 d2 d3; have D1 := Lib.hid d1; have D2 := Lib.hid d2; have D3 := Lib.hid d3; have L1 := Lib.hid l1; have y9 := lt_of_block R1.out; clear hO hB hI hc d1 d2 d3)
          have O2 := Lib.hid (own_none (w := w1) (B := w1.heap.size) rfl (Nat.le_refl _))
          have A2 := Lib.hid (below_new (Below.refl w1.heap.size w1) (.cells #[] 2))
          generalize Value.slice (some ⟨w1.heap.size, 0, none⟩) 0 0 = v2 at *
          generalize w1.alloc (.cells #[] 2) = w2 at *
          clear d0 l1 y9
          refine wp_loop_rounds 4 ?_
          rw [rounds_succ]
          have c0 := (A2.out.cell (p := ⟨b1, o1 + 1, none⟩) L1.out).trans D1.out
          have l0 := Nat.lt_of_lt_of_le L1.out A2.out.size
          have z0 := A2.out.size
          go_wp2_with (go_at_call 22; refine (sNum_ok b fb x hb _).mono ?_; rintro e w3 ⟨rfl, hB⟩; have A3 := Lib.hid (A2.out.trans (Below.mono hB A2.out.size)); clear c0 l0; have R9 := Lib.hid ((A3.out.block _ (lt_of_block R1.out)).trans R1.out); have B9 := Lib.hid (B1.out.trans (Below.mono A3.out B1.out.size)); have r0 := cell_of_block R9.out 0; have r1 := cell_of_block R9.out 1; have r2 := cell_of_block R9.out 2; have r9 := lt_of_block R9.out; have rf := free_of_block R9.out; clear hB)
          refine bodyPost_ret (by simp [results, Tryd.results7, go_sem,  r0, r1, r2]; try rfl) rfl ?_
          exact ⟨rfl, ((B9.out.setCell (by simp) _).setCell (by simp) _).setCell (by simp) _⟩
        · have gb : x ≤ 96 := by omega
          cases hc : numL c.data.toList with
          | none =>
            rw [er, rs3_c (fun q e => by rw [hc] at e; cases e)]
            clear er
            go_enter Tryd.func7, Tryd.ntmps7
            go_wp2_with (go_at_call 21; refine (SP.out _).mono ?_; rintro e w1 ⟨v, rfl, hO, hB⟩; obtain ⟨a1, k1, hv, hI⟩ := ownStrs_in hO; obtain ⟨b1, o1, ha1, l1, hc⟩ := strsIn_at hI (by simp); subst ha1; subst hv; have R1 := Lib.hid ((hB.block _ (by simp)).trans R0.out); have B1 := Lib.hid (B0.out.trans (Below.mono hB (by simp))); have d0 := hc 0 (by simp); have d1 := hc 1 (by simp); have d2 := hc 2 (by simp); have d3 := hc 3 (by simp); simp only [List.getD_cons_zero, List.getD_cons_succ, Nat.add_zero] at d0 d1 d2 d3; have D1 := Lib.hid d1; have D2 := Lib.hid d2; have D3 := Lib.hid d3; have L1 := Lib.hid l1; have y9 := lt_of_block R1.out; clear hO hB hI hc d1 d2 d3)
            have O2 := Lib.hid (own_none (w := w1) (B := w1.heap.size) rfl (Nat.le_refl _))
            have A2 := Lib.hid (below_new (Below.refl w1.heap.size w1) (.cells #[] 2))
            generalize Value.slice (some ⟨w1.heap.size, 0, none⟩) 0 0 = v2 at *
            generalize w1.alloc (.cells #[] 2) = w2 at *
            clear d0 l1 y9
            refine wp_loop_rounds 4 ?_
            rw [rounds_succ]
            have c0 := (A2.out.cell (p := ⟨b1, o1 + 1, none⟩) L1.out).trans D1.out
            have l0 := Nat.lt_of_lt_of_le L1.out A2.out.size
            have z0 := A2.out.size
            have e0 : decide ((96 : Int) < (x : Int)) = false := decide_eq_false (by omega)
            go_wp2_with (first | (go_at_call 22; refine (sNum_ok b fb x hb _).mono ?_; rintro e w3 ⟨rfl, hB⟩; have A3 := Lib.hid (A2.out.trans (Below.mono hB A2.out.size)); clear c0 l0; have O3 := Lib.hid (ownInts_kept O2.out hB); clear hB) | (at_builtin; refine wpList_append_own _ rfl _ _ 49 rfl w1.heap.size 2 i0 (.int .i64 0) 1 8 Tryd.underlying49 hi hz0 hz1 hz2 rfl (by decide) _ _ _ rfl (O3.out.alloc _) ⟨w3.heap.size, 0, none⟩ 1 1 [.int .i64 (x : Int)] rfl rfl (one_new _ _ _) (fun x hx => by simp at hx; subst hx; rfl) (by unfold maxLen; simp) (by simp) (by have h := A3.out.size; simp; omega) ?_; intro v4 w4 hown hgrow _; have O4 := Lib.hid (own_push (zs := ([] : List Int)) hown); have A4 := Lib.hid (Below.grown (A3.out.alloc A3.out.size _) hgrow (by have h := A3.out.size; simp; omega) (own_lt O3.out)); clear hown hgrow))
            clear e0 z0
            rw [rounds_succ]
            have c1 := (A4.out.cell (p := ⟨b1, o1 + 2, none⟩) L1.out).trans D2.out
            have l1 := Nat.lt_of_lt_of_le L1.out A4.out.size
            have z1 := A4.out.size
            go_wp2_with (go_at_call 22; refine (sNum_no c fc hc _).mono ?_; rintro e w5 ⟨rfl, hB⟩; have A5 := Lib.hid (A4.out.trans (Below.mono hB A4.out.size)); clear c1 l1; have R9 := Lib.hid ((A5.out.block _ (lt_of_block R1.out)).trans R1.out); have B9 := Lib.hid (B1.out.trans (Below.mono A5.out B1.out.size)); have r0 := cell_of_block R9.out 0; have r1 := cell_of_block R9.out 1; have r2 := cell_of_block R9.out 2; have r9 := lt_of_block R9.out; have rf := free_of_block R9.out; clear hB)
            refine bodyPost_ret (by simp [results, Tryd.results7, go_sem,  r0, r1, r2]; try rfl) rfl ?_
            exact ⟨rfl, ((B9.out.setCell (by simp) _).setCell (by simp) _).setCell (by simp) _⟩
          | some y =>
            by_cases gc : 96 < y
            · rw [er, rs3_c (fun q e => by rw [hc] at e; have := Option.some.inj e; omega)]
              clear er
              have e9 : decide ((96 : Int) < (y : Int)) = true := decide_eq_true (by omega)
              go_enter Tryd.func7, Tryd.ntmps7
              go_wp2_with (go_at_call 21; refine (SP.out _).mono ?_; rintro e w1 ⟨v, rfl, hO, hB⟩; obtain ⟨a1, k1, hv, hI⟩ := ownStrs_in hO; obtain ⟨b1, o1, ha1, l1, hc⟩ := strsIn_at hI (by simp); subst ha1; subst hv; have R1 := Lib.hid ((hB.block _ (by simp)).trans R0.out); have B1 := Lib.hid (B0.out.trans (Below.mono hB (by simp))); have d0 := hc 0 (by simp); have d1 := hc 1 (by simp); have d2 := hc 2 (by simp); have d3 := hc 3 (by simp); simp only [List.getD_cons_zero, List.getD_cons_succ, Nat.add_zero] at d0 d1 d2 d3; have D1 := Lib.hid d1; have D2 := Lib.hid d2; have D3 := Lib.hid d3; have L1 := Lib.hid l1; have y9 := lt_of_block R1.out; clear hO hB hI hc d1 d2 d3)
              have O2 := Lib.hid (own_none (w := w1) (B := w1.heap.size) rfl (Nat.le_refl _))
              have A2 := Lib.hid (below_new (Below.refl w1.heap.size w1) (.cells #[] 2))
              generalize Value.slice (some ⟨w1.heap.size, 0, none⟩) 0 0 = v2 at *
              generalize w1.alloc (.cells #[] 2) = w2 at *
              clear d0 l1 y9
              refine wp_loop_rounds 4 ?_
              rw [rounds_succ]
              have c0 := (A2.out.cell (p := ⟨b1, o1 + 1, none⟩) L1.out).trans D1.out
              have l0 := Nat.lt_of_lt_of_le L1.out A2.out.size
              have z0 := A2.out.size
              have e0 : decide ((96 : Int) < (x : Int)) = false := decide_eq_false (by omega)
              go_wp2_with (first | (go_at_call 22; refine (sNum_ok b fb x hb _).mono ?_; rintro e w3 ⟨rfl, hB⟩; have A3 := Lib.hid (A2.out.trans (Below.mono hB A2.out.size)); clear c0 l0; have O3 := Lib.hid (ownInts_kept O2.out hB); clear hB) | (at_builtin; refine wpList_append_own _ rfl _ _ 49 rfl w1.heap.size 2 i0 (.int .i64 0) 1 8 Tryd.underlying49 hi hz0 hz1 hz2 rfl (by decide) _ _ _ rfl (O3.out.alloc _) ⟨w3.heap.size, 0, none⟩ 1 1 [.int .i64 (x : Int)] rfl rfl (one_new _ _ _) (fun x hx => by simp at hx; subst hx; rfl) (by unfold maxLen; simp) (by simp) (by have h := A3.out.size; simp; omega) ?_; intro v4 w4 hown hgrow _; have O4 := Lib.hid (own_push (zs := ([] : List Int)) hown); have A4 := Lib.hid (Below.grown (A3.out.alloc A3.out.size _) hgrow (by have h := A3.out.size; simp; omega) (own_lt O3.out)); clear hown hgrow))
              clear e0 z0
              rw [rounds_succ]
              have c1 := (A4.out.cell (p := ⟨b1, o1 + 2, none⟩) L1.out).trans D2.out
              have l1 := Nat.lt_of_lt_of_le L1.out A4.out.size
              have z1 := A4.out.size
              go_wp2_with (go_at_call 22; refine (sNum_ok c fc y hc _).mono ?_; rintro e w5 ⟨rfl, hB⟩; have A5 := Lib.hid (A4.out.trans (Below.mono hB A4.out.size)); clear c1 l1; have R9 := Lib.hid ((A5.out.block _ (lt_of_block R1.out)).trans R1.out); have B9 := Lib.hid (B1.out.trans (Below.mono A5.out B1.out.size)); have r0 := cell_of_block R9.out 0; have r1 := cell_of_block R9.out 1; have r2 := cell_of_block R9.out 2; have r9 := lt_of_block R9.out; have rf := free_of_block R9.out; clear hB)
              refine bodyPost_ret (by simp [results, Tryd.results7, go_sem,  r0, r1, r2]; try rfl) rfl ?_
              exact ⟨rfl, ((B9.out.setCell (by simp) _).setCell (by simp) _).setCell (by simp) _⟩
            · have gc : y ≤ 96 := by omega
              cases hd : numL d.data.toList with
              | none =>
                rw [er, rs3_d (fun q e => by rw [hd] at e; cases e)]
                clear er
                go_enter Tryd.func7, Tryd.ntmps7
                go_wp2_with (go_at_call 21; refine (SP.out _).mono ?_; rintro e w1 ⟨v, rfl, hO, hB⟩; obtain ⟨a1, k1, hv, hI⟩ := ownStrs_in hO; obtain ⟨b1, o1, ha1, l1, hc⟩ := strsIn_at hI (by simp); subst ha1; subst hv; have R1 := Lib.hid ((hB.block _ (by simp)).trans R0.out); have B1 := Lib.hid (B0.out.trans (Below.mono hB (by simp))); have d0 := hc 0 (by simp); have d1 := hc 1 (by simp); have d2 := hc 2 (by simp); have d3 := hc 3 (by simp); simp only [List.getD_cons_zero, List.getD_cons_succ, Nat.add_zero] at d0 d1 d2 d3; have D1 := Lib.hid d1; have D2 := Lib.hid d2; have D3 := Lib.hid d3; have L1 := Lib.hid l1; have y9 := lt_of_block R1.out; clear hO hB hI hc d1 d2 d3)
                have O2 := Lib.hid (own_none (w := w1) (B := w1.heap.size) rfl (Nat.le_refl _))
                have A2 := Lib.hid (below_new (Below.refl w1.heap.size w1) (.cells #[] 2))
                generalize Value.slice (some ⟨w1.heap.size, 0, none⟩) 0 0 = v2 at *
                generalize w1.alloc (.cells #[] 2) = w2 at *
                clear d0 l1 y9
                refine wp_loop_rounds 4 ?_
                rw [rounds_succ]
                have c0 := (A2.out.cell (p := ⟨b1, o1 + 1, none⟩) L1.out).trans D1.out
                have l0 := Nat.lt_of_lt_of_le L1.out A2.out.size
                have z0 := A2.out.size
                have e0 : decide ((96 : Int) < (x : Int)) = false := decide_eq_false (by omega)
                go_wp2_with (first | (go_at_call 22; refine (sNum_ok b fb x hb _).mono ?_; rintro e w3 ⟨rfl, hB⟩; have A3 := Lib.hid (A2.out.trans (Below.mono hB A2.out.size)); clear c0 l0; have O3 := Lib.hid (ownInts_kept O2.out hB); clear hB) | (at_builtin; refine wpList_append_own _ rfl _ _ 49 rfl w1.heap.size 2 i0 (.int .i64 0) 1 8 Tryd.underlying49 hi hz0 hz1 hz2 rfl (by decide) _ _ _ rfl (O3.out.alloc _) ⟨w3.heap.size, 0, none⟩ 1 1 [.int .i64 (x : Int)] rfl rfl (one_new _ _ _) (fun x hx => by simp at hx; subst hx; rfl) (by unfold maxLen; simp) (by simp) (by have h := A3.out.size; simp; omega) ?_; intro v4 w4 hown hgrow _; have O4 := Lib.hid (own_push (zs := ([] : List Int)) hown); have A4 := Lib.hid (Below.grown (A3.out.alloc A3.out.size _) hgrow (by have h := A3.out.size; simp; omega) (own_lt O3.out)); clear hown hgrow))
                clear e0 z0
                rw [rounds_succ]
                have c1 := (A4.out.cell (p := ⟨b1, o1 + 2, none⟩) L1.out).trans D2.out
                have l1 := Nat.lt_of_lt_of_le L1.out A4.out.size
                have z1 := A4.out.size
                have e1 : decide ((96 : Int) < (y : Int)) = false := decide_eq_false (by omega)
                go_wp2_with (first | (go_at_call 22; refine (sNum_ok c fc y hc _).mono ?_; rintro e w5 ⟨rfl, hB⟩; have A5 := Lib.hid (A4.out.trans (Below.mono hB A4.out.size)); clear c1 l1; have O5 := Lib.hid (ownInts_kept O4.out hB); clear hB) | (at_builtin; refine wpList_append_own _ rfl _ _ 49 rfl w1.heap.size 2 i0 (.int .i64 0) 1 8 Tryd.underlying49 hi hz0 hz1 hz2 rfl (by decide) _ _ _ rfl (O5.out.alloc _) ⟨w5.heap.size, 0, none⟩ 1 1 [.int .i64 (y : Int)] rfl rfl (one_new _ _ _) (fun x hx => by simp at hx; subst hx; rfl) (by unfold maxLen; simp) (by simp) (by have h := A5.out.size; simp; omega) ?_; intro v6 w6 hown hgrow _; have O6 := Lib.hid (own_push (zs := [(x : Int)]) hown); have A6 := Lib.hid (Below.grown (A5.out.alloc A5.out.size _) hgrow (by have h := A5.out.size; simp; omega) (own_lt O5.out)); clear hown hgrow))
                clear e1 z1
                rw [rounds_succ]
                have c2 := (A6.out.cell (p := ⟨b1, o1 + 3, none⟩) L1.out).trans D3.out
                have l2 := Nat.lt_of_lt_of_le L1.out A6.out.size
                have z2 := A6.out.size
                go_wp2_with (go_at_call 22; refine (sNum_no d fd hd _).mono ?_; rintro e w7 ⟨rfl, hB⟩; have A7 := Lib.hid (A6.out.trans (Below.mono hB A6.out.size)); clear c2 l2; have R9 := Lib.hid ((A7.out.block _ (lt_of_block R1.out)).trans R1.out); have B9 := Lib.hid (B1.out.trans (Below.mono A7.out B1.out.size)); have r0 := cell_of_block R9.out 0; have r1 := cell_of_block R9.out 1; have r2 := cell_of_block R9.out 2; have r9 := lt_of_block R9.out; have rf := free_of_block R9.out; clear hB)
                refine bodyPost_ret (by simp [results, Tryd.results7, go_sem,  r0, r1, r2]; try rfl) rfl ?_
                exact ⟨rfl, ((B9.out.setCell (by simp) _).setCell (by simp) _).setCell (by simp) _⟩
              | some z =>
                by_cases gd : 96 < z
                · rw [er, rs3_d (fun q e => by rw [hd] at e; have := Option.some.inj e; omega)]
                  clear er
                  have e9 : decide ((96 : Int) < (z : Int)) = true := decide_eq_true (by omega)
                  go_enter Tryd.func7, Tryd.ntmps7
                  go_wp2_with (go_at_call 21; refine (SP.out _).mono ?_; rintro e w1 ⟨v, rfl, hO, hB⟩; obtain ⟨a1, k1, hv, hI⟩ := ownStrs_in hO; obtain ⟨b1, o1, ha1, l1, hc⟩ := strsIn_at hI (by simp); subst ha1; subst hv; have R1 := Lib.hid ((hB.block _ (by simp)).trans R0.out); have B1 := Lib.hid (B0.out.trans (Below.mono hB (by simp))); have d0 := hc 0 (by simp); have d1 := hc 1 (by simp); have d2 := hc 2 (by simp); have d3 := hc 3 (by simp); simp only [List.getD_cons_zero, List.getD_cons_succ, Nat.add_zero] at d0 d1 d2 d3; have D1 := Lib.hid d1; have D2 := Lib.hid d2; have D3 := Lib.hid d3; have L1 := Lib.hid l1; have y9 := lt_of_block R1.out; clear hO hB hI hc d1 d2 d3)
                  have O2 := Lib.hid (own_none (w := w1) (B := w1.heap.size) rfl (Nat.le_refl _))
                  have A2 := Lib.hid (below_new (Below.refl w1.heap.size w1) (.cells #[] 2))
                  generalize Value.slice (some ⟨w1.heap.size, 0, none⟩) 0 0 = v2 at *
                  generalize w1.alloc (.cells #[] 2) = w2 at *
                  clear d0 l1 y9
                  refine wp_loop_rounds 4 ?_
                  rw [rounds_succ]
                  have c0 := (A2.out.cell (p := ⟨b1, o1 + 1, none⟩) L1.out).trans D1.out
                  have l0 := Nat.lt_of_lt_of_le L1.out A2.out.size
                  have z0 := A2.out.size
                  have e0 : decide ((96 : Int) < (x : Int)) = false := decide_eq_false (by omega)
                  go_wp2_with (first | (go_at_call 22; refine (sNum_ok b fb x hb _).mono ?_; rintro e w3 ⟨rfl, hB⟩; have A3 := Lib.hid (A2.out.trans (Below.mono hB A2.out.size)); clear c0 l0; have O3 := Lib.hid (ownInts_kept O2.out hB); clear hB) | (at_builtin; refine wpList_append_own _ rfl _ _ 49 rfl w1.heap.size 2 i0 (.int .i64 0) 1 8 Tryd.underlying49 hi hz0 hz1 hz2 rfl (by decide) _ _ _ rfl (O3.out.alloc _) ⟨w3.heap.size, 0, none⟩ 1 1 [.int .i64 (x : Int)] rfl rfl (one_new _ _ _) (fun x hx => by simp at hx; subst hx; rfl) (by unfold maxLen; simp) (by simp) (by have h := A3.out.size; simp; omega) ?_; intro v4 w4 hown hgrow _; have O4 := Lib.hid (own_push (zs := ([] : List Int)) hown); have A4 := Lib.hid (Below.grown (A3.out.alloc A3.out.size _) hgrow (by have h := A3.out.size; simp; omega) (own_lt O3.out)); clear hown hgrow))
                  clear e0 z0
                  rw [rounds_succ]
                  have c1 := (A4.out.cell (p := ⟨b1, o1 + 2, none⟩) L1.out).trans D2.out
                  have l1 := Nat.lt_of_lt_of_le L1.out A4.out.size
                  have z1 := A4.out.size
                  have e1 : decide ((96 : Int) < (y : Int)) = false := decide_eq_false (by omega)
                  go_wp2_with (first | (go_at_call 22; refine (sNum_ok c fc y hc _).mono ?_; rintro e w5 ⟨rfl, hB⟩; have A5 := Lib.hid (A4.out.trans (Below.mono hB A4.out.size)); clear c1 l1; have O5 := Lib.hid (ownInts_kept O4.out hB); clear hB) | (at_builtin; refine wpList_append_own _ rfl _ _ 49 rfl w1.heap.size 2 i0 (.int .i64 0) 1 8 Tryd.underlying49 hi hz0 hz1 hz2 rfl (by decide) _ _ _ rfl (O5.out.alloc _) ⟨w5.heap.size, 0, none⟩ 1 1 [.int .i64 (y : Int)] rfl rfl (one_new _ _ _) (fun x hx => by simp at hx; subst hx; rfl) (by unfold maxLen; simp) (by simp) (by have h := A5.out.size; simp; omega) ?_; intro v6 w6 hown hgrow _; have O6 := Lib.hid (own_push (zs := [(x : Int)]) hown); have A6 := Lib.hid (Below.grown (A5.out.alloc A5.out.size _) hgrow (by have h := A5.out.size; simp; omega) (own_lt O5.out)); clear hown hgrow))
                  clear e1 z1
                  rw [rounds_succ]
                  have c2 := (A6.out.cell (p := ⟨b1, o1 + 3, none⟩) L1.out).trans D3.out
                  have l2 := Nat.lt_of_lt_of_le L1.out A6.out.size
                  have z2 := A6.out.size
                  go_wp2_with (go_at_call 22; refine (sNum_ok d fd z hd _).mono ?_; rintro e w7 ⟨rfl, hB⟩; have A7 := Lib.hid (A6.out.trans (Below.mono hB A6.out.size)); clear c2 l2; have R9 := Lib.hid ((A7.out.block _ (lt_of_block R1.out)).trans R1.out); have B9 := Lib.hid (B1.out.trans (Below.mono A7.out B1.out.size)); have r0 := cell_of_block R9.out 0; have r1 := cell_of_block R9.out 1; have r2 := cell_of_block R9.out 2; have r9 := lt_of_block R9.out; have rf := free_of_block R9.out; clear hB)
                  refine bodyPost_ret (by simp [results, Tryd.results7, go_sem,  r0, r1, r2]; try rfl) rfl ?_
                  exact ⟨rfl, ((B9.out.setCell (by simp) _).setCell (by simp) _).setCell (by simp) _⟩
                · have gd : z ≤ 96 := by omega
                  rw [rs3_all hb hc hd gb gc gd] at er
                  cases hk : mixOk (x : Int) (y : Int) (z : Int)
                  · rw [hk] at er
                    rw [er, if_neg (by simp)]
                    clear er
                    go_enter Tryd.func7, Tryd.ntmps7
                    go_wp2_with (go_at_call 21; refine (SP.out _).mono ?_; rintro e w1 ⟨v, rfl, hO, hB⟩; obtain ⟨a1, k1, hv, hI⟩ := ownStrs_in hO; obtain ⟨b1, o1, ha1, l1, hc⟩ := strsIn_at hI (by simp); subst ha1; subst hv; have R1 := Lib.hid ((hB.block _ (by simp)).trans R0.out); have B1 := Lib.hid (B0.out.trans (Below.mono hB (by simp))); have d0 := hc 0 (by simp); have d1 := hc 1 (by simp); have d2 := hc 2 (by simp); have d3 := hc 3 (by simp); simp only [List.getD_cons_zero, List.getD_cons_succ, Nat.add_zero] at d0 d1 d2 d3; have D1 := Lib.hid d1; have D2 := Lib.hid d2; have D3 := Lib.hid d3; have L1 := Lib.hid l1; have y9 := lt_of_block R1.out; clear hO hB hI hc d1 d2 d3)
                    have O2 := Lib.hid (own_none (w := w1) (B := w1.heap.size) rfl (Nat.le_refl _))
                    have A2 := Lib.hid (below_new (Below.refl w1.heap.size w1) (.cells #[] 2))
                    generalize Value.slice (some ⟨w1.heap.size, 0, none⟩) 0 0 = v2 at *
                    generalize w1.alloc (.cells #[] 2) = w2 at *
                    clear d0 l1 y9
                    refine wp_loop_rounds 4 ?_
                    rw [rounds_succ]
                    have c0 := (A2.out.cell (p := ⟨b1, o1 + 1, none⟩) L1.out).trans D1.out
                    have l0 := Nat.lt_of_lt_of_le L1.out A2.out.size
                    have z0 := A2.out.size
                    have e0 : decide ((96 : Int) < (x : Int)) = false := decide_eq_false (by omega)
                    go_wp2_with (first | (go_at_call 22; refine (sNum_ok b fb x hb _).mono ?_; rintro e w3 ⟨rfl, hB⟩; have A3 := Lib.hid (A2.out.trans (Below.mono hB A2.out.size)); clear c0 l0; have O3 := Lib.hid (ownInts_kept O2.out hB); clear hB) | (at_builtin; refine wpList_append_own _ rfl _ _ 49 rfl w1.heap.size 2 i0 (.int .i64 0) 1 8 Tryd.underlying49 hi hz0 hz1 hz2 rfl (by decide) _ _ _ rfl (O3.out.alloc _) ⟨w3.heap.size, 0, none⟩ 1 1 [.int .i64 (x : Int)] rfl rfl (one_new _ _ _) (fun x hx => by simp at hx; subst hx; rfl) (by unfold maxLen; simp) (by simp) (by have h := A3.out.size; simp; omega) ?_; intro v4 w4 hown hgrow _; have O4 := Lib.hid (own_push (zs := ([] : List Int)) hown); have A4 := Lib.hid (Below.grown (A3.out.alloc A3.out.size _) hgrow (by have h := A3.out.size; simp; omega) (own_lt O3.out)); clear hown hgrow))
                    clear e0 z0
                    rw [rounds_succ]
                    have c1 := (A4.out.cell (p := ⟨b1, o1 + 2, none⟩) L1.out).trans D2.out
                    have l1 := Nat.lt_of_lt_of_le L1.out A4.out.size
                    have z1 := A4.out.size
                    have e1 : decide ((96 : Int) < (y : Int)) = false := decide_eq_false (by omega)
                    go_wp2_with (first | (go_at_call 22; refine (sNum_ok c fc y hc _).mono ?_; rintro e w5 ⟨rfl, hB⟩; have A5 := Lib.hid (A4.out.trans (Below.mono hB A4.out.size)); clear c1 l1; have O5 := Lib.hid (ownInts_kept O4.out hB); clear hB) | (at_builtin; refine wpList_append_own _ rfl _ _ 49 rfl w1.heap.size 2 i0 (.int .i64 0) 1 8 Tryd.underlying49 hi hz0 hz1 hz2 rfl (by decide) _ _ _ rfl (O5.out.alloc _) ⟨w5.heap.size, 0, none⟩ 1 1 [.int .i64 (y : Int)] rfl rfl (one_new _ _ _) (fun x hx => by simp at hx; subst hx; rfl) (by unfold maxLen; simp) (by simp) (by have h := A5.out.size; simp; omega) ?_; intro v6 w6 hown hgrow _; have O6 := Lib.hid (own_push (zs := [(x : Int)]) hown); have A6 := Lib.hid (Below.grown (A5.out.alloc A5.out.size _) hgrow (by have h := A5.out.size; simp; omega) (own_lt O5.out)); clear hown hgrow))
                    clear e1 z1
                    rw [rounds_succ]
                    have c2 := (A6.out.cell (p := ⟨b1, o1 + 3, none⟩) L1.out).trans D3.out
                    have l2 := Nat.lt_of_lt_of_le L1.out A6.out.size
                    have z2 := A6.out.size
                    have e2 : decide ((96 : Int) < (z : Int)) = false := decide_eq_false (by omega)
                    go_wp2_with (first | (go_at_call 22; refine (sNum_ok d fd z hd _).mono ?_; rintro e w7 ⟨rfl, hB⟩; have A7 := Lib.hid (A6.out.trans (Below.mono hB A6.out.size)); clear c2 l2; have O7 := Lib.hid (ownInts_kept O6.out hB); clear hB) | (at_builtin; refine wpList_append_own _ rfl _ _ 49 rfl w1.heap.size 2 i0 (.int .i64 0) 1 8 Tryd.underlying49 hi hz0 hz1 hz2 rfl (by decide) _ _ _ rfl (O7.out.alloc _) ⟨w7.heap.size, 0, none⟩ 1 1 [.int .i64 (z : Int)] rfl rfl (one_new _ _ _) (fun x hx => by simp at hx; subst hx; rfl) (by unfold maxLen; simp) (by simp) (by have h := A7.out.size; simp; omega) ?_; intro v8 w8 hown hgrow _; have O8 := Lib.hid (own_push (zs := [(x : Int), (y : Int)]) hown); have A8 := Lib.hid (Below.grown (A7.out.alloc A7.out.size _) hgrow (by have h := A7.out.size; simp; omega) (own_lt O7.out)); clear hown hgrow))
                    clear e2 z2
                    rw [rounds_succ]
                    go_wp2_with fail
                    obtain ⟨a8, k8, hv, hI⟩ := ownInts_in O8.out
                    obtain ⟨b2, o2, ha8, l2, hc⟩ := intsIn_at hI (by simp)
                    subst ha8
                    subst hv
                    have C0 := Lib.hid (hc 0 (by simp))
                    have C1 := Lib.hid (hc 1 (by simp))
                    have C2 := Lib.hid (hc 2 (by simp))
                    simp only [List.nil_append, List.cons_append, List.getD_cons_zero, List.getD_cons_succ, Nat.add_zero] at C0 C1 C2
                    clear hc hI
                    have x0 : IntKind.i16.wrap (x : Int) = (x : Int) := i16_in _ (by omega)
                    have x1 : IntKind.i16.wrap (y : Int) = (y : Int) := i16_in _ (by omega)
                    have x2 : IntKind.i16.wrap (z : Int) = (z : Int) := i16_in _ (by omega)
                    refine wp_region_at 13 0 (.cells #[.int .i16 0, .int .i16 0, .int .i16 0] 24) (.cells #[.int .i16 (x : Int), .int .i16 (y : Int), .int .i16 (z : Int)] 24) (by kernel_rfl) rfl rfl rfl (by kernel_rfl) rfl rfl (fun _ _ => by kernel_rfl) ?_
                    simp only [Nat.reduceAdd, List.take_succ_cons, List.take_zero, List.drop_succ_cons, List.drop_zero]
                    intro u1 h1
                    have c0 := (h1.cell (p := ⟨b2, o2, none⟩) l2).trans C0.out
                    have c1 := (h1.cell (p := ⟨b2, o2 + 1, none⟩) l2).trans C1.out
                    have c2 := (h1.cell (p := ⟨b2, o2 + 2, none⟩) l2).trans C2.out
                    have l3 := Nat.lt_of_lt_of_le l2 h1.size
                    have hbw := cell_bw
                    repeat (go_big_quiet_step (fail))
                    refine wpQuiet_nil ?_
                    intro b hb9 u2 h2
                    refine wpQuiet_nil ?_
                    refine ⟨?_, ?_⟩
                    · intro u3 h3 hb3
                      have f0 := cell_of_block hb3
                      have f1 := free_of_block hb3
                      go_simp
                      exact ⟨((h3.setCell _ hb9).setCell _ hb9).setCell _ hb9, block_setCell _ (block_setCell _ (block_setCell _ hb3))⟩
                    intro u5 h5
                    simp only [Act.put, List.setIfInBounds_toArray, List.set_cons_succ, List.set_cons_zero]
                    repeat (go_big_quiet_step (fail))
                    refine wpQuiet_nil ?_
                    intro u6 h6 hb6
                    have A9 := Lib.hid (A8.out.trans (Below.mono h6 A8.out.size))
                    have HB := Lib.hid hb6
                    have hbl : w.heap.size < b := by have h := lt_of_block R1.out; have h2 := A8.out.size; omega
                    clear h1 c0 c1 c2 l3 h2 h5 h6 hb9 hb6 C0 C1 C2 x0 x1 x2
                    clear u5 u2 u1
                    have V := Lib.hid fun W h0 h1 h2 => sOkMix_any (x : Int) (y : Int) (z : Int) ⟨by omega, by omega⟩ ⟨by omega, by omega⟩ ⟨by omega, by omega⟩ b 0 W h0 h1 h2
                    rw [hk] at V
                    go_wp2_with (go_at_call 23; refine Calls.mono (V.out _ ?_ ?_ ?_) ?_; exact cell_of_block HB.out 0; exact cell_of_block HB.out 1; exact cell_of_block HB.out 2; rintro e w20 ⟨rfl, hB⟩; have Y9 := Lib.hid (Ab.block hB HB.out); have A10 := Lib.hid (A9.out.trans (Below.mono hB A9.out.size)); have R9 := Lib.hid ((A10.out.block _ (lt_of_block R1.out)).trans R1.out); have B9 := Lib.hid (B1.out.trans (Below.mono A10.out B1.out.size)); have r0 := cell_of_block R9.out 0; have r1 := cell_of_block R9.out 1; have r2 := cell_of_block R9.out 2; have r9 := lt_of_block R9.out; have rf := free_of_block R9.out; have y0 := cell_of_block Y9.out 0; have y1 := cell_of_block Y9.out 1; have y2 := cell_of_block Y9.out 2; have y9 := lt_of_block Y9.out; clear hB)
                    refine bodyPost_ret (by simp [results, Tryd.results7, go_sem,  r0, r1, r2]; try rfl) rfl ?_
                    exact ⟨rfl, ((B9.out.setCell (by simp) _).setCell (by simp) _).setCell (by simp) _⟩
                  · rw [hk] at er
                    rw [er, if_pos rfl]
                    clear er
                    go_enter Tryd.func7, Tryd.ntmps7
                    go_wp2_with (go_at_call 21; refine (SP.out _).mono ?_; rintro e w1 ⟨v, rfl, hO, hB⟩; obtain ⟨a1, k1, hv, hI⟩ := ownStrs_in hO; obtain ⟨b1, o1, ha1, l1, hc⟩ := strsIn_at hI (by simp); subst ha1; subst hv; have R1 := Lib.hid ((hB.block _ (by simp)).trans R0.out); have B1 := Lib.hid (B0.out.trans (Below.mono hB (by simp))); have d0 := hc 0 (by simp); have d1 := hc 1 (by simp); have d2 := hc 2 (by simp); have d3 := hc 3 (by simp); simp only [List.getD_cons_zero, List.getD_cons_succ, Nat.add_zero] at d0 d1 d2 d3; have D1 := Lib.hid d1; have D2 := Lib.hid d2; have D3 := Lib.hid d3; have L1 := Lib.hid l1; have y9 := lt_of_block R1.out; clear hO hB hI hc d1 d2 d3)
                    have O2 := Lib.hid (own_none (w := w1) (B := w1.heap.size) rfl (Nat.le_refl _))
                    have A2 := Lib.hid (below_new (Below.refl w1.heap.size w1) (.cells #[] 2))
                    generalize Value.slice (some ⟨w1.heap.size, 0, none⟩) 0 0 = v2 at *
                    generalize w1.alloc (.cells #[] 2) = w2 at *
                    clear d0 l1 y9
                    refine wp_loop_rounds 4 ?_
                    rw [rounds_succ]
                    have c0 := (A2.out.cell (p := ⟨b1, o1 + 1, none⟩) L1.out).trans D1.out
                    have l0 := Nat.lt_of_lt_of_le L1.out A2.out.size
                    have z0 := A2.out.size
                    have e0 : decide ((96 : Int) < (x : Int)) = false := decide_eq_false (by omega)
                    go_wp2_with (first | (go_at_call 22; refine (sNum_ok b fb x hb _).mono ?_; rintro e w3 ⟨rfl, hB⟩; have A3 := Lib.hid (A2.out.trans (Below.mono hB A2.out.size)); clear c0 l0; have O3 := Lib.hid (ownInts_kept O2.out hB); clear hB) | (at_builtin; refine wpList_append_own _ rfl _ _ 49 rfl w1.heap.size 2 i0 (.int .i64 0) 1 8 Tryd.underlying49 hi hz0 hz1 hz2 rfl (by decide) _ _ _ rfl (O3.out.alloc _) ⟨w3.heap.size, 0, none⟩ 1 1 [.int .i64 (x : Int)] rfl rfl (one_new _ _ _) (fun x hx => by simp at hx; subst hx; rfl) (by unfold maxLen; simp) (by simp) (by have h := A3.out.size; simp; omega) ?_; intro v4 w4 hown hgrow _; have O4 := Lib.hid (own_push (zs := ([] : List Int)) hown); have A4 := Lib.hid (Below.grown (A3.out.alloc A3.out.size _) hgrow (by have h := A3.out.size; simp; omega) (own_lt O3.out)); clear hown hgrow))
                    clear e0 z0
                    rw [rounds_succ]
                    have c1 := (A4.out.cell (p := ⟨b1, o1 + 2, none⟩) L1.out).trans D2.out
                    have l1 := Nat.lt_of_lt_of_le L1.out A4.out.size
                    have z1 := A4.out.size
                    have e1 : decide ((96 : Int) < (y : Int)) = false := decide_eq_false (by omega)
                    go_wp2_with (first | (go_at_call 22; refine (sNum_ok c fc y hc _).mono ?_; rintro e w5 ⟨rfl, hB⟩; have A5 := Lib.hid (A4.out.trans (Below.mono hB A4.out.size)); clear c1 l1; have O5 := Lib.hid (ownInts_kept O4.out hB); clear hB) | (at_builtin; refine wpList_append_own _ rfl _ _ 49 rfl w1.heap.size 2 i0 (.int .i64 0) 1 8 Tryd.underlying49 hi hz0 hz1 hz2 rfl (by decide) _ _ _ rfl (O5.out.alloc _) ⟨w5.heap.size, 0, none⟩ 1 1 [.int .i64 (y : Int)] rfl rfl (one_new _ _ _) (fun x hx => by simp at hx; subst hx; rfl) (by unfold maxLen; simp) (by simp) (by have h := A5.out.size; simp; omega) ?_; intro v6 w6 hown hgrow _; have O6 := Lib.hid (own_push (zs := [(x : Int)]) hown); have A6 := Lib.hid (Below.grown (A5.out.alloc A5.out.size _) hgrow (by have h := A5.out.size; simp; omega) (own_lt O5.out)); clear hown hgrow))
                    clear e1 z1
                    rw [rounds_succ]
                    have c2 := (A6.out.cell (p := ⟨b1, o1 + 3, none⟩) L1.out).trans D3.out
                    have l2 := Nat.lt_of_lt_of_le L1.out A6.out.size
                    have z2 := A6.out.size
                    have e2 : decide ((96 : Int) < (z : Int)) = false := decide_eq_false (by omega)
                    go_wp2_with (first | (go_at_call 22; refine (sNum_ok d fd z hd _).mono ?_; rintro e w7 ⟨rfl, hB⟩; have A7 := Lib.hid (A6.out.trans (Below.mono hB A6.out.size)); clear c2 l2; have O7 := Lib.hid (ownInts_kept O6.out hB); clear hB) | (at_builtin; refine wpList_append_own _ rfl _ _ 49 rfl w1.heap.size 2 i0 (.int .i64 0) 1 8 Tryd.underlying49 hi hz0 hz1 hz2 rfl (by decide) _ _ _ rfl (O7.out.alloc _) ⟨w7.heap.size, 0, none⟩ 1 1 [.int .i64 (z : Int)] rfl rfl (one_new _ _ _) (fun x hx => by simp at hx; subst hx; rfl) (by unfold maxLen; simp) (by simp) (by have h := A7.out.size; simp; omega) ?_; intro v8 w8 hown hgrow _; have O8 := Lib.hid (own_push (zs := [(x : Int), (y : Int)]) hown); have A8 := Lib.hid (Below.grown (A7.out.alloc A7.out.size _) hgrow (by have h := A7.out.size; simp; omega) (own_lt O7.out)); clear hown hgrow))
                    clear e2 z2
                    rw [rounds_succ]
                    go_wp2_with fail
                    obtain ⟨a8, k8, hv, hI⟩ := ownInts_in O8.out
                    obtain ⟨b2, o2, ha8, l2, hc⟩ := intsIn_at hI (by simp)
                    subst ha8
                    subst hv
                    have C0 := Lib.hid (hc 0 (by simp))
                    have C1 := Lib.hid (hc 1 (by simp))
                    have C2 := Lib.hid (hc 2 (by simp))
                    simp only [List.nil_append, List.cons_append, List.getD_cons_zero, List.getD_cons_succ, Nat.add_zero] at C0 C1 C2
                    clear hc hI
                    have x0 : IntKind.i16.wrap (x : Int) = (x : Int) := i16_in _ (by omega)
                    have x1 : IntKind.i16.wrap (y : Int) = (y : Int) := i16_in _ (by omega)
                    have x2 : IntKind.i16.wrap (z : Int) = (z : Int) := i16_in _ (by omega)
                    refine wp_region_at 13 0 (.cells #[.int .i16 0, .int .i16 0, .int .i16 0] 24) (.cells #[.int .i16 (x : Int), .int .i16 (y : Int), .int .i16 (z : Int)] 24) (by kernel_rfl) rfl rfl rfl (by kernel_rfl) rfl rfl (fun _ _ => by kernel_rfl) ?_
                    simp only [Nat.reduceAdd, List.take_succ_cons, List.take_zero, List.drop_succ_cons, List.drop_zero]
                    intro u1 h1
                    have c0 := (h1.cell (p := ⟨b2, o2, none⟩) l2).trans C0.out
                    have c1 := (h1.cell (p := ⟨b2, o2 + 1, none⟩) l2).trans C1.out
                    have c2 := (h1.cell (p := ⟨b2, o2 + 2, none⟩) l2).trans C2.out
                    have l3 := Nat.lt_of_lt_of_le l2 h1.size
                    have hbw := cell_bw
                    repeat (go_big_quiet_step (fail))
                    refine wpQuiet_nil ?_
                    intro b hb9 u2 h2
                    refine wpQuiet_nil ?_
                    refine ⟨?_, ?_⟩
                    · intro u3 h3 hb3
                      have f0 := cell_of_block hb3
                      have f1 := free_of_block hb3
                      go_simp
                      exact ⟨((h3.setCell _ hb9).setCell _ hb9).setCell _ hb9, block_setCell _ (block_setCell _ (block_setCell _ hb3))⟩
                    intro u5 h5
                    simp only [Act.put, List.setIfInBounds_toArray, List.set_cons_succ, List.set_cons_zero]
                    repeat (go_big_quiet_step (fail))
                    refine wpQuiet_nil ?_
                    intro u6 h6 hb6
                    have A9 := Lib.hid (A8.out.trans (Below.mono h6 A8.out.size))
                    have HB := Lib.hid hb6
                    have hbl : w.heap.size < b := by have h := lt_of_block R1.out; have h2 := A8.out.size; omega
                    clear h1 c0 c1 c2 l3 h2 h5 h6 hb9 hb6 C0 C1 C2 x0 x1 x2
                    clear u5 u2 u1
                    have V := Lib.hid fun W h0 h1 h2 => sOkMix_any (x : Int) (y : Int) (z : Int) ⟨by omega, by omega⟩ ⟨by omega, by omega⟩ ⟨by omega, by omega⟩ b 0 W h0 h1 h2
                    rw [hk] at V
                    go_wp2_with (go_at_call 23; refine Calls.mono (V.out _ ?_ ?_ ?_) ?_; exact cell_of_block HB.out 0; exact cell_of_block HB.out 1; exact cell_of_block HB.out 2; rintro e w20 ⟨rfl, hB⟩; have Y9 := Lib.hid (Ab.block hB HB.out); have A10 := Lib.hid (A9.out.trans (Below.mono hB A9.out.size)); have R9 := Lib.hid ((A10.out.block _ (lt_of_block R1.out)).trans R1.out); have B9 := Lib.hid (B1.out.trans (Below.mono A10.out B1.out.size)); have r0 := cell_of_block R9.out 0; have r1 := cell_of_block R9.out 1; have r2 := cell_of_block R9.out 2; have r9 := lt_of_block R9.out; have rf := free_of_block R9.out; have y0 := cell_of_block Y9.out 0; have y1 := cell_of_block Y9.out 1; have y2 := cell_of_block Y9.out 2; have y9 := lt_of_block Y9.out; clear hB)
                    refine bodyPost_ret (by simp [results, Tryd.results7, go_sem,  r0, r1, r2]; try rfl) rfl ?_
                    exact ⟨rfl, ((B9.out.setCell (by simp) _).setCell (by simp) _).setCell (by simp) _⟩
    · rw [if_neg ha] at er
      rw [er]
      have da := mixW_no ha
      clear er ha
      go_enter Tryd.func7, Tryd.ntmps7
      go_wp2_with (go_at_call 21; refine (SP.out _).mono ?_; rintro e w1 ⟨v, rfl, hO, hB⟩; obtain ⟨a1, k1, hv, hI⟩ := ownStrs_in hO; obtain ⟨b1, o1, ha1, l1, hc⟩ := strsIn_at hI (by simp); subst ha1; subst hv; have R1 := Lib.hid ((hB.block _ (by simp)).trans R0.out); have B1 := Lib.hid (B0.out.trans (Below.mono hB (by simp))); have d0 := hc 0 (by simp); have d1 := hc 1 (by simp); have d2 := hc 2 (by simp); have d3 := hc 3 (by simp); simp only [List.getD_cons_zero, List.getD_cons_succ, Nat.add_zero] at d0 d1 d2 d3; have D1 := Lib.hid d1; have D2 := Lib.hid d2; have D3 := Lib.hid d3; have L1 := Lib.hid l1; have y9 := lt_of_block R1.out; clear hO hB hI hc d1 d2 d3; have R9 := R1; have B9 := B1; have r0 := cell_of_block R9.out 0; have r1 := cell_of_block R9.out 1; have r2 := cell_of_block R9.out 2; have r9 := lt_of_block R9.out; have rf := free_of_block R9.out)
      refine bodyPost_ret (by simp [results, Tryd.results7, go_sem,  r0, r1, r2]; try rfl) rfl ?_
      exact ⟨rfl, ((B9.out.setCell (by simp) _).setCell (by simp) _).setCell (by simp) _⟩
  · rw [rmS_not hn]
    have dn : (((pieces 32 s).length : Int) != 4) = true := by rw [bne_iff_ne]; omega
    go_enter Tryd.func7, Tryd.ntmps7
    go_wp2_with (go_at_call 21; refine (SP.out _).mono ?_; rintro e w1 ⟨v, rfl, hO, hB⟩; obtain ⟨a1, k1, hv, hI⟩ := ownStrs_in hO; subst hv; have R1 := Lib.hid ((hB.block _ (by simp)).trans R0.out); have B1 := Lib.hid (B0.out.trans (Below.mono hB (by simp))); have R9 := R1; have B9 := B1; have r0 := cell_of_block R9.out 0; have r1 := cell_of_block R9.out 1; have r2 := cell_of_block R9.out 2; have r9 := lt_of_block R9.out; have rf := free_of_block R9.out; clear hO hB hI)
    refine bodyPost_ret (by simp [results, Tryd.results7, go_sem,  r0, r1, r2]; try rfl) rfl ?_
    exact ⟨rfl, ((B9.out.setCell (by simp) _).setCell (by simp) _).setCell (by simp) _⟩
end Go.Proofs.YtpkpjkceiikakaaDoor
