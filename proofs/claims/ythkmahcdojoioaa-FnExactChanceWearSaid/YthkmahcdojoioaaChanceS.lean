/- Contracts: a card worn by chance, the model's. -/
import Derived.Test.YthkmahcdojoioaaChance
namespace Go.Proofs.Ythkmahcdojoioaa
open Go.ChangeShapes Go.WideShapes Go.ChangeAt Go.RowKit

theorem chB_zero {w wr : World} {g : Nat} {s : ByteArray} {a b : Int} {x : CW} (h : ChB w wr g s a b x) : ChB w ((((wr.setCell ⟨g, 0, none⟩ (.int .u64 0)).setCell ⟨g, 1, none⟩ (.int .u64 0)).setCell ⟨g, 2, none⟩ (.int .u64 0)).setCell ⟨g, 3, none⟩ (.int .u64 0)) g s a b ⟨0, 0, 0, 0⟩ := by
  have hg := h.2.2.2.2.2
  exact ⟨(keep4 wr _ _ _ _ (show w.heap.size ≠ g by omega)).trans h.1, (keep4 wr _ _ _ _ (show w.heap.size + 1 ≠ g by omega)).trans h.2.1, (keep4 wr _ _ _ _ (show w.heap.size + 2 ≠ g by omega)).trans h.2.2.1, set4 _ _ _ _ h.2.2.2.1, below4 _ _ _ _ h.2.2.2.2.1 (by omega), hg⟩

set_option maxHeartbeats 1600000 in
theorem sChance_bad (s : ByteArray) (a b : Int) (hs : s.size ≤ maxLen) (sd torn filled : Int) (x y t0 t1 f0 f1 z : Int) (hbad : (cardOk s b && (chOk torn && chOk filled)) = false) (w : World) :
    Calls Try.prog 31 #[.agg #[.string s, .int .u64 a, .int .u64 b], .int .u32 sd, .int .i64 torn, .int .i64 filled] w fun e w' => e = .returned (chR (chC (cardOk s b) (chOk torn) (chOk filled)) s x y t0 t1 f0 f1 z) ∧ Below w.heap.size w w' := by
  have V := Lib.hid fun W h0 h1 h2 => sOk_any s b hs w.heap.size 0 W a h0 h1 h2
  have M0 := Lib.hid (chA_start w s a b)
  clear hs
  cases h : cardOk s b
  · rw [h] at V
    clear h hbad
    go_enter Try.func31, Try.ntmps31
    go_wp2_with (go_at_call 46; refine Calls.mono (V.out _ ?_ ?_ ?_) ?_; exact cell_of_block M0.out.1 0; exact cell_of_block M0.out.1 1; exact cell_of_block M0.out.1 2; rintro e w1 ⟨rfl, hB⟩; have M1 := Lib.hid (chA_ab M0.out hB); have c0 := cell_of_block M1.out.1; have c1 := cell_of_block M1.out.2.1; have c2 := cell_of_block M1.out.2.2.1; have g1 := free_of_block M1.out.2.1; have g2 := free_of_block M1.out.2.2.1; have s0 := lt_of_block M1.out.1; clear hB)
    refine bodyPost_ret (by simp [results, Try.results31, go_sem, c1, c2]; try rfl) rfl ?_
    exact ⟨eRet (chR_1 ..), (((((((M1.out.2.2.2.setCell (by simp <;> omega) _).setCell (by simp <;> omega) _).setCell (by simp <;> omega) _).setCell (by simp <;> omega) _).setCell (by simp <;> omega) _).setCell (by simp <;> omega) _).setCell (by simp <;> omega) _)⟩
  · rw [h] at V
    rw [h, Bool.true_and] at hbad
    have E := Lib.hid (chR_2 s x y t0 t1 f0 f1 z hbad)
    clear h
    cases ht : chOk torn
    · have T := sChanceOk ht
      rw [ht] at E
      clear ht hbad
      go_enter Try.func31, Try.ntmps31
      go_wp2_with (first | (go_at_call 46; refine Calls.mono (V.out _ ?_ ?_ ?_) ?_; exact cell_of_block M0.out.1 0; exact cell_of_block M0.out.1 1; exact cell_of_block M0.out.1 2; rintro e w1 ⟨rfl, hB⟩; have M1 := Lib.hid (chA_ab M0.out hB); have c0 := cell_of_block M1.out.1; have c1 := cell_of_block M1.out.2.1; have c2 := cell_of_block M1.out.2.2.1; have g1 := free_of_block M1.out.2.1; have g2 := free_of_block M1.out.2.2.1; have s0 := lt_of_block M1.out.1; clear hB) | (go_at_call_of 59 (Value.int IntKind.i64 torn); refine (T.out _).mono ?_; rintro e w2 ⟨rfl, rfl⟩))
      refine bodyPost_ret (by simp [results, Try.results31, go_sem, c1, c2]; try rfl) rfl ?_
      exact ⟨eRet E.out, (((((((M1.out.2.2.2.setCell (by simp <;> omega) _).setCell (by simp <;> omega) _).setCell (by simp <;> omega) _).setCell (by simp <;> omega) _).setCell (by simp <;> omega) _).setCell (by simp <;> omega) _).setCell (by simp <;> omega) _)⟩
    · rw [ht, Bool.true_and] at hbad
      have T := sChanceOk ht
      have G := sChanceOk hbad
      rw [ht] at E
      clear ht
      go_enter Try.func31, Try.ntmps31
      go_wp2_with (first | (go_at_call 46; refine Calls.mono (V.out _ ?_ ?_ ?_) ?_; exact cell_of_block M0.out.1 0; exact cell_of_block M0.out.1 1; exact cell_of_block M0.out.1 2; rintro e w1 ⟨rfl, hB⟩; have M1 := Lib.hid (chA_ab M0.out hB); have c0 := cell_of_block M1.out.1; have c1 := cell_of_block M1.out.2.1; have c2 := cell_of_block M1.out.2.2.1; have g1 := free_of_block M1.out.2.1; have g2 := free_of_block M1.out.2.2.1; have s0 := lt_of_block M1.out.1; clear hB) | (go_at_call_of 59 (Value.int IntKind.i64 torn); refine (T.out _).mono ?_; rintro e w2 ⟨rfl, rfl⟩) | (go_at_call_of 59 (Value.int IntKind.i64 filled); refine (G.out _).mono ?_; rintro e w2 ⟨rfl, rfl⟩))
      refine bodyPost_ret (by simp [results, Try.results31, go_sem, c1, c2]; try rfl) rfl ?_
      exact ⟨eRet E.out, (((((((M1.out.2.2.2.setCell (by simp <;> omega) _).setCell (by simp <;> omega) _).setCell (by simp <;> omega) _).setCell (by simp <;> omega) _).setCell (by simp <;> omega) _).setCell (by simp <;> omega) _).setCell (by simp <;> omega) _)⟩

set_option maxHeartbeats 3200000 in
theorem sChance_good (s : ByteArray) (a b : Int) (hs : s.size ≤ maxLen) (ha : U64 a) (hb : U64 b) (sd : Int) (d0 : 0 ≤ sd) (d1 : sd < 4294967296) (torn filled : Int) (h1 : cardOk s b = true) (h2 : chOk torn = true) (h3 : chOk filled = true) (w : World) :
    Calls Try.prog 31 #[.agg #[.string s, .int .u64 a, .int .u64 b], .int .u32 sd, .int .i64 torn, .int .i64 filled] w fun e w' => e = .returned (chR (chC (cardOk s b) (chOk torn) (chOk filled)) s (bits .andNot .u64 (bits .or .u64 a ((cw a b torn filled sd 96).t0 : Int)) ((cw a b torn filled sd 96).f0 : Int)) (bits .andNot .u64 (bits .or .u64 b ((cw a b torn filled sd 96).t1 : Int)) ((cw a b torn filled sd 96).f1 : Int)) ((cw a b torn filled sd 96).t0 : Int) ((cw a b torn filled sd 96).t1 : Int) ((cw a b torn filled sd 96).f0 : Int) ((cw a b torn filled sd 96).f1 : Int) (lci 96 sd)) ∧ Below w.heap.size w w' := by
  have V := Lib.hid fun W h0 h1 h2 => sOk_any s b hs w.heap.size 0 W a h0 h1 h2
  have M0 := Lib.hid (chA_start w s a b)
  have T := sChanceOk h2
  have G := sChanceOk h3
  rw [h1, h2, h3]
  rw [h1] at V
  have E := Lib.hid (chR_3 s (bits .andNot .u64 (bits .or .u64 a ((cw a b torn filled sd 96).t0 : Int)) ((cw a b torn filled sd 96).f0 : Int)) (bits .andNot .u64 (bits .or .u64 b ((cw a b torn filled sd 96).t1 : Int)) ((cw a b torn filled sd 96).f1 : Int)) ((cw a b torn filled sd 96).t0 : Int) ((cw a b torn filled sd 96).t1 : Int) ((cw a b torn filled sd 96).f0 : Int) ((cw a b torn filled sd 96).f1 : Int) (lci 96 sd))
  have FT := Lib.hid (cw_fits a b torn filled sd)
  have HO := Lib.hid fun (k : Nat) (hk : k < 96) W => sBitC k hk W
  have HH := Lib.hid fun (k : Nat) (hk : k < 96) W => sHas_any a b k ha hb (by omega) (by omega) W
  clear hs h1 h2 h3 ha hb
  generalize hR : chR (chC true true true) s (bits .andNot .u64 (bits .or .u64 a ((cw a b torn filled sd 96).t0 : Int)) ((cw a b torn filled sd 96).f0 : Int)) (bits .andNot .u64 (bits .or .u64 b ((cw a b torn filled sd 96).t1 : Int)) ((cw a b torn filled sd 96).f1 : Int)) ((cw a b torn filled sd 96).t0 : Int) ((cw a b torn filled sd 96).t1 : Int) ((cw a b torn filled sd 96).f0 : Int) ((cw a b torn filled sd 96).f1 : Int) (lci 96 sd) = R at *
  clear hR
  go_enter Try.func31, Try.ntmps31
  go_wp2_with (first | (go_at_call 46; refine Calls.mono (V.out _ ?_ ?_ ?_) ?_; exact cell_of_block M0.out.1 0; exact cell_of_block M0.out.1 1; exact cell_of_block M0.out.1 2; rintro e w1 ⟨rfl, hB⟩; have M1 := Lib.hid (chA_ab M0.out hB); have c0 := cell_of_block M1.out.1; have c1 := cell_of_block M1.out.2.1; have c2 := cell_of_block M1.out.2.2.1; have g1 := free_of_block M1.out.2.1; have g2 := free_of_block M1.out.2.2.1; have s0 := lt_of_block M1.out.1; clear hB) | (go_at_call_of 59 (Value.int IntKind.i64 torn); refine (T.out _).mono ?_; rintro e w2 ⟨rfl, rfl⟩) | (go_at_call_of 59 (Value.int IntKind.i64 filled); refine (G.out _).mono ?_; rintro e w2 ⟨rfl, rfl⟩))
  have MB := Lib.hid (chB_zero (chB_start M1.out))
  have MC := Lib.hid (chB_start M1.out)
  clear c0 c1 c2 g1 g2 s0
  generalize w1.heap.size = g at *
  go_loopw [1, 13] (fun q i wr => ∃ k : Nat, k ≤ 96 ∧ i = .int .i64 k ∧ q = .int .u32 (lci k sd) ∧ ChB w wr g s a b (cw a b torn filled sd k)) (fun _ i _ => 96 - (intOf i).toNat)
  case atStart => exact ⟨0, Nat.zero_le _, rfl, rfl, by first | exact MB.out | exact MC.out⟩
  case round =>
    obtain ⟨k, hk, rfl, rfl, hM⟩ := hrel
    have M := Lib.hid hM
    clear hM MB MC M1
    have c0 := cell_of_block M.out.1
    have c3 := cell_of_block M.out.2.2.2.1
    have s0 := lt_of_block M.out.1
    have s3 := lt_of_block M.out.2.2.2.1
    by_cases hkl : k < 96
    · have hd : decide ((k : Int) < 96) = true := by simp; omega
      obtain ⟨y0, y1⟩ := lci_in (k + 1) sd ⟨d0, d1⟩
      have hl : (1664525 * lci k sd % 4294967296 + 1013904223) % 4294967296 = lci (k + 1) sd := by rw [lc_two]; rfl
      have v1 : IntKind.i64.wrap (lci (k + 1) sd / 65536) = lci (k + 1) sd / 65536 := IntWalk.i64_in _ (by omega)
      have v2 : (lci (k + 1) sd / 65536).tmod 1000 = rnd sd k := Int.tmod_eq_emod_of_nonneg (by omega)
      have v3 : IntKind.i64.wrap (rnd sd k) = rnd sd k := IntWalk.i64_in _ (by unfold rnd; omega)
      have v4 : lci (k + 1) sd / 65536 % 1000 = rnd sd k := rfl
      have O := Lib.hid (HO.out k hkl)
      have H := Lib.hid (HH.out k hkl)
      obtain ⟨u0, u1⟩ := B_lt (h := (k : Int)) (by omega)
      have ft := FT.out k hk
      have J1 := Lib.hid fun W => sJoinC (cw a b torn filled sd k).t0 (cw a b torn filled sd k).t1 (B0 k) (B1 k) ft.t0 ft.t1 u0 u1 W
      have J2 := Lib.hid fun W => sJoinC (cw a b torn filled sd k).f0 (cw a b torn filled sd k).f1 (B0 k) (B1 k) ft.f0 ft.f1 u0 u1 W
      clear ft u0 u1 HO HH FT T G V
      generalize hx : lci k sd = x at *
      generalize hy : lci (k + 1) sd = y at *
      cases hq : hasB a b k
      · rw [hq] at H
        by_cases hr : rnd sd k < torn
        · have e := Lib.hid (cw_tear (filled := filled) hq hr)
          have hdr : decide (rnd sd k < torn) = true := decide_eq_true hr
          have J := J1
          clear hq hr J2
          generalize rnd sd k = r at *
          go_upto_region 15 with (go_at_call 60; refine (H.out _).mono ?_; rintro e w6 ⟨rfl, hB⟩; have M6 := Lib.hid (chB_ab M.out hB); clear c0 c3 s0 s3; have c3 := cell_of_block M6.out.2.2.2.1; have g3 := free_of_block M6.out.2.2.2.1; have s3 := lt_of_block M6.out.2.2.2.1; clear hB)
          have hbw := cell_bw
          refine wp_region_last 6 (by kernel_rfl) rfl rfl (by kernel_rfl) (by kernel_rfl) rfl ?_
          simp only [List.take_succ_cons, List.take_zero]
          clear c3 g3 s3
          intro v1 hv1
          have c3 := cell_of_block (chB_ab M6.out hv1).2.2.2.1
          have s3 := lt_of_block (chB_ab M6.out hv1).2.2.2.1
          repeat (go_big_quiet_step (first | (go_at_call 61; exact calls_bw (O.out _)) | (go_at_call 53; exact calls_bw (J.out _))))
          refine wpQuiet_nil ?_
          intro v3 hv3
          have M7 := Lib.hid (chB_ab M6.out hv3)
          clear c3 s3 hv1 hv3 hbw
          have c3 := cell_of_block M7.out.2.2.2.1
          have g3 := free_of_block M7.out.2.2.2.1
          have s3 := lt_of_block M7.out.2.2.2.1
          go_simp
          simp only [Yld]
          go_wp2
          exact ⟨⟨k + 1, hkl, by rw [Int.natCast_succ], by rw [hy], by rw [e.out]; exact chB_tear M7.out k⟩, by (simp [intOf]) <;> omega⟩
        · have e := Lib.hid (cw_notear (filled := filled) hq hr)
          have hdr : decide (rnd sd k < torn) = false := decide_eq_false hr
          clear hq hr J1 J2
          generalize rnd sd k = r at *
          go_wp2_with (go_at_call 60; refine (H.out _).mono ?_; rintro e w6 ⟨rfl, hB⟩; have M6 := Lib.hid (chB_ab M.out hB); clear c0 c3 s0 s3; have c3 := cell_of_block M6.out.2.2.2.1; have g3 := free_of_block M6.out.2.2.2.1; have s3 := lt_of_block M6.out.2.2.2.1; clear hB)
          exact ⟨⟨k + 1, hkl, by rw [Int.natCast_succ], by rw [hy], by rw [e.out]; exact M6.out⟩, by (simp [intOf]) <;> omega⟩
      · rw [hq] at H
        by_cases hr : rnd sd k < filled
        · have e := Lib.hid (cw_fill (torn := torn) hq hr)
          have hdr : decide (rnd sd k < filled) = true := decide_eq_true hr
          have J := J2
          clear hq hr J1
          generalize rnd sd k = r at *
          go_upto_region 13 with (go_at_call 60; refine (H.out _).mono ?_; rintro e w6 ⟨rfl, hB⟩; have M6 := Lib.hid (chB_ab M.out hB); clear c0 c3 s0 s3; have c3 := cell_of_block M6.out.2.2.2.1; have g3 := free_of_block M6.out.2.2.2.1; have s3 := lt_of_block M6.out.2.2.2.1; clear hB)
          have hbw := cell_bw
          refine wp_region_last 6 (by kernel_rfl) rfl rfl (by kernel_rfl) (by kernel_rfl) rfl ?_
          simp only [List.take_succ_cons, List.take_zero]
          clear c3 g3 s3
          intro v1 hv1
          have c3 := cell_of_block (chB_ab M6.out hv1).2.2.2.1
          have s3 := lt_of_block (chB_ab M6.out hv1).2.2.2.1
          repeat (go_big_quiet_step (first | (go_at_call 61; exact calls_bw (O.out _)) | (go_at_call 53; exact calls_bw (J.out _))))
          refine wpQuiet_nil ?_
          intro v3 hv3
          have M7 := Lib.hid (chB_ab M6.out hv3)
          clear c3 s3 hv1 hv3 hbw
          have c3 := cell_of_block M7.out.2.2.2.1
          have g3 := free_of_block M7.out.2.2.2.1
          have s3 := lt_of_block M7.out.2.2.2.1
          go_simp
          simp only [Yld]
          go_wp2
          exact ⟨⟨k + 1, hkl, by rw [Int.natCast_succ], by rw [hy], by rw [e.out]; exact chB_fill M7.out k⟩, by (simp [intOf]) <;> omega⟩
        · have e := Lib.hid (cw_nofill (torn := torn) hq hr)
          have hdr : decide (rnd sd k < filled) = false := decide_eq_false hr
          clear hq hr J1 J2
          generalize rnd sd k = r at *
          go_wp2_with (go_at_call 60; refine (H.out _).mono ?_; rintro e w6 ⟨rfl, hB⟩; have M6 := Lib.hid (chB_ab M.out hB); clear c0 c3 s0 s3; have c3 := cell_of_block M6.out.2.2.2.1; have g3 := free_of_block M6.out.2.2.2.1; have s3 := lt_of_block M6.out.2.2.2.1; clear hB)
          exact ⟨⟨k + 1, hkl, by rw [Int.natCast_succ], by rw [hy], by rw [e.out]; exact M6.out⟩, by (simp [intOf]) <;> omega⟩
    · obtain rfl : k = 96 := by omega
      have hd : decide (((96 : Nat) : Int) < 96) = false := by decide
      clear HO HH FT T G V
      generalize hX : lci 96 sd = X at *
      generalize cw a b torn filled sd 96 = Z at *
      obtain ⟨t0, t1, f0, f1⟩ := Z
      go_upto_region 17 with (go_at_call 47; refine (sOn_any _ _ _ _ _ _ g _ M.out.2.2.2.1).mono ?_; rintro e w8 ⟨rfl, hB⟩; have M8 := Lib.hid (chB_ab M.out hB); clear c0 c3 s0 s3; have c0 := cell_of_block M8.out.1; have c1 := cell_of_block M8.out.2.1; have c2 := cell_of_block M8.out.2.2.1; have c3 := cell_of_block M8.out.2.2.2.1; have g0 := free_of_block M8.out.1; have g1 := free_of_block M8.out.2.1; have g2 := free_of_block M8.out.2.2.1; have s0 := lt_of_block M8.out.1; have s3 := lt_of_block M8.out.2.2.2.1; clear hB)
      have M9 := Lib.hid (chB_card M8.out (bits .andNot .u64 (bits .or .u64 a (t0 : Int)) (f0 : Int)) (bits .andNot .u64 (bits .or .u64 b (t1 : Int)) (f1 : Int)))
      generalize ((w8.setCell ⟨w.heap.size, 1, none⟩ (.int .u64 (bits .andNot .u64 (bits .or .u64 a (t0 : Int)) (f0 : Int)))).setCell ⟨w.heap.size, 2, none⟩ (.int .u64 (bits .andNot .u64 (bits .or .u64 b (t1 : Int)) (f1 : Int)))) = w9 at *
      clear c0 c1 c2 c3 g0 g1 g2 s0 s3
      have c0 := cell_of_block M9.out.1
      have c1 := cell_of_block M9.out.2.1
      have c2 := cell_of_block M9.out.2.2.1
      have c3 := cell_of_block M9.out.2.2.2.1
      have g1 := free_of_block M9.out.2.1
      have g2 := free_of_block M9.out.2.2.1
      have s0 := lt_of_block M9.out.1
      have s3 := lt_of_block M9.out.2.2.2.1
      have n1 : g ≠ w.heap.size + 1 := by have := M9.out.2.2.2.2.2; omega
      have n2 : g ≠ w.heap.size + 2 := by have := M9.out.2.2.2.2.2; omega
      have FE := Lib.hid fun v hv => chEnd M9.out (.string s) (.int .u64 (bits .andNot .u64 (bits .or .u64 a (t0 : Int)) (f0 : Int))) (.int .u64 (bits .andNot .u64 (bits .or .u64 b (t1 : Int)) (f1 : Int))) (.int .u64 (t0 : Int)) (.int .u64 (t1 : Int)) (.int .u64 (f0 : Int)) (.int .u64 (f1 : Int)) v hv
      clear M M0 M8 M9
      go_region
      clear c0 c1 c2 c3 g1 g2 s0 s3
      generalize hw10 : World.drew _ = w10
      obtain ⟨q1, q2, qB⟩ := FE.out w10 hw10.symm
      have c1 := cell_of_block q1
      have c2 := cell_of_block q2
      have QB := Lib.hid qB
      clear q1 q2 qB
      go_wp2
      refine bodyPost_ret (by simp [results, Try.results31, go_sem, c1, c2]; try rfl) rfl ?_
      exact ⟨eRet E.out, QB.out⟩
end Go.Proofs.Ythkmahcdojoioaa
