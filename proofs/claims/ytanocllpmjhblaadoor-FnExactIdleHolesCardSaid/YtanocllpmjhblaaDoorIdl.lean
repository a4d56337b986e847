/- The holes at which no card is notched: the program's and the model's contract. -/
import Derived.Test.YtanocllpmjhblaaDoorIdM
import Derived.Deep.DeepCutAuto
namespace Go.Proofs.YtanocllpmjhblaaDoor
open Go.ChangeShapes Go.WideShapes Go.ChangeAt Go.RowKit

def idV (cs : List Cd) : Value := if cdC cs = 0 then .tuple #[.agg #[.int .u64 (idI b0 (fun h => tlyTo cs (h : Int) cs.length) 96), .int .u64 (idI b1 (fun h => tlyTo cs (h : Int) cs.length) 96)], .int .i64 0] else .tuple #[.agg #[.int .u64 0, .int .u64 0], .int .i64 (cdC cs)]
theorem idV_no {cs : List Cd} (h : cdC cs ≠ 0) : idV cs = .tuple #[.agg #[.int .u64 0, .int .u64 0], .int .i64 (cdC cs)] := if_neg h
theorem idV_ok {cs : List Cd} (h : cdC cs = 0) : idV cs = .tuple #[.agg #[.int .u64 (idI b0 (fun h => tlyTo cs (h : Int) cs.length) 96), .int .u64 (idI b1 (fun h => tlyTo cs (h : Int) cs.length) 96)], .int .i64 0] := if_pos h
theorem cdC_len {cs : List Cd} (h : cdC cs = 0) : cs.length ≤ 60 := by
  unfold cdC at h
  by_cases a : csOk cs = true
  · rw [if_pos a] at h
    by_cases b : cs.length ≤ 60
    · exact b
    · rw [if_neg b] at h; exact absurd h (by decide)
  · rw [if_neg a] at h; exact absurd h (by decide)
theorem cards_u64 {w : World} {ad : Option Addr} {cs : List Cd} (h : CardsIn w ad cs) : ∀ j, j < cs.length → U64 (cdAt cs j).a ∧ U64 (cdAt cs j).b := fun j hj => (h j hj).1.2
theorem fu0_96 : fu0 96 = 18446744073709551615 := by decide
theorem fu1_96 : fu1 96 = 4294967295 := by decide

set_option maxRecDepth 100000 in
set_option maxHeartbeats 1600000 in
theorem iIdle_any (a0 a1 a2 : Addr) (ad : Option Addr) (cs : List Cd) (c : Nat) (w : World) (hS : Sen w a0 a1 a2) (hc : CardsIn w ad cs) (hl : cs.length ≤ 9223372036854775807) :
    Calls Tryd.prog 11 #[.slice ad cs.length c] w fun e w' => e = .returned (idV cs) ∧ Below w.heap.size w w' := by
  have B0 := Lib.hid (ab_new w (.cells #[.int .u64 0, .int .u64 0] 26))
  have M0 := Lib.hid (block_alloc w (.cells #[.int .u64 0, .int .u64 0] 26))
  have T := Lib.hid (iCheckTable_any a0 a1 a2 ad cs c _ (hS.below B0.out) (cardsIn_below hc B0.out) hl)
  have SS := Lib.hid hS
  have C := Lib.hid hc
  have ID := idle_is cs (cards_u64 hc)
  clear hS hc
  by_cases h0 : cdC cs = 0
  · rw [idV_ok h0]
    rw [h0, show eV a0 a1 0 = .nilIface from rfl] at T
    have hn := cdC_len h0
    rw [← ID.1, ← ID.2]
    have F := Lib.hid fun W => iFirst_any 96 (by decide) (by decide) W
    rw [fu0_96, fu1_96] at F
    have NO := Lib.hid fun W h => iNotches_any ad cs c W h (by omega)
    have JO := Lib.hid fun a cc W h => iJoinAll_any a (nmOf cs cs.length) cc W h (by rw [nmOf_len]; omega)
    rw [nmOf_len] at JO
    have LE := Lib.hid (nmOf_len cs cs.length)
    clear ID h0
    generalize nmOf cs cs.length = ms at *
    generalize jn0 ms cs.length = J0 at *
    generalize jn1 ms cs.length = J1 at *
    go_enter Tryd.func11, Tryd.ntmps11
    go_wp2_with (first
      | (go_at_call 35; refine T.out.mono ?_; rintro e w1 ⟨rfl, hB⟩; have B1 := Lib.hid (Ab.trans B0.out hB); have M1 := Lib.hid (Ab.block hB M0.out); clear hB)
      | (go_at_call 38; refine (F.out _).mono ?_; rintro e w2 ⟨rfl, hB⟩; have B2 := Lib.hid (Ab.trans B1.out hB); have M2 := Lib.hid (Ab.block hB M1.out); clear hB)
      | (go_at_call 40; refine (NO.out _ (cardsIn_below C.out B2.out)).mono ?_; rintro e w3 ⟨v, rfl, hO, hB⟩; obtain ⟨a3, c3, rfl, hi⟩ := ownMs_in hO; rw [LE.out]; have I3 := Lib.hid hi; have B3 := Lib.hid (Ab.trans B2.out hB); have M3 := Lib.hid (Ab.block hB M2.out); clear hB hO hi)
      | (go_at_call 39; refine (JO.out _ _ _ I3.out).mono ?_; rintro e w4 ⟨rfl, hB⟩; have B4 := Lib.hid (Ab.trans B3.out hB); have M4 := Lib.hid (Ab.block hB M3.out); clear hB)
      | (go_at_call 37; refine (iLess_below _ _ _ _ _).mono ?_; rintro e w5 ⟨rfl, hB⟩; have B5 := Lib.hid (Ab.trans B4.out hB); have M5 := Lib.hid (Ab.block hB M4.out); have k0 := cell_of_block M5.out; have k1 := free_of_block M5.out; clear hB))
    refine bodyPost_ret (by simp [results, Tryd.results11, go_sem, k0]; try rfl) rfl ?_
    exact ⟨rfl, (B5.out.setCell _ (Nat.le_refl _)).setCell _ (Nat.le_refl _)⟩
  · rw [idV_no h0]
    have hcases : (cdC cs = 1 ∧ eV a0 a1 (cdC cs) = .iface 182 (.pointer (some a0))) ∨ (cdC cs = 2 ∧ eV a0 a1 (cdC cs) = .iface 182 (.pointer (some a1))) := by
      have h12 : cdC cs = 1 ∨ cdC cs = 2 := by
        unfold cdC at h0 ⊢
        by_cases a : csOk cs = true
        · rw [if_pos a] at h0 ⊢
          by_cases b : cs.length ≤ 60
          · rw [if_pos b] at h0; exact absurd rfl h0
          · rw [if_neg b]; exact .inr rfl
        · rw [if_neg a]; exact .inl rfl
      rcases h12 with h | h
      · exact .inl ⟨h, by rw [h]; rfl⟩
      · exact .inr ⟨h, by rw [h]; rfl⟩
    rcases hcases with ⟨hq, he⟩ | ⟨hq, he⟩
    · rw [he] at T
      rw [hq]
      clear ID h0 hq he
      go_enter Tryd.func11, Tryd.ntmps11
      go_wp2_with (first
        | (go_at_call 35; refine T.out.mono ?_; rintro e w1 ⟨rfl, hB⟩; have B1 := Lib.hid (Ab.trans B0.out hB); have M1 := Lib.hid (Ab.block hB M0.out); have S1 := Lib.hid (SS.out.below B1.out); have k0 := cell_of_block M1.out; have k1 := free_of_block M1.out; clear hB)
        | (go_at_call 36; refine (iCode_1 a0 a1 a2 _ S1.out).mono ?_; rintro e w2 ⟨rfl, rfl⟩))
      refine bodyPost_ret (by simp [results, Tryd.results11, go_sem, k0]; try rfl) rfl ?_
      exact ⟨rfl, (B1.out.setCell _ (Nat.le_refl _)).setCell _ (Nat.le_refl _)⟩
    · rw [he] at T
      rw [hq]
      clear ID h0 hq he
      go_enter Tryd.func11, Tryd.ntmps11
      go_wp2_with (first
        | (go_at_call 35; refine T.out.mono ?_; rintro e w1 ⟨rfl, hB⟩; have B1 := Lib.hid (Ab.trans B0.out hB); have M1 := Lib.hid (Ab.block hB M0.out); have S1 := Lib.hid (SS.out.below B1.out); have k0 := cell_of_block M1.out; have k1 := free_of_block M1.out; clear hB)
        | (go_at_call 36; refine (iCode_2 a0 a1 a2 _ S1.out).mono ?_; rintro e w2 ⟨rfl, rfl⟩))
      refine bodyPost_ret (by simp [results, Tryd.results11, go_sem, k0]; try rfl) rfl ?_
      exact ⟨rfl, (B1.out.setCell _ (Nat.le_refl _)).setCell _ (Nat.le_refl _)⟩


set_option maxRecDepth 100000 in
set_option maxHeartbeats 1600000 in
theorem sIdle_any (ad : Option Addr) (cs : List Cd) (c : Nat) (w : World) (hc : CardsIn w ad cs) (hl : cs.length ≤ 9223372036854775807) :
    Calls Tryd.prog 9 #[.slice ad cs.length c] w fun e w' => e = .returned (idV cs) ∧ Below w.heap.size w w' := by
  have B0 := Lib.hid (ab_new w (.cells #[.int .u64 0, .int .u64 0] 26))
  have M0 := Lib.hid (block_alloc w (.cells #[.int .u64 0, .int .u64 0] 26))
  have T := Lib.hid (sTally_any ad cs c _ (cardsIn_below hc B0.out) hl)
  clear hc
  by_cases h0 : cdC cs = 0
  · rw [idV_ok h0]
    rw [h0, show tlL 0 (tl cs 96) = tl cs 96 from rfl] at T
    have AT := Lib.hid fun i (h : i < 96) => tl_at (cs := cs) (k := 96) h
    have LE := Lib.hid (tl_len cs 96)
    have TL := Lib.hid fun i => tlyTo_le cs i cs.length
    have hn := cdC_len h0
    clear h0
    generalize tl cs 96 = ys at *
    obtain ⟨cn, hcn⟩ : ∃ cn : Nat → Nat, cn = fun h : Nat => tlyTo cs (h : Int) cs.length := ⟨_, rfl⟩
    rw [← hcn]
    have AT : Hid (∀ i, i < 96 → ys.getD i 0 = (cn i : Int)) := Lib.hid fun i h => by rw [hcn]; exact AT.out i h
    clear hcn TL
    have hbw := cell_bw
    go_enter Tryd.func9, Tryd.ntmps9
    go_wp2_with (go_at_call 31; refine T.out.mono ?_; rintro e w1 ⟨v, rfl, hO, hB⟩; obtain ⟨a1, c1, rfl, hi⟩ := ownInts_in hO; rw [LE.out]; have I1 := Lib.hid hi; have B1 := Lib.hid (Ab.trans B0.out hB); have M1 := Lib.hid (Ab.block hB M0.out); clear hB hO hi)
    have s1 := lt_of_block M1.out
    go_loopw [7] (fun i wr => ∃ h : Nat, h ≤ 96 ∧ i = .int .i64 h ∧ wr.heap[w1.heap.size]? = some (.cells #[.int .u64 (idI b0 cn h), .int .u64 (idI b1 cn h)] 26 (0, 0)) ∧ Below w1.heap.size w1 wr) (fun i _ => 96 - (intOf i).toNat)
    case atStart => exact ⟨0, Nat.zero_le _, rfl, block_alloc _ _, ab_new _ _⟩
    case round =>
      obtain ⟨h, hh, rfl, hM, hB⟩ := hrel
      have MM := Lib.hid hM
      have BB := Lib.hid hB
      by_cases hhl : h < 96
      · have hd : decide ((h : Int) < 96) = true := by simp; omega
        obtain ⟨b, o, rfl, hb, p0⟩ := I1.out h (by rw [LE.out]; exact hhl)
        rw [AT.out h hhl] at p0
        have d0 := (hB.cell (p := ⟨b, o + h, none⟩) hb).trans p0
        have i3 : (0 : Int) ≤ (h : Int) := by omega
        have i4 : (h : Int) < 96 := by omega
        have YE0 := Lib.hid fun q => idI_yes (b := b0) (c := cn) (h := h) q
        have YE1 := Lib.hid fun q => idI_yes (b := b1) (c := cn) (h := h) q
        have NO0 := Lib.hid fun q => idI_no (b := b0) (c := cn) (h := h) q
        have NO1 := Lib.hid fun q => idI_no (b := b1) (c := cn) (h := h) q
        have BI := Lib.hid fun W => sBit_any (h : Int) (by omega) (by omega) W
        clear p0 hB hM
        by_cases hz : cn h = 0
        · have dz : (((cn h : Nat) : Int) == 0) = true := by rw [hz]; rfl
          have y0 := Lib.hid (YE0.out hz)
          have y1 := Lib.hid (YE1.out hz)
          clear YE0 YE1 NO0 NO1
          generalize ((cn h : Nat) : Int) = N at *
          generalize idI b0 cn h = X at *
          generalize idI b1 cn h = Y at *
          generalize b0 (h : Int) = U at *
          generalize b1 (h : Int) = V at *
          go_upto_region 9 with fail
          refine wp_region_last 4 (by kernel_rfl) rfl rfl (by kernel_rfl) (by kernel_rfl) rfl ?_
          simp only [List.take_succ_cons, List.take_zero]
          intro wa ha
          have c0 := cell_of_block (ha.block MM.out)
          have s0 := lt_of_block (ha.block MM.out)
          repeat (go_big_quiet_step (first | (go_at_call 33; exact calls_bw (BI.out _)) | (go_at_call 32; exact calls_bw (sJoin_below _ _ _ _ _))))
          refine wpQuiet_nil ?_
          intro w3 h3
          have M3 := Lib.hid (h3.block MM.out)
          have f0 := cell_of_block M3.out
          have f1 := free_of_block M3.out
          go_simp
          simp only [Yld]
          go_wp2
          exact ⟨⟨h + 1, hhl, by rw [Int.natCast_succ], by rw [y0.out, y1.out]; exact block_setCell _ (block_setCell _ M3.out), ((BB.out.trans (Below.mono h3 BB.out.size)).setCell (Nat.le_refl _) _).setCell (Nat.le_refl _) _⟩, by (simp [intOf]) <;> omega⟩
        · have dz : (((cn h : Nat) : Int) == 0) = false := by simp; omega
          have y0 := Lib.hid (NO0.out hz)
          have y1 := Lib.hid (NO1.out hz)
          clear YE0 YE1 NO0 NO1 hbw
          generalize ((cn h : Nat) : Int) = N at *
          go_wp2
          exact ⟨⟨h + 1, hhl, by rw [Int.natCast_succ], by rw [y0.out, y1.out]; exact MM.out, BB.out⟩, by (simp [intOf]) <;> omega⟩
      · have e : h = 96 := by omega
        subst e
        have M5 := Lib.hid (Ab.block hB M1.out)
        have k0 := cell_of_block M5.out
        have k1 := free_of_block M5.out
        have k2 := cell_of_block hM
        have s5 := lt_of_block hM
        clear hB hM hbw
        generalize hX : idI b0 cn 96 = X at *
        generalize hY : idI b1 cn 96 = Y at *
        have hX := Lib.hid hX
        have hY := Lib.hid hY
        go_wp2
        refine bodyPost_ret (by simp [results, Tryd.results9, go_sem, k0]; try rfl) rfl ?_
        exact ⟨by rw [hX.out, hY.out], ((Ab.trans B1.out BB.out).setCell _ (Nat.le_refl _)).setCell _ (Nat.le_refl _)⟩
  · rw [idV_no h0]
    have hd : (cdC cs != 0) = true := by simp [h0]
    rw [show tlL (cdC cs) (tl cs 96) = [] from if_neg h0] at T
    clear h0
    generalize cdC cs = q at *
    go_enter Tryd.func9, Tryd.ntmps9
    go_wp2_with (go_at_call 31; refine T.out.mono ?_; rintro e w1 ⟨v, rfl, hO, hB⟩; obtain ⟨a1, c1, rfl, hi⟩ := ownInts_in hO; have B1 := Lib.hid (Ab.trans B0.out hB); have M1 := Lib.hid (Ab.block hB M0.out); have k0 := cell_of_block M1.out; have k1 := free_of_block M1.out; clear hB hO hi)
    refine bodyPost_ret (by simp [results, Tryd.results9, go_sem, k0]; try rfl) rfl ?_
    exact ⟨rfl, (B1.out.setCell _ (Nat.le_refl _)).setCell _ (Nat.le_refl _)⟩
end Go.Proofs.YtanocllpmjhblaaDoor
