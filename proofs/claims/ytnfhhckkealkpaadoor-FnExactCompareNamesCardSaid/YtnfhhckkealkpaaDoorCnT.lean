/- Contracts: the words of a name and how two names are filed, the model's. -/
import Derived.Test.YtnfhhckkealkpaaDoorCnS
import Derived.Test.YtnfhhckkealkpaaDoorENameS
namespace Go.Proofs.YtnfhhckkealkpaaDoor
open Go.ChangeShapes Go.WideShapes Go.ChangeAt Go.RowKit

theorem ownStrs_cap {B : Nat} {ps : List ByteArray} {a : Option Addr} {n k : Nat} {w : World} (h : OwnStrs B ps (.slice a n k) w) : ps.length ≤ k := by
  obtain ⟨_, h2⟩ := h
  rcases h2 with ⟨hv, hn⟩ | ⟨g, cap, cur, hv, _, _, hc, _⟩
  · omega
  · injection hv with _ _ h3
    omega
theorem wordsR_tail {w w1 : World} {b o : Nat} {x : ByteArray} {r : List ByteArray} {c : Nat} (h : StrsIn w1 (some ⟨b, o, none⟩) (x :: r)) (hB : Below w.heap.size w w1) : WordsR r w (.returned (.slice (some ⟨b, o + 1, none⟩) r.length c)) w1 := ⟨_, _, rfl, strs_tail h, hB⟩
theorem bytes_is {x : ByteArray} {l : List UInt8} : x.toList = l ↔ x = ⟨l.toArray⟩ := by
  rw [Lib.toList_data]
  exact ⟨fun h => by rw [← h, Lib.mk_data], fun h => by rw [h]⟩
theorem isArt_no {x : ByteArray} (h : isArt x = false) : ¬ x.toList = [97] ∧ ¬ x.toList = [97, 110] ∧ ¬ x.toList = [116, 104, 101] := by
  unfold isArt at h
  rw [Bool.or_eq_false_iff, Bool.or_eq_false_iff, decide_eq_false_iff_not, decide_eq_false_iff_not, decide_eq_false_iff_not] at h
  rw [bytes_is, bytes_is, bytes_is]
  exact ⟨h.1.1, h.1.2, h.2⟩
theorem isArt_yes {x : ByteArray} (h : isArt x = true) : x.toList = [97] ∨ (¬ x.toList = [97] ∧ x.toList = [97, 110]) ∨ (¬ x.toList = [97] ∧ ¬ x.toList = [97, 110] ∧ x.toList = [116, 104, 101]) := by
  rw [bytes_is, bytes_is, bytes_is]
  unfold isArt at h
  by_cases h1 : x = ⟨#[97]⟩
  · exact .inl h1
  · by_cases h2 : x = ⟨#[97, 110]⟩
    · exact .inr (.inl ⟨h1, h2⟩)
    · rw [decide_eq_false h1, decide_eq_false h2] at h
      exact .inr (.inr ⟨h1, h2, by simpa using h⟩)

set_option maxRecDepth 100000 in
set_option maxHeartbeats 3200000 in
theorem sWords_any (s : ByteArray) (hs : s.size ≤ 1048576) (w : World) : Calls Tryd.prog 37 #[.string s] w (WordsR (fw s) w) := by
  have SP := fun W => sSplitAt_any s 32 (by omega) W
  have hlen := pieces_len 32 s
  unfold fw
  unfold StrsR at SP
  rcases two_or (pieces_ne 32 s) with ⟨x, hp⟩ | ⟨x, y, r, hp⟩
  · rw [hp] at SP ⊢
    show Calls _ _ _ _ (WordsR [x] w)
    have hl : [x].length = 1 := rfl
    generalize [x] = ps at *
    unfold WordsR
    rw [hl]
    have HL := Lib.hid hl
    have SP := Lib.hid SP
    clear hp hl hlen
    go_enter Tryd.func37, Tryd.ntmps37
    go_wp2_with (go_at_call 35; refine (SP.out _).mono ?_; rintro e w1 ⟨v, rfl, hO, hB⟩; obtain ⟨a1, k1, hv, hI⟩ := ownStrs_in hO; rw [HL.out] at hv; subst hv; have B1 := Lib.hid hB; have I1 := Lib.hid hI; clear hO hB hI)
    go_returns
    exact ⟨_, _, rfl, I1.out, B1.out⟩
  · rw [hp] at SP ⊢ hlen
    show Calls _ _ _ _ (WordsR (if isArt x = true then y :: r else x :: y :: r) w)
    obtain ⟨m, hm⟩ : ∃ m, (y :: r).length = m := ⟨_, rfl⟩
    have hm1 : 1 ≤ m := by rw [← hm]; simp
    have hm2 : m ≤ 1048577 := by
      have : (x :: y :: r).length = m + 1 := by rw [← hm]; rfl
      omega
    have HL : Hid ((x :: y :: r).length = m + 1) := Lib.hid (by rw [← hm]; rfl)
    have HM := Lib.hid hm
    have d1 : decide ((1 : Int) < ((m + 1 : Nat) : Int)) = true := decide_eq_true (by omega)
    have d1' : decide ((1 : Int) < (m : Int) + 1) = true := decide_eq_true (by omega)
    have j1 : (1 : Int) ≤ ((m + 1 : Nat) : Int) := by omega
    have X0 := Lib.hid (show (x :: y :: r).getD 0 ⟨#[]⟩ = x from rfl)
    have SP := Lib.hid SP
    clear hp hlen hm
    cases ha : isArt x
    · obtain ⟨e1, e2, e3⟩ := isArt_no ha
      have f1 := beq_false_of_ne e1
      have f2 := beq_false_of_ne e2
      have f3 := beq_false_of_ne e3
      rw [if_neg (by simp)]
      clear ha
      generalize hps : x :: y :: r = ps at *
      clear hps
      go_enter Tryd.func37, Tryd.ntmps37
      go_wp2_with (go_at_call 35; refine (SP.out _).mono ?_; rintro e w1 ⟨v, rfl, hO, hB⟩; obtain ⟨a1, k1, hv, hI⟩ := ownStrs_in hO; rw [HL.out] at hv; subst hv; have kc := ownStrs_cap hO; rw [HL.out] at kc; have kc1 : k1 ≠ 1 := (by omega); have kc2 : 1 ≤ k1 := (by omega); have kc3 : k1 - 1 ≠ 0 := (by omega); obtain ⟨b, o, rfl, hb, h0⟩ := hI 0 (by rw [HL.out]; omega); rw [X0.out, Nat.add_zero] at h0; have B1 := Lib.hid hB; have I1 := Lib.hid hI; clear hO hB hI)
      go_returns
      exact ⟨_, _, by rw [HL.out]; rfl, I1.out, B1.out⟩
    · rw [if_pos rfl]
      rcases isArt_yes ha with e1 | ⟨e1, e2⟩ | ⟨e1, e2, e3⟩
      all_goals
        clear ha
        go_enter Tryd.func37, Tryd.ntmps37
        go_wp2_with (go_at_call 35; refine (SP.out _).mono ?_; rintro e w1 ⟨v, rfl, hO, hB⟩; obtain ⟨a1, k1, hv, hI⟩ := ownStrs_in hO; rw [HL.out] at hv; subst hv; have kc := ownStrs_cap hO; rw [HL.out] at kc; have kc1 : k1 ≠ 1 := (by omega); have kc2 : 1 ≤ k1 := (by omega); have kc3 : k1 - 1 ≠ 0 := (by omega); obtain ⟨b, o, rfl, hb, h0⟩ := hI 0 (by rw [HL.out]; omega); rw [X0.out, Nat.add_zero] at h0; have B1 := Lib.hid hB; have I1 := Lib.hid hI; clear hO hB hI)
        go_returns
        have z := wordsR_tail (c := k1 - 1) I1.out B1.out
        rw [HM.out] at z
        exact z

set_option maxRecDepth 100000 in
set_option maxHeartbeats 6400000 in
theorem sCompare_any (a b : ByteArray) (ha : ename a = true) (hb : ename b = true) (w : World) :
    Calls Tryd.prog 24 #[.string a, .string b] w fun e w' => e = .returned (.int .i64 (cmpN a b)) ∧ Below w.heap.size w w' := by
  have sa : a.size ≤ 24 := by unfold ename at ha; rw [Bool.and_eq_true, decide_eq_true_eq] at ha; exact ha.1
  have sb : b.size ≤ 24 := by unfold ename at hb; rw [Bool.and_eq_true, decide_eq_true_eq] at hb; exact hb.1
  have WA := Lib.hid fun W => sWords_any a (by omega) W
  have WB := Lib.hid fun W => sWords_any b (by omega) W
  have na := Nat.le_trans (fw_len a) (pieces_len 32 a)
  have nb := Nat.le_trans (fw_len b) (pieces_len 32 b)
  have pa : ∀ i, i < (fw a).length → ((fw a).getD i ⟨#[]⟩).size ≤ 1048576 := fun i hi => Nat.le_trans (name_plain ha _ (by simp [List.getD, hi])).2 (by omega)
  have pb : ∀ i, i < (fw b).length → ((fw b).getD i ⟨#[]⟩).size ≤ 1048576 := fun i hi => Nat.le_trans (name_plain hb _ (by simp [List.getD, hi])).2 (by omega)
  have OR := Lib.hid (fun W => sOrder_any a b W)
  unfold cmpN
  generalize ordB a b = oab at *
  generalize fw a = xs at *
  generalize fw b = ys at *
  obtain ⟨n, hn⟩ : ∃ n, xs.length = n := ⟨_, rfl⟩
  obtain ⟨m, hm⟩ : ∃ m, ys.length = m := ⟨_, rfl⟩
  have HN := Lib.hid hn
  have HM := Lib.hid hm
  rw [hn] at na pa
  rw [hm] at nb pb
  have PA := Lib.hid pa
  have PB := Lib.hid pb
  have hbw := cell_bw
  clear ha hb hn hm pa pb
  have tok1 : True := trivial
  go_enter Tryd.func24, Tryd.ntmps24
  go_wp2_with (first
    | (go_at_call 37; have _t := tok1; clear _t tok1; refine (WA.out _).mono ?_; rintro e w1 ⟨a1, k1, rfl, hI, hB⟩; rw [HN.out]; have B1 := Lib.hid hB; have I1 := Lib.hid hI; clear hB hI)
    | (go_at_call 37; refine (WB.out _).mono ?_; rintro e w2 ⟨a2, k2, rfl, hI, hB⟩; rw [HM.out]; have B2 := Lib.hid (B1.out.trans (Below.mono hB B1.out.size)); have I2 := Lib.hid hI; have J2 := Lib.hid (strsIn_below I1.out hB); clear hB hI))
  go_loopw [7] (fun i wr => ∃ j : Nat, i = .int .i64 (j : Int) ∧ j ≤ n ∧ j ≤ m ∧ Hid (lcN xs ys j = none) ∧ Below w2.heap.size w2 wr) (fun i _ => n - (intOf i).toNat)
  case atStart => exact ⟨0, rfl, Nat.zero_le _, Nat.zero_le _, Lib.hid rfl, Below.refl _ _⟩
  case round =>
    obtain ⟨j, rfl, j1, j2, LC, hB⟩ := hrel
    have BB := Lib.hid hB
    by_cases hj1 : j < n
    · by_cases hj2 : j < m
      · have d1 : decide ((j : Int) < (n : Int)) = true := decide_eq_true (by omega)
        have d2 : decide ((j : Int) < (m : Int)) = true := decide_eq_true (by omega)
        have i0 : (0 : Int) ≤ (j : Int) := by omega
        have i1 : (j : Int) < (n : Int) := by omega
        have i2 : (j : Int) < (m : Int) := by omega
        obtain ⟨b1, o1, rfl, hb1, hc1⟩ := J2.out j (by rw [HN.out]; exact hj1)
        obtain ⟨b2, o2, rfl, hb2, hc2⟩ := I2.out j (by rw [HM.out]; exact hj2)
        have c1 := (hB.cell (p := ⟨b1, o1 + j, none⟩) hb1).trans hc1
        have c2 := (hB.cell (p := ⟨b2, o2 + j, none⟩) hb2).trans hc2
        have y1 := Nat.lt_of_lt_of_le hb1 hB.size
        have y2 := Nat.lt_of_lt_of_le hb2 hB.size
        have W := fun W => sWord_any (xs.getD j ⟨#[]⟩) (ys.getD j ⟨#[]⟩) (PA.out j hj1) (PB.out j hj2) W
        have x5 : IntKind.i64.wrap ((j : Int) + 1) = (j : Int) + 1 := IntWalk.i64_in _ (by omega)
        by_cases h0 : wcmp (xs.getD j ⟨#[]⟩) (ys.getD j ⟨#[]⟩) = 0
        · have LN := Lib.hid (lcN_next LC.out h0)
          rw [h0] at W
          have W := Lib.hid W
          generalize xs.getD j ⟨#[]⟩ = u at *
          generalize ys.getD j ⟨#[]⟩ = v at *
          clear h0 hB hc1 hc2
          go_wp2_with fail
          refine region_bw (by kernel_rfl) (by kernel_rfl) ?_
          repeat (go_big_quiet_step (first | (go_at_call 38; exact calls_bw_same (W.out _))))
          refine wpQuiet_nil ?_; intro wq hq; replace hq := below_of_bw hq; obtain ⟨qc, qf, qz⟩ := bcell hq
          have B3 := Lib.hid (BB.out.trans (Below.mono hq BB.out.size))
          clear hq qc qf qz
          go_wp2
          exact ⟨⟨j + 1, by rw [Int.natCast_succ], hj1, hj2, LN, B3.out⟩, by (simp [intOf]) <;> omega⟩
        · have LN := Lib.hid (lc_hit LC.out h0 (show j < min xs.length ys.length by rw [HN.out, HM.out]; omega))
          have NZ := Lib.hid h0
          generalize hz : wcmp (xs.getD j ⟨#[]⟩) (ys.getD j ⟨#[]⟩) = z at *
          have nz : (z != 0) = true := by rw [bne_iff_ne]; exact NZ.out
          have W := Lib.hid W
          have FN := Lib.hid (cnV_yes (o := oab) (LN.out.trans hz) NZ.out)
          generalize xs.getD j ⟨#[]⟩ = u at *
          generalize ys.getD j ⟨#[]⟩ = v at *
          clear h0 hB hc1 hc2 hz
          go_wp2_with fail
          refine region_bw (by kernel_rfl) (by kernel_rfl) ?_
          repeat (go_big_quiet_step (first | (go_at_call 38; exact calls_bw_same (W.out _))))
          refine wpQuiet_nil ?_; intro wq hq; replace hq := below_of_bw hq; obtain ⟨qc, qf, qz⟩ := bcell hq
          have B3 := Lib.hid (BB.out.trans (Below.mono hq BB.out.size))
          clear hq qc qf qz
          go_wp2
          go_returns
          exact ⟨by rw [FN.out]; rfl, B2.out.trans (Below.mono B3.out B2.out.size)⟩
      · have e : j = m := by omega
        subst e
        have d1 : decide ((j : Int) < (n : Int)) = true := decide_eq_true (by omega)
        have d2 : decide ((j : Int) < (j : Int)) = false := by simp
        have ne : ((n : Int) != (j : Int)) = true := by rw [bne_iff_ne]; omega
        have x1 : IntKind.i64.wrap ((n : Int) - (j : Int)) = (n : Int) - (j : Int) := IntWalk.i64_in _ (by omega)
        have FN := Lib.hid (show cnV xs ys oab = sgn ((n : Int) - (j : Int)) by
          rw [sgn_cmp]
          exact cnV_yes (by rw [lc_end (by rw [HN.out, HM.out, Nat.min_eq_right (by omega)]; exact LC.out), HN.out, HM.out]) (cmpI_ne (by omega)))
        clear hB
        go_wp2_with (go_at_call 39; refine (sSign_any _ _).mono ?_; rintro e w1 ⟨rfl, rfl⟩)
        go_returns
        exact ⟨by rw [FN.out]; rfl, B2.out.trans (Below.mono BB.out B2.out.size)⟩
    · have e : j = n := by omega
      subst e
      have d1 : decide ((j : Int) < (j : Int)) = false := by simp
      by_cases hm : j = m
      · subst hm
        have ne : ((j : Int) != (j : Int)) = false := by simp
        have FN := Lib.hid (show cnV xs ys oab = oab from cnV_no (by rw [lc_end (by rw [HN.out, HM.out, Nat.min_self]; exact LC.out), HN.out, HM.out, cmpI_eq]))
        clear hB
        go_wp2_with (go_at_call 40; refine (OR.out _).mono ?_; rintro e w1 ⟨rfl, rfl⟩)
        go_returns
        exact ⟨by rw [FN.out]; rfl, B2.out.trans (Below.mono BB.out B2.out.size)⟩
      · have ne : ((j : Int) != (m : Int)) = true := by rw [bne_iff_ne]; omega
        have x1 : IntKind.i64.wrap ((j : Int) - (m : Int)) = (j : Int) - (m : Int) := IntWalk.i64_in _ (by omega)
        have FN := Lib.hid (show cnV xs ys oab = sgn ((j : Int) - (m : Int)) by
          rw [sgn_cmp]
          exact cnV_yes (by rw [lc_end (by rw [HN.out, HM.out, Nat.min_eq_left (by omega)]; exact LC.out), HN.out, HM.out]) (cmpI_ne (by omega)))
        clear hB hm
        go_wp2_with (go_at_call 39; refine (sSign_any _ _).mono ?_; rintro e w1 ⟨rfl, rfl⟩)
        go_returns
        exact ⟨by rw [FN.out]; rfl, B2.out.trans (Below.mono BB.out B2.out.size)⟩

def cnR (a b : ByteArray) : Value := if ename a = true ∧ ename b = true then .tuple #[.int .i64 (cmpN a b), .int .i64 0] else .tuple #[.int .i64 0, .int .i64 1]
theorem cnR_no {a b : ByteArray} (h : ename a = false ∨ ename b = false) : cnR a b = .tuple #[.int .i64 0, .int .i64 1] := by unfold cnR; rw [if_neg (by rintro ⟨h1, h2⟩; rcases h with h | h <;> simp_all)]
theorem cnR_yes {a b : ByteArray} (h1 : ename a = true) (h2 : ename b = true) : cnR a b = .tuple #[.int .i64 (cmpN a b), .int .i64 0] := by unfold cnR; rw [if_pos ⟨h1, h2⟩]
set_option maxHeartbeats 1600000 in
theorem sCompareNames_any (a b : ByteArray) (hna : a.size ≤ 1048576) (hnb : b.size ≤ 1048576) (w : World) :
    Calls Tryd.prog 7 #[.string a, .string b] w fun e w' => e = .returned (cnR a b) ∧ Below w.heap.size w w' := by
  have N1 := fun W => sEName_any a W (by unfold maxLen; omega)
  have N2 := fun W => sEName_any b W (by unfold maxLen; omega)
  have tok1 : True := trivial
  cases ha : ename a
  · rw [cnR_no (.inl ha)]
    rw [ha] at N1
    have N1 := Lib.hid N1
    clear ha N2
    go_enter Tryd.func7, Tryd.ntmps7
    go_wp2_with (go_at_call 23; refine (N1.out _).mono ?_; rintro e w1 ⟨rfl, hB⟩; have B1 := Lib.hid hB; clear hB)
    go_returns
    exact ⟨rfl, B1.out⟩
  · cases hb : ename b
    · rw [cnR_no (.inr hb)]
      rw [ha] at N1
      rw [hb] at N2
      have N1 := Lib.hid N1
      have N2 := Lib.hid N2
      clear ha hb
      go_enter Tryd.func7, Tryd.ntmps7
      go_wp2_with (first
        | (go_at_call 23; have _t := tok1; clear _t tok1; refine (N1.out _).mono ?_; rintro e w1 ⟨rfl, hB⟩; have B1 := Lib.hid hB; clear hB)
        | (go_at_call 23; refine (N2.out _).mono ?_; rintro e w2 ⟨rfl, hB⟩; have B2 := Lib.hid (B1.out.trans (Below.mono hB B1.out.size)); clear hB))
      go_returns
      exact ⟨rfl, B2.out⟩
    · rw [cnR_yes ha hb]
      have CM := Lib.hid fun W => sCompare_any a b ha hb W
      rw [ha] at N1
      rw [hb] at N2
      have N1 := Lib.hid N1
      have N2 := Lib.hid N2
      clear ha hb
      go_enter Tryd.func7, Tryd.ntmps7
      go_wp2_with (first
        | (go_at_call 23; have _t := tok1; clear _t tok1; refine (N1.out _).mono ?_; rintro e w1 ⟨rfl, hB⟩; have B1 := Lib.hid hB; clear hB)
        | (go_at_call 23; refine (N2.out _).mono ?_; rintro e w2 ⟨rfl, hB⟩; have B2 := Lib.hid (B1.out.trans (Below.mono hB B1.out.size)); clear hB)
        | (go_at_call 24; refine (CM.out _).mono ?_; rintro e w3 ⟨rfl, hB⟩; have B3 := Lib.hid (B2.out.trans (Below.mono hB B2.out.size)); clear hB))
      go_returns
      exact ⟨rfl, B3.out⟩
end Go.Proofs.YtnfhhckkealkpaaDoor
