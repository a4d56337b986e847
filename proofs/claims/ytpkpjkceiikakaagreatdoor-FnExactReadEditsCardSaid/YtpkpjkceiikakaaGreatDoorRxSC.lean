/- Contract: the model's ReadEdits. -/
import Derived.Test.YtpkpjkceiikakaaGreatDoorRxY
import Derived.Test.YtpkpjkceiikakaaGreatDoorReHC
import Derived.Test.YtpkpjkceiikakaaGreatDoorReCC
namespace Go.Proofs.YtpkpjkceiikakaaGreatDoor
open Go.ChangeShapes Go.WideShapes Go.ChangeAt Go.RowKit

theorem sRed_any (line : ByteArray) (hs : line.size ≤ 1048576) (w : World) :
    Calls Tryz.prog 25 #[.string line] w (ReR line w) := by
  obtain ⟨wd, ws, hp⟩ := two_of 32 line
  match hw : ws, hp with
  | [], hp => exact sRed_plain line hs wd [] hp (.inl rfl) (reK_one hp) w
  | x :: r, hp =>
    rcases kindO_cases wd with (h | h) | h | h
    · exact sRed_card1 line hs wd _ hp x r rfl h w
    · exact sRed_card2 line hs wd _ hp x r rfl h w
    · exact sRed_hole line hs wd _ hp x r rfl h w
    · exact sRed_plain line hs wd _ hp (.inr h) (reK_zero hp h) w
theorem sRed_no (line : ByteArray) (hs : line.size ≤ 1048576) (h : reI line = none) (w : World) :
    Calls Tryz.prog 25 #[.string line] w fun e w' => ∃ k s h a b, e = .returned (.tuple #[.agg #[.int .i8 k, .string s, .int .i16 h, .int .u64 a, .int .u64 b], .bool false]) ∧ Below w.heap.size w w' :=
  (sRed_any line hs w).mono fun e w' h' => by
    obtain ⟨⟨k, s, hh, a, b⟩, he, _, hb⟩ := h'
    exact ⟨k, s, hh, a, b, by rw [he, h]; rfl, hb⟩
theorem sRed_yes (line : ByteArray) (hs : line.size ≤ 1048576) (k : Int) (s : ByteArray) (hh a b : Int) (h : reI line = some ⟨k, s, hh, a, b⟩) (w : World) :
    Calls Tryz.prog 25 #[.string line] w fun e w' => e = .returned (.tuple #[.agg #[.int .i8 k, .string s, .int .i16 hh, .int .u64 a, .int .u64 b], .bool true]) ∧ Below w.heap.size w w' :=
  (sRed_any line hs w).mono fun e w' h' => by
    obtain ⟨x, he, hq, hb⟩ := h'
    have hq := hq _ h
    subst hq
    exact ⟨by rw [he, h]; rfl, hb⟩
theorem ownE_made {w : World} {n B : Nat} (hn : n = w.heap.size) (hB : B ≤ w.heap.size) : OwnEdits B [] (.slice (some ⟨n, 0, none⟩) 0 0) (w.alloc (.cells #[] 53)) := by
  subst hn; exact World.ownsRow_made w #[] 0 hB (Nat.zero_le _) rfl
theorem rxS_last {s : ByteArray} (h : (pieces 10 s).getLast? ≠ some ByteArray.empty) : rxS s = none := by unfold rxS; rw [if_neg (fun q => h q.1)]
theorem rxS_many {s : ByteArray} (h : ¬ (pieces 10 s).length - 1 ≤ 200) : rxS s = none := by unfold rxS; rw [if_neg (fun q => h q.2)]
theorem rxS_bad {s : ByteArray} {j : Nat} (hj : j + 1 ≤ (pieces 10 s).length) (h : rdM reI ((pieces 10 s).take j) = none) : rxS s = none := by
  unfold rxS
  split
  · have e : (pieces 10 s).dropLast = (pieces 10 s).take j ++ ((pieces 10 s).dropLast).drop j := by
      rw [List.dropLast_eq_take]
      conv => lhs; rw [← List.take_append_drop j ((pieces 10 s).take ((pieces 10 s).length - 1))]
      rw [List.take_take, Nat.min_eq_left (by omega)]
    rw [e, ← rdM_same, rdM_none_app h]
  · rfl
theorem rxS_at {s : ByteArray} {ds : List Ed} (hl : (pieces 10 s).getLast? = some ByteArray.empty) (h2 : (pieces 10 s).length - 1 ≤ 200) (h : rdM reI ((pieces 10 s).take ((pieces 10 s).length - 1)) = some ds) : rxS s = some ds := by
  unfold rxS
  rw [if_pos ⟨hl, h2⟩, List.dropLast_eq_take, ← rdM_same, h]
theorem take_next {ps : List ByteArray} {j : Nat} (h : j < ps.length) : ps.take (j + 1) = ps.take j ++ [ps.getD j ⟨#[]⟩] := by
  rw [List.take_add_one, List.getElem?_eq_getElem h]
  simp [List.getD, h]
theorem last_at {ps : List ByteArray} (h : ps ≠ []) : ps.getLast? = some (ps.getD (ps.length - 1) ⟨#[]⟩) := by
  rw [List.getLast?_eq_getElem?, List.getElem?_eq_getElem (by have := List.length_pos_iff.2 h; omega)]
  simp [List.getD, show ps.length - 1 < ps.length by have := List.length_pos_iff.2 h; omega]
theorem empty_of {s : ByteArray} (h : s.toList.isEmpty = true) : s = ByteArray.empty := by
  rw [Lib.toList_data, List.isEmpty_iff] at h
  exact data_inj h

theorem startX_yes {ps : List ByteArray} {n : Nat} {lv : ByteArray} {b : Bool} (h : ps.getLast? = some lv) (hb : lv.toList.isEmpty = true) (h2 : decide (((n - 1 : Nat) : Int) ≤ 200) = b) : b = true → rdM reI (ps.take 0) = some [] ∧ ps.getLast? = some ByteArray.empty ∧ n - 1 ≤ 200 := by
  rintro rfl
  exact ⟨rfl, by rw [h, empty_of hb], by have := of_decide_eq_true h2; omega⟩
theorem startX_no {s : ByteArray} {n : Nat} {b : Bool} (hM : ¬ n - 1 ≤ 200 → rxS s = none) (h2 : decide (((n - 1 : Nat) : Int) ≤ 200) = b) : b = false → rxS s = none := by
  rintro rfl
  exact hM (by have := of_decide_eq_false h2; omega)
theorem startX_bad {s : ByteArray} {ps : List ByteArray} {lv : ByteArray} (hL : ps.getLast? ≠ some ByteArray.empty → rxS s = none) (h : ps.getLast? = some lv) (hb : lv.toList.isEmpty = false) : rxS s = none := by
  apply hL
  rw [h]
  intro e
  rw [Option.some.inj e] at hb
  exact absurd hb (by rw [Lib.toList_data]; decide)

set_option maxRecDepth 100000 in
set_option maxHeartbeats 6400000 in
theorem sReadEdits_any (s : ByteArray) (hs : s.size ≤ 1048576) (w : World) :
    Calls Tryz.prog 10 #[.string s] w (RxR (rxS s) w) := by
  obtain ⟨i0, hi, hz0, hz1, hz2⟩ := info_parts info_ed
  have SP := Lib.hid fun W => sSplitAt_any s 10 (by omega) W
  have hfit := pieces_fit 10 s
  have hne := pieces_ne 10 s
  have hlen := pieces_len 10 s
  have hla := last_at hne
  obtain ⟨ps, hps⟩ : ∃ ps, ps = pieces 10 s := ⟨_, rfl⟩
  have BD := Lib.hid fun j hj (h : rdM reI (ps.take j) = none) => rxS_bad (s := s) (j := j) (by rw [← hps]; exact hj) (by rw [← hps]; exact h)
  have LA := Lib.hid fun (h : ps.getLast? ≠ some ByteArray.empty) => rxS_last (s := s) (by rw [← hps]; exact h)
  have AT := Lib.hid fun ds (h1 : ps.getLast? = some ByteArray.empty) (h2 : ps.length - 1 ≤ 200) (h : rdM reI (ps.take (ps.length - 1)) = some ds) => rxS_at (s := s) (ds := ds) (by rw [← hps]; exact h1) (by rw [← hps]; exact h2) (by rw [← hps]; exact h)
  have MA := Lib.hid fun (h2 : ¬ ps.length - 1 ≤ 200) => rxS_many (s := s) (by rw [← hps]; exact h2)
  rw [← hps] at SP hfit hne hlen hla
  clear hps
  have FW := Lib.hid (fun i (hi : i < ps.length) => Nat.le_trans (hfit (ps.getD i ⟨#[]⟩) (by simp [List.getD, hi])) hs)
  obtain ⟨n, hn⟩ : ∃ n, n = ps.length := ⟨_, rfl⟩
  have hn1 : 1 ≤ n := by rw [hn]; exact List.length_pos_iff.2 hne
  have hn2 : n ≤ 1048577 := by omega
  have HN := Lib.hid hn
  have HL := Lib.hid hla
  have kw : IntKind.i64.wrap ((n : Int) - 1) = ((n - 1 : Nat) : Int) := by rw [show (n : Int) - 1 = ((n - 1 : Nat) : Int) by omega]; exact IntWalk.i64_in _ (by omega)
  have i1 : (0 : Int) ≤ ((n - 1 : Nat) : Int) := by omega
  have i2 : ((n - 1 : Nat) : Int) < (n : Int) := by omega
  clear hfit hne hlen hla hn
  obtain ⟨lv, hlv⟩ : ∃ lv, lv = ps.getD (n - 1) ⟨#[]⟩ := ⟨_, rfl⟩
  have LV := Lib.hid hlv
  clear hlv
  have EM2 := Lib.hid (show ¬ n - 1 ≤ 200 → rxS s = none by rw [HN.out]; exact MA.out)
  obtain ⟨b2, h2⟩ : ∃ b2, decide (((n - 1 : Nat) : Int) ≤ 200) = b2 := ⟨_, rfl⟩
  have H2 := Lib.hid h2
  have EL : Hid (ps.getLast? = some lv) := Lib.hid (by rw [HL.out, LV.out, HN.out])
  cases hl : lv.toList.isEmpty
  · have EN := Lib.hid (startX_bad LA.out EL.out hl)
    go_enter Tryz.func10, Tryz.ntmps10
    go_wp2_with (go_at_call 15; refine (SP.out _).mono ?_; rintro e w1 ⟨v, rfl, hO, hB⟩; obtain ⟨a1, k1, hv, hI⟩ := ownStrs_in hO; rw [← HN.out] at hv; obtain ⟨bq, oq, ha1, l1, hc⟩ := strsC_at hI (by rw [← HN.out]; exact hn1); subst ha1; subst hv; have B1 := Lib.hid hB; have d0 := hc (n - 1) (by rw [← HN.out]; omega); rw [← LV.out] at d0; have DD := Lib.hid (fun k (h2 : k < n) => hc k (by rw [← HN.out]; exact h2)); have L1 := Lib.hid l1; clear hO hB hI hc)
    have O1 := Lib.hid (ownE_made (w := w1) (B := w1.heap.size) rfl (Nat.le_refl _))
    have A1 := Lib.hid (below_new (Below.refl w1.heap.size w1) (.cells #[] 53))
    clear d0 l1
    go_loopw [5, 6, 7] (fun v okv i wr => ∃ (j : Nat) (ds : List Ed) (b : Bool), j + 1 ≤ n ∧ ds.length = j ∧ (b = true → rdM reI (ps.take j) = some ds ∧ ps.getLast? = some ByteArray.empty ∧ n - 1 ≤ 200) ∧ (b = false → rxS s = none) ∧ i = .int .i64 (j : Int) ∧ okv = .bool b ∧ OwnEdits w1.heap.size ds v wr ∧ Below w1.heap.size w1 wr) (fun _ _ i _ => n - (intOf i).toNat)
    case atStart => exact ⟨0, [], false, hn1, rfl, fun h => (by cases h), fun _ => EN.out, rfl, rfl, O1.out, A1.out⟩
    case round =>
      obtain ⟨j, ds, b, hj, hd, ht, hf, rfl, rfl, hO, hA⟩ := hrel
      have OO := Lib.hid hO
      have AA := Lib.hid hA
      have x1 : IntKind.i64.wrap ((j : Int) + 1) = (j : Int) + 1 := IntWalk.i64_in _ (by omega)
      have HD := Lib.hid hd
      have hd2 : ds.length + 1 ≤ 1048577 := by omega
      clear hO hA hd
      cases b
      · have EQ := Lib.hid (hf rfl)
        clear ht hf
        by_cases hjn : j + 1 < n
        all_goals
          have dl : decide ((j : Int) + 1 < (n : Int)) = decide (j + 1 < n) := by rw [Bool.eq_iff_iff, decide_eq_true_eq, decide_eq_true_eq]; omega
          simp only [hjn, decide_true, decide_false] at dl
          go_wp2
          go_returns
          exact ⟨_, by rw [EQ.out]; rfl, by rw [EQ.out]; exact ownE_made rfl (Nat.le_trans B1.out.size AA.out.size), below_new (B1.out.trans (Below.mono AA.out B1.out.size)) _⟩
      · obtain ⟨hr, hq⟩ := ht rfl
        have RR := Lib.hid hr
        have QQ := Lib.hid hq
        clear ht hf hr hq
        by_cases hjn : j + 1 < n
        · have dl : decide ((j : Int) + 1 < (n : Int)) = true := decide_eq_true (by omega)
          have c1 : wr.cell? ⟨bq, oq + j, none⟩ = some (.string (ps.getD j ⟨#[]⟩)) := (AA.out.cell (p := ⟨bq, oq + j, none⟩) L1.out).trans (DD.out j (by omega))
          have l1 := Nat.lt_of_lt_of_le L1.out AA.out.size
          have fw := FW.out j (by rw [← HN.out]; omega)
          have j1 : (0 : Int) ≤ (j : Int) := by omega
          have j2 : (j : Int) < (n : Int) := by omega
          have TN := Lib.hid (take_next (ps := ps) (j := j) (by rw [← HN.out]; omega))
          generalize ps.getD j ⟨#[]⟩ = y at *
          cases hc : reI y with
          | none =>
            have EQ := Lib.hid (BD.out (j + 1) (by rw [← HN.out]; omega) (by rw [TN.out]; exact rdM_bad hc []))
            have C := Lib.hid (sRed_no y fw hc)
            go_wp2_with (first
              | (go_at_call 25; refine (C.out _).mono ?_; rintro e w3 ⟨ek, es, eh, ea, eb, rfl, hB⟩; have O3 := Lib.hid (World.ownsRow.alloc (ownEdits_kept OO.out hB) (.cells #[.int .i8 ek, .string es, .int .i16 eh, .int .u64 ea, .int .u64 eb] 53)); have A3 := Lib.hid (AA.out.trans (Below.mono hB AA.out.size)); clear hB)
              | (at_builtin; go_loud (refine wpList_append_own _ rfl _ _ 28 rfl w1.heap.size 53 i0 (.agg #[.int .i8 0, .string ByteArray.empty, .int .i16 0, .int .u64 0, .int .u64 0]) 5 48 Tryz.underlying28 hi hz0 hz1 hz2 rfl (by decide) _ _ _ rfl (World.ownsRow.alloc O3.out _) ⟨w3.heap.size + 1, 0, none⟩ 1 1 [.int .i8 ek, .string es, .int .i16 eh, .int .u64 ea, .int .u64 eb] rfl rfl (new5N _ _ (by simp) _ _ _ _ _ _) (fun x hx => by simp at hx; rcases hx with rfl | rfl | rfl | rfl | rfl <;> rfl) (by unfold maxLen; omega) (by omega) (by have h := A3.out.size; first | (simp; done) | (simp; omega)) ?_; intro v' w5 hown hgrow _; have P := Lib.hid (ownEdits_push hown); have G := Lib.hid (Below.grown ((A3.out.alloc A3.out.size (.cells #[.int .i8 ek, .string es, .int .i16 eh, .int .u64 ea, .int .u64 eb] 53)).alloc (by have h := A3.out.size; first | (simp; done) | (simp; omega)) (.cells #[.int .i8 ek, .string es, .int .i16 eh, .int .u64 ea, .int .u64 eb] 53)) hgrow (by have h := A3.out.size; first | (simp; done) | (simp; omega)) (fun j hj => (World.ownsRow.lt OO.out j hj).1)); clear hown hgrow)))
            exact ⟨⟨j + 1, _, false, by omega, by rw [List.length_append, HD.out]; rfl, fun h => (by cases h), fun _ => EQ.out, by go_num, rfl, P.out, G.out⟩, by (simp [intOf]) <;> omega⟩
          | some c =>
            obtain ⟨kd, nm, hh, a, b⟩ := c
            have EQ := Lib.hid (show rdM reI (ps.take (j + 1)) = some (ds ++ [Ed.mk kd nm hh a b]) by rw [TN.out]; exact rdM_snoc RR.out hc)
            have C := Lib.hid (sRed_yes y fw kd nm hh a b hc)
            go_wp2_with (first
              | (go_at_call 25; refine (C.out _).mono ?_; rintro e w3 ⟨rfl, hB⟩; have O3 := Lib.hid (World.ownsRow.alloc (ownEdits_kept OO.out hB) (.cells #[.int .i8 kd, .string nm, .int .i16 hh, .int .u64 a, .int .u64 b] 53)); have A3 := Lib.hid (AA.out.trans (Below.mono hB AA.out.size)); clear hB)
              | (at_builtin; go_loud (refine wpList_append_own _ rfl _ _ 28 rfl w1.heap.size 53 i0 (.agg #[.int .i8 0, .string ByteArray.empty, .int .i16 0, .int .u64 0, .int .u64 0]) 5 48 Tryz.underlying28 hi hz0 hz1 hz2 rfl (by decide) _ _ _ rfl (World.ownsRow.alloc O3.out _) ⟨w3.heap.size + 1, 0, none⟩ 1 1 [.int .i8 kd, .string nm, .int .i16 hh, .int .u64 a, .int .u64 b] rfl rfl (new5N _ _ (by simp) _ _ _ _ _ _) (fun x hx => by simp at hx; rcases hx with rfl | rfl | rfl | rfl | rfl <;> rfl) (by unfold maxLen; omega) (by omega) (by have h := A3.out.size; first | (simp; done) | (simp; omega)) ?_; intro v' w5 hown hgrow _; have P := Lib.hid (ownEdits_push hown); have G := Lib.hid (Below.grown ((A3.out.alloc A3.out.size (.cells #[.int .i8 kd, .string nm, .int .i16 hh, .int .u64 a, .int .u64 b] 53)).alloc (by have h := A3.out.size; first | (simp; done) | (simp; omega)) (.cells #[.int .i8 kd, .string nm, .int .i16 hh, .int .u64 a, .int .u64 b] 53)) hgrow (by have h := A3.out.size; first | (simp; done) | (simp; omega)) (fun j hj => (World.ownsRow.lt OO.out j hj).1)); clear hown hgrow)))
            exact ⟨⟨j + 1, _, true, by omega, by rw [List.length_append, HD.out]; rfl, fun _ => ⟨EQ.out, QQ.out⟩, fun h => (by cases h), by go_num, rfl, P.out, G.out⟩, by (simp [intOf]) <;> omega⟩
        · have ej : j = n - 1 := by omega
          have dl : decide ((j : Int) + 1 < (n : Int)) = false := decide_eq_false (by omega)
          have EQ := Lib.hid (AT.out ds QQ.out.1 (by rw [← HN.out]; exact QQ.out.2) (by rw [← HN.out, ← ej]; exact RR.out))
          clear ej
          go_wp2
          go_returns
          exact ⟨_, by rw [EQ.out]; rfl, by rw [EQ.out]; exact ownEdits_weaken OO.out B1.out.size, B1.out.trans (Below.mono AA.out B1.out.size)⟩
  · have YE := Lib.hid (startX_yes (n := n) EL.out hl h2)
    have NO := Lib.hid (startX_no EM2.out h2)
    go_enter Tryz.func10, Tryz.ntmps10
    go_wp2_with (go_at_call 15; refine (SP.out _).mono ?_; rintro e w1 ⟨v, rfl, hO, hB⟩; obtain ⟨a1, k1, hv, hI⟩ := ownStrs_in hO; rw [← HN.out] at hv; obtain ⟨bq, oq, ha1, l1, hc⟩ := strsC_at hI (by rw [← HN.out]; exact hn1); subst ha1; subst hv; have B1 := Lib.hid hB; have d0 := hc (n - 1) (by rw [← HN.out]; omega); rw [← LV.out] at d0; have DD := Lib.hid (fun k (h2 : k < n) => hc k (by rw [← HN.out]; exact h2)); have L1 := Lib.hid l1; clear hO hB hI hc)
    have O1 := Lib.hid (ownE_made (w := w1) (B := w1.heap.size) rfl (Nat.le_refl _))
    have A1 := Lib.hid (below_new (Below.refl w1.heap.size w1) (.cells #[] 53))
    clear d0 l1
    go_loopw [5, 6, 7] (fun v okv i wr => ∃ (j : Nat) (ds : List Ed) (b : Bool), j + 1 ≤ n ∧ ds.length = j ∧ (b = true → rdM reI (ps.take j) = some ds ∧ ps.getLast? = some ByteArray.empty ∧ n - 1 ≤ 200) ∧ (b = false → rxS s = none) ∧ i = .int .i64 (j : Int) ∧ okv = .bool b ∧ OwnEdits w1.heap.size ds v wr ∧ Below w1.heap.size w1 wr) (fun _ _ i _ => n - (intOf i).toNat)
    case atStart => exact ⟨0, [], b2, hn1, rfl, YE.out, NO.out, rfl, rfl, O1.out, A1.out⟩
    case round =>
      obtain ⟨j, ds, b, hj, hd, ht, hf, rfl, rfl, hO, hA⟩ := hrel
      have OO := Lib.hid hO
      have AA := Lib.hid hA
      have x1 : IntKind.i64.wrap ((j : Int) + 1) = (j : Int) + 1 := IntWalk.i64_in _ (by omega)
      have HD := Lib.hid hd
      have hd2 : ds.length + 1 ≤ 1048577 := by omega
      clear hO hA hd
      cases b
      · have EQ := Lib.hid (hf rfl)
        clear ht hf
        by_cases hjn : j + 1 < n
        all_goals
          have dl : decide ((j : Int) + 1 < (n : Int)) = decide (j + 1 < n) := by rw [Bool.eq_iff_iff, decide_eq_true_eq, decide_eq_true_eq]; omega
          simp only [hjn, decide_true, decide_false] at dl
          go_wp2
          go_returns
          exact ⟨_, by rw [EQ.out]; rfl, by rw [EQ.out]; exact ownE_made rfl (Nat.le_trans B1.out.size AA.out.size), below_new (B1.out.trans (Below.mono AA.out B1.out.size)) _⟩
      · obtain ⟨hr, hq⟩ := ht rfl
        have RR := Lib.hid hr
        have QQ := Lib.hid hq
        clear ht hf hr hq
        by_cases hjn : j + 1 < n
        · have dl : decide ((j : Int) + 1 < (n : Int)) = true := decide_eq_true (by omega)
          have c1 : wr.cell? ⟨bq, oq + j, none⟩ = some (.string (ps.getD j ⟨#[]⟩)) := (AA.out.cell (p := ⟨bq, oq + j, none⟩) L1.out).trans (DD.out j (by omega))
          have l1 := Nat.lt_of_lt_of_le L1.out AA.out.size
          have fw := FW.out j (by rw [← HN.out]; omega)
          have j1 : (0 : Int) ≤ (j : Int) := by omega
          have j2 : (j : Int) < (n : Int) := by omega
          have TN := Lib.hid (take_next (ps := ps) (j := j) (by rw [← HN.out]; omega))
          generalize ps.getD j ⟨#[]⟩ = y at *
          cases hc : reI y with
          | none =>
            have EQ := Lib.hid (BD.out (j + 1) (by rw [← HN.out]; omega) (by rw [TN.out]; exact rdM_bad hc []))
            have C := Lib.hid (sRed_no y fw hc)
            go_wp2_with (first
              | (go_at_call 25; refine (C.out _).mono ?_; rintro e w3 ⟨ek, es, eh, ea, eb, rfl, hB⟩; have O3 := Lib.hid (World.ownsRow.alloc (ownEdits_kept OO.out hB) (.cells #[.int .i8 ek, .string es, .int .i16 eh, .int .u64 ea, .int .u64 eb] 53)); have A3 := Lib.hid (AA.out.trans (Below.mono hB AA.out.size)); clear hB)
              | (at_builtin; go_loud (refine wpList_append_own _ rfl _ _ 28 rfl w1.heap.size 53 i0 (.agg #[.int .i8 0, .string ByteArray.empty, .int .i16 0, .int .u64 0, .int .u64 0]) 5 48 Tryz.underlying28 hi hz0 hz1 hz2 rfl (by decide) _ _ _ rfl (World.ownsRow.alloc O3.out _) ⟨w3.heap.size + 1, 0, none⟩ 1 1 [.int .i8 ek, .string es, .int .i16 eh, .int .u64 ea, .int .u64 eb] rfl rfl (new5N _ _ (by simp) _ _ _ _ _ _) (fun x hx => by simp at hx; rcases hx with rfl | rfl | rfl | rfl | rfl <;> rfl) (by unfold maxLen; omega) (by omega) (by have h := A3.out.size; first | (simp; done) | (simp; omega)) ?_; intro v' w5 hown hgrow _; have P := Lib.hid (ownEdits_push hown); have G := Lib.hid (Below.grown ((A3.out.alloc A3.out.size (.cells #[.int .i8 ek, .string es, .int .i16 eh, .int .u64 ea, .int .u64 eb] 53)).alloc (by have h := A3.out.size; first | (simp; done) | (simp; omega)) (.cells #[.int .i8 ek, .string es, .int .i16 eh, .int .u64 ea, .int .u64 eb] 53)) hgrow (by have h := A3.out.size; first | (simp; done) | (simp; omega)) (fun j hj => (World.ownsRow.lt OO.out j hj).1)); clear hown hgrow)))
            exact ⟨⟨j + 1, _, false, by omega, by rw [List.length_append, HD.out]; rfl, fun h => (by cases h), fun _ => EQ.out, by go_num, rfl, P.out, G.out⟩, by (simp [intOf]) <;> omega⟩
          | some c =>
            obtain ⟨kd, nm, hh, a, b⟩ := c
            have EQ := Lib.hid (show rdM reI (ps.take (j + 1)) = some (ds ++ [Ed.mk kd nm hh a b]) by rw [TN.out]; exact rdM_snoc RR.out hc)
            have C := Lib.hid (sRed_yes y fw kd nm hh a b hc)
            go_wp2_with (first
              | (go_at_call 25; refine (C.out _).mono ?_; rintro e w3 ⟨rfl, hB⟩; have O3 := Lib.hid (World.ownsRow.alloc (ownEdits_kept OO.out hB) (.cells #[.int .i8 kd, .string nm, .int .i16 hh, .int .u64 a, .int .u64 b] 53)); have A3 := Lib.hid (AA.out.trans (Below.mono hB AA.out.size)); clear hB)
              | (at_builtin; go_loud (refine wpList_append_own _ rfl _ _ 28 rfl w1.heap.size 53 i0 (.agg #[.int .i8 0, .string ByteArray.empty, .int .i16 0, .int .u64 0, .int .u64 0]) 5 48 Tryz.underlying28 hi hz0 hz1 hz2 rfl (by decide) _ _ _ rfl (World.ownsRow.alloc O3.out _) ⟨w3.heap.size + 1, 0, none⟩ 1 1 [.int .i8 kd, .string nm, .int .i16 hh, .int .u64 a, .int .u64 b] rfl rfl (new5N _ _ (by simp) _ _ _ _ _ _) (fun x hx => by simp at hx; rcases hx with rfl | rfl | rfl | rfl | rfl <;> rfl) (by unfold maxLen; omega) (by omega) (by have h := A3.out.size; first | (simp; done) | (simp; omega)) ?_; intro v' w5 hown hgrow _; have P := Lib.hid (ownEdits_push hown); have G := Lib.hid (Below.grown ((A3.out.alloc A3.out.size (.cells #[.int .i8 kd, .string nm, .int .i16 hh, .int .u64 a, .int .u64 b] 53)).alloc (by have h := A3.out.size; first | (simp; done) | (simp; omega)) (.cells #[.int .i8 kd, .string nm, .int .i16 hh, .int .u64 a, .int .u64 b] 53)) hgrow (by have h := A3.out.size; first | (simp; done) | (simp; omega)) (fun j hj => (World.ownsRow.lt OO.out j hj).1)); clear hown hgrow)))
            exact ⟨⟨j + 1, _, true, by omega, by rw [List.length_append, HD.out]; rfl, fun _ => ⟨EQ.out, QQ.out⟩, fun h => (by cases h), by go_num, rfl, P.out, G.out⟩, by (simp [intOf]) <;> omega⟩
        · have ej : j = n - 1 := by omega
          have dl : decide ((j : Int) + 1 < (n : Int)) = false := decide_eq_false (by omega)
          have EQ := Lib.hid (AT.out ds QQ.out.1 (by rw [← HN.out]; exact QQ.out.2) (by rw [← HN.out, ← ej]; exact RR.out))
          clear ej
          go_wp2
          go_returns
          exact ⟨_, by rw [EQ.out]; rfl, by rw [EQ.out]; exact ownEdits_weaken OO.out B1.out.size, B1.out.trans (Below.mono AA.out B1.out.size)⟩
end Go.Proofs.YtpkpjkceiikakaaGreatDoor
