/- What a mask says about words: the program's hint, with the masks of the words. -/
import Derived.Test.YtoippchkhknhpaaMsk
namespace Go.Proofs.Ytoippchkhknhpaa
open Go.ChangeShapes Go.WideShapes Go.ChangeAt Go.RowKit

/-- What is told of the texts, of the first k, for which a test says yes. -/
def hm (f : ByteArray → Bool) (g : ByteArray → Int × Int) (zs : List ByteArray) : Nat → List (Int × Int)
  | 0 => []
  | k + 1 => if f (zs.getD k ⟨#[]⟩) then hm f g zs k ++ [g (zs.getD k ⟨#[]⟩)] else hm f g zs k
theorem hm_yes {f : ByteArray → Bool} {g : ByteArray → Int × Int} {zs : List ByteArray} {k : Nat} (h : f (zs.getD k ⟨#[]⟩) = true) : hm f g zs (k + 1) = hm f g zs k ++ [g (zs.getD k ⟨#[]⟩)] := by show (if _ then _ else _) = _; rw [if_pos h]
theorem hm_no {f : ByteArray → Bool} {g : ByteArray → Int × Int} {zs : List ByteArray} {k : Nat} (h : f (zs.getD k ⟨#[]⟩) = false) : hm f g zs (k + 1) = hm f g zs k := by show (if _ then _ else _) = _; rw [if_neg (by rw [h]; decide)]
theorem hm_len (f : ByteArray → Bool) (g : ByteArray → Int × Int) (zs : List ByteArray) : ∀ k, (hm f g zs k).length = (may f zs k).length
  | 0 => rfl
  | k + 1 => by
    have := hm_len f g zs k
    cases h : f (zs.getD k ⟨#[]⟩)
    · rw [hm_no h, may_no h, this]
    · rw [hm_yes h, may_yes h, List.length_append, List.length_append, this]; rfl
/-- The masks are those of the indices. -/
theorem hm_at (f : ByteArray → Bool) (g : ByteArray → Int × Int) (zs : List ByteArray) : ∀ k i, i < (may f zs k).length → ∃ j, j < k ∧ (may f zs k).getD i 0 = (j : Int) ∧ (hm f g zs k).getD i (0, 0) = g (zs.getD j ⟨#[]⟩)
  | 0, _, h => absurd h (Nat.not_lt_zero _)
  | k + 1, i, h => by
    have hl := hm_len f g zs k
    cases q : f (zs.getD k ⟨#[]⟩)
    · rw [may_no q] at h ⊢
      rw [hm_no q]
      obtain ⟨j, hj, r⟩ := hm_at f g zs k i h
      exact ⟨j, by omega, r⟩
    · rw [may_yes q] at h ⊢
      rw [hm_yes q]
      by_cases e : i < (may f zs k).length
      · obtain ⟨j, hj, r1, r2⟩ := hm_at f g zs k i e
        refine ⟨j, by omega, ?_, ?_⟩
        · rw [← r1]; simp [List.getD, List.getElem?_append_left e]
        · rw [← r2]; simp [List.getD, List.getElem?_append_left (hl ▸ e)]
      · have e2 : i = (may f zs k).length := by rw [List.length_append, List.length_singleton] at h; omega
        refine ⟨k, by omega, ?_, ?_⟩
        · subst e2; simp [List.getD]
        · rw [e2, ← hl]; simp [List.getD]
def hwP (t z : Int) (F : Int → Nat) (s : ByteArray) : Int × Int := ((hw0 t z F s : Int), (hw1 t z F s : Int))
def mayM (c : Int) (ms : List (Int × Int)) : List (Int × Int) := if c = 0 then ms else []
theorem mayM_no {c : Int} {ms : List (Int × Int)} (h : c ≠ 0) : mayM c ms = [] := if_neg h
theorem mayM_yes (ms : List (Int × Int)) : mayM 0 ms = ms := rfl
def mayT (c : Int) (x : Int) : Int := if c = 0 then x else 0
theorem mayT_no {c : Int} (x : Int) (h : c ≠ 0) : mayT c x = 0 := if_neg h
theorem mayT_yes (x : Int) : mayT 0 x = x := rfl
/-- A hint and a code: the indices and the masks are the call's own. -/
def HintM (c x y : Int) (xs : List Int) (ms : List (Int × Int)) (w : World) (e : Ending) (w' : World) : Prop := ∃ (v u : Value), e = .returned (.tuple #[.agg #[.int .u64 x, .int .u64 y, v, u], .int .i64 c]) ∧ OwnInts w.heap.size xs v w' ∧ OwnMs w.heap.size ms u w' ∧ Below w.heap.size w w'
theorem HintM.no {c : Int} {w w' : World} (hb : Below w.heap.size w w') : HintM c 0 0 [] [] w (.returned (.tuple #[.agg #[.int .u64 0, .int .u64 0, .slice none 0 0, .slice none 0 0], .int .i64 c])) w' := ⟨_, _, rfl, u_nil _ _, ownMs_nil _ _, hb⟩
/-- The loop's boxes: the hint with its two slices, and the three boxes. -/
def HInvM (w : World) (h : Nat) (t z p a b T0 T1 : Int) (xs : List Int) (ms : List (Int × Int)) (j : Nat) (wr : World) : Prop := ∃ v u, wr.heap[h]? = some (.cells #[.int .u64 T0, .int .u64 T1, v, u] 116 (0, 0)) ∧ OwnInts (h + 1) xs v wr ∧ OwnMs (h + 1) ms u wr ∧ ms.length ≤ j ∧ Rh w wr t z p a b
theorem own_belowM {w : World} {B k : Nat} {ms : List (Int × Int)} {v : Value} (h : OwnMs (B + 3) ms v w) (x : Value) : OwnMs (B + 3) ms v (w.setCell ⟨B + 2, k, none⟩ x) := ownsRow_setCell_below h (show B + 2 < B + 3 by omega) x

set_option maxRecDepth 100000 in
set_option maxHeartbeats 3200000 in
theorem iHintM_any (t z p : Int) (ht : I16 t) (hz : I16 z) (F : Int → Nat) (hF : mixOk t z p = true → StopF t z p F) (a b : Int) (ad : Option Addr) (zs : List ByteArray) (cap : Nat) (w : World) (h : StrsIn w ad zs) (hf : Fit zs) (hl : zs.length ≤ 9223372036854775807) :
    Calls Try.prog 95 #[.agg #[.int .i16 t, .int .i16 z, .int .i16 p], .agg #[.int .u64 a, .int .u64 b], .slice ad zs.length cap] w (HintM (askC (mixOk t z p) [(a, b)] zs 40) (mayT (askC (mixOk t z p) [(a, b)] zs 40) (bits .and .u64 a (mp0 t z))) (mayT (askC (mixOk t z p) [(a, b)] zs 40) (bits .and .u64 b (mp1 t z))) (mayL (askC (mixOk t z p) [(a, b)] zs 40) (may (wi t z F a b) zs zs.length)) (mayM (askC (mixOk t z p) [(a, b)] zs 40) (hm (wi t z F a b) (hwP t z F) zs zs.length)) w) := by
  have V := Lib.hid fun W => iValidMix_any t z p ht hz W
  have R := Lib.hid (rh_start w t z p a b)
  have K := Lib.hid fun W => iMaskOk_any a b W
  have S := Lib.hid fun W hb => iAreWords_any ad zs cap 40 W (strsIn_below h hb) hf hl
  have H := Lib.hid h
  have FT := Lib.hid hf
  clear h hf ht hz
  cases hv : mixOk t z p
  · rw [hv] at V
    rw [add_1, mayL_no (by decide), mayM_no (by decide), mayT_no _ (by decide), mayT_no _ (by decide)]
    clear hv hF
    go_enter Try.func95, Try.ntmps95
    go_wp2_with (first | (go_at_call 72; refine (V.out _).mono ?_; rintro e w1 ⟨rfl, hB⟩; have r1 := Lib.hid (rh_ab R.out hB); clear hB; have k2 := cell_of_block r1.out.2.2.1; have j2 := free_of_block r1.out.2.2.1))
    refine bodyPost_ret (by simp [results, Try.results95, go_sem, k2]; try rfl) rfl ?_
    exact HintM.no ((((r1.out.2.2.2.setCell (by first | omega | (simp; done) | (simp; omega)) _).setCell (by first | omega | (simp; done) | (simp; omega)) _).setCell (by first | omega | (simp; done) | (simp; omega)) _).setCell (by first | omega | (simp; done) | (simp; omega)) _)
  · rw [hv] at V
    have hF := hF hv
    obtain ⟨t0, z0, tz, p1, p8, pz⟩ := mix_inv hv
    clear hv
    cases hm : mOk b
    · rw [hm] at K
      rw [add_2 a zs 40 hm, mayL_no (by decide), mayM_no (by decide), mayT_no _ (by decide), mayT_no _ (by decide)]
      clear hm hF
      go_enter Try.func95, Try.ntmps95
      go_wp2_with (first | (go_at_call 72; refine (V.out _).mono ?_; rintro e w1 ⟨rfl, hB⟩; have r1 := Lib.hid (rh_ab R.out hB); clear hB; have k1 := cell_of_block r1.out.2.1) | (go_at_call 57; refine (K.out _).mono ?_; rintro e w2 ⟨rfl, hB⟩; have r2 := Lib.hid (rh_ab r1.out hB); clear hB; have k2 := cell_of_block r2.out.2.2.1; have j2 := free_of_block r2.out.2.2.1))
      refine bodyPost_ret (by simp [results, Try.results95, go_sem, k2]; try rfl) rfl ?_
      exact HintM.no ((((r2.out.2.2.2.setCell (by first | omega | (simp; done) | (simp; omega)) _).setCell (by first | omega | (simp; done) | (simp; omega)) _).setCell (by first | omega | (simp; done) | (simp; omega)) _).setCell (by first | omega | (simp; done) | (simp; omega)) _)
    · rw [hm] at K
      rw [add_3 a zs 40 hm]
      clear hm
      cases hw : wordsOk zs 40
      · rw [hw] at S
        rw [wordsC_no hw, mayL_no (by decide), mayM_no (by decide), mayT_no _ (by decide), mayT_no _ (by decide)]
        clear hw hF
        go_enter Try.func95, Try.ntmps95
        go_wp2_with (first | (go_at_call 72; refine (V.out _).mono ?_; rintro e w1 ⟨rfl, hB⟩; have r1 := Lib.hid (rh_ab R.out hB); clear hB; have k1 := cell_of_block r1.out.2.1) | (go_at_call 57; refine (K.out _).mono ?_; rintro e w2 ⟨rfl, hB⟩; have r2 := Lib.hid (rh_ab r1.out hB); clear hB; have k2 := cell_of_block r2.out.2.2.1; have j2 := free_of_block r2.out.2.2.1) | (go_at_call 78; refine (S.out _ r2.out.2.2.2).mono ?_; rintro e w3 ⟨rfl, rfl⟩))
        refine bodyPost_ret (by simp [results, Try.results95, go_sem, k2]; try rfl) rfl ?_
        exact HintM.no ((((r2.out.2.2.2.setCell (by first | omega | (simp; done) | (simp; omega)) _).setCell (by first | omega | (simp; done) | (simp; omega)) _).setCell (by first | omega | (simp; done) | (simp; omega)) _).setCell (by first | omega | (simp; done) | (simp; omega)) _)
      · rw [hw] at S
        rw [wordsC_yes hw, mayL_yes, mayM_yes, mayT_yes, mayT_yes]
        have hn : zs.length ≤ 40 := Nat.le_of_not_lt fun e => by rw [words_long e] at hw; cases hw
        clear hw
        have PT := Lib.hid fun W => iPart_any t z p t0 z0 tz W
        have MT := Lib.hid fun W => (iMeet_any a b (mp0 t z) (mp1 t z) W).mono fun e w' hh => (⟨hh.1, by rw [← hh.2]; exact below_new (below_new (below_new (Below.refl _ _) _) _) _⟩ : e = .returned (.agg #[.int .u64 (bits .and .u64 a (mp0 t z)), .int .u64 (bits .and .u64 b (mp1 t z))]) ∧ Below W.heap.size W w')
        have A := fun s hs W => iAll_any t z p F hF t0 z0 tz p1 p8 (some ⟨W.heap.size, 0, none⟩) [s] 1 (W.alloc (.cells #[.string s] 9)) (strs_one W s _) (fit_one hs) (by simp)
        simp only [List.length_cons, List.length_nil, Nat.zero_add, A0_one, A1_one] at A
        have A := Lib.hid A
        have IW := Lib.hid fun s W => iWithin_any (hw0 t z F s : Int) (hw1 t z F s : Int) a b W
        clear hF
        generalize bits .and .u64 a (mp0 t z) = T0 at *
        generalize bits .and .u64 b (mp1 t z) = T1 at *
        generalize mp0 t z = M0 at *
        generalize mp1 t z = M1 at *
        obtain ⟨i0, hi, hz0, hz1, hz2⟩ := info_parts info_i64
        obtain ⟨k0, hk, hk0, hk1, hk2⟩ := info_parts info_maskW
        go_enter Try.func95, Try.ntmps95
        go_upto_region 5 with (first | (go_at_call 72; refine (V.out _).mono ?_; rintro e w1 ⟨rfl, hB⟩; have r1 := Lib.hid (rh_ab R.out hB); clear hB; have k1 := cell_of_block r1.out.2.1) | (go_at_call 57; refine (K.out _).mono ?_; rintro e w2 ⟨rfl, hB⟩; have r2 := Lib.hid (rh_ab r1.out hB); clear hB) | (go_at_call 78; refine (S.out _ r2.out.2.2.2).mono ?_; rintro e w3 ⟨rfl, rfl⟩))
        refine wp_region_at 5 0 (.cells #[.int .u64 0, .int .u64 0, .slice none 0 0, .slice none 0 0] 116) (.cells #[.int .u64 T0, .int .u64 T1, .slice none 0 0, .slice none 0 0] 116) (by kernel_rfl) rfl rfl rfl (by kernel_rfl) rfl rfl (fun _ _ => by kernel_rfl) ?_
        simp only [Nat.reduceAdd, List.take_succ_cons, List.take_zero, List.drop_succ_cons, List.drop_zero]
        intro w1 h1
        have e0 := cell_of_block (h1.block r2.out.1)
        have e1 := cell_of_block (h1.block r2.out.2.1)
        have y0 := lt_of_block (h1.block r2.out.1)
        have y1 := lt_of_block (h1.block r2.out.2.1)
        have hbw := cell_bw
        repeat (go_big_quiet_step (first | (go_at_call 125; exact calls_bw (PT.out _)) | (go_at_call 54; exact calls_bw (MT.out _))))
        refine wpQuiet_nil ?_
        intro h hh w2 h2
        refine wpQuiet_nil ?_
        refine ⟨?_, ?_⟩
        · intro w3 h3 hb3
          have f0 := cell_of_block hb3
          have f1 := free_of_block hb3
          go_simp
          exact ⟨(((h3.setCell _ hh).setCell _ hh).setCell _ hh).setCell _ hh, block_setCell _ (block_setCell _ (block_setCell _ (block_setCell _ hb3)))⟩
        intro w5 h5
        simp only [Act.put, List.setIfInBounds_toArray, List.set_cons_succ, List.set_cons_zero]
        repeat (go_big_quiet_step (fail))
        refine wpQuiet_nil ?_
        intro w9 h9 hb9
        have R9 := Lib.hid (rh_ab r2.out h9)
        have B9 := Lib.hid hb9
        have HX := Lib.hid (Nat.lt_of_lt_of_le (lt_of_block r2.out.2.2.1) hh)
        clear e0 e1 y0 y1 h1 h2 h5 h9 hb9 hh
        go_wp2
        go_loopw [32] (fun i wr => ∃ j : Nat, j ≤ zs.length ∧ i = .int .i64 j ∧ HInvM w h t z p a b T0 T1 (may (wi t z F a b) zs j) (hm (wi t z F a b) (hwP t z F) zs j) j wr) (fun i _ => zs.length - (intOf i).toNat)
        case atStart => exact ⟨0, Nat.zero_le _, rfl, _, _, B9.out, u_nil _ _, ownMs_nil _ _, Nat.le_refl _, R9.out⟩
        case round =>
          obtain ⟨j, hj, rfl, v, u, hb, O, M, hnj, RR⟩ := hrel
          obtain ⟨av, cv, rfl, _⟩ := ownInts_in O
          obtain ⟨au, cu, rfl, _⟩ := ownMs_in M
          have HB := Lib.hid hb
          have OO := Lib.hid O
          have MM := Lib.hid M
          have RH := Lib.hid RR
          have NJ := Lib.hid hnj
          clear O M hnj
          by_cases hjl : j < zs.length
          · have hd : decide ((j : Int) < (zs.length : Int)) = true := by simpa using hjl
            obtain ⟨b1, o1, rfl, hb1, p0⟩ := H.out j hjl
            have d0 := (RR.2.2.2.cell (p := ⟨b1, o1 + j, none⟩) hb1).trans p0
            have m0 := cell_of_block RR.1
            have i3 : (0 : Int) ≤ (j : Int) := by omega
            have i4 : (j : Int) < (zs.length : Int) := by omega
            have A1 := Lib.hid (A.out (zs.getD j ⟨#[]⟩) (FT.out j hjl))
            have I := IW.out (zs.getD j ⟨#[]⟩)
            change ∀ W : World, Calls _ _ _ W (fun e w' => e = .returned (.bool (wi t z F a b (zs.getD j ⟨#[]⟩))) ∧ Below W.heap.size W w') at I
            have yes := Lib.hid fun h => may_yes (f := wi t z F a b) (zs := zs) (k := j) h
            have no := Lib.hid fun h => may_no (f := wi t z F a b) (zs := zs) (k := j) h
            have al := may_len (wi t z F a b) zs j
            have yesM := Lib.hid (show wi t z F a b (zs.getD j ⟨#[]⟩) = true → hm (wi t z F a b) (hwP t z F) zs (j + 1) = hm (wi t z F a b) (hwP t z F) zs j ++ [((hw0 t z F (zs.getD j ⟨#[]⟩) : Int), (hw1 t z F (zs.getD j ⟨#[]⟩) : Int))] from fun h => hm_yes h)
            have noM := Lib.hid fun h => hm_no (f := wi t z F a b) (g := hwP t z F) (zs := zs) (k := j) h
            clear p0 hb RR
            generalize may (wi t z F a b) zs j = xs at *
            generalize hm (wi t z F a b) (hwP t z F) zs j = ms at *
            generalize wi t z F a b (zs.getD j ⟨#[]⟩) = x at *
            generalize hw0 t z F (zs.getD j ⟨#[]⟩) = U at *
            generalize hw1 t z F (zs.getD j ⟨#[]⟩) = V at *
            generalize zs.getD j ⟨#[]⟩ = s at *
            cases x
            · have NO := Lib.hid (no.out rfl)
              have NOM := Lib.hid (noM.out rfl)
              have I := Lib.hid I
              clear yes no yesM noM
              go_wp2_with (first
                | (go_at_call 87; refine (A1.out _).mono ?_; rintro e wx ⟨rfl, hB⟩; have C1 := Lib.hid (Ab.trans (ab_new wr _) hB); have R2 := Lib.hid (rh_ab RH.out C1.out); have n1 := cell_of_block R2.out.2.1; have q1 := lt_of_block R2.out.2.1; clear hB)
                | (go_at_call 59; refine (I.out _).mono ?_; rintro e wz ⟨rfl, hB⟩; have D := Lib.hid (Ab.trans (Ab.trans C1.out (ab_new _ _)) hB); clear hB))
              exact ⟨⟨j + 1, hjl, by rw [Int.natCast_succ], by rw [NO.out, NOM.out]; exact ⟨_, _, Ab.block D.out HB.out, ownInts_kept OO.out D.out, ownMs_kept MM.out D.out, Nat.le_succ_of_le NJ.out, rh_ab RH.out D.out⟩⟩, by (simp [intOf]) <;> omega⟩
            · have YE := Lib.hid (yes.out rfl)
              have YEM := Lib.hid (yesM.out rfl)
              have I := Lib.hid I
              clear yes no yesM noM
              go_upto_region 11 with (first
                | (go_at_call 87; refine (A1.out _).mono ?_; rintro e wx ⟨rfl, hB⟩; have C1 := Lib.hid (Ab.trans (ab_new wr _) hB); have R2 := Lib.hid (rh_ab RH.out C1.out); have n1 := cell_of_block R2.out.2.1; have q1 := lt_of_block R2.out.2.1; clear hB)
                | (go_at_call 59; refine (I.out _).mono ?_; rintro e wz ⟨rfl, hB⟩; have D := Lib.hid (Ab.trans (Ab.trans C1.out (ab_new _ _)) hB); have N3 := Lib.hid (Ab.block hB (block_alloc _ _)); clear hB))
              have q2 := Lib.hid (lt_of_block HB.out)
              have W3 := Lib.hid (Ab.block D.out HB.out)
              have R3 := Lib.hid (rh_ab RH.out D.out)
              have O3 := Lib.hid (ownInts_kept OO.out D.out)
              have M3 := Lib.hid (ownMs_kept MM.out D.out)
              have E3 := Lib.hid (fun k hk => (Nat.ne_of_lt (Nat.lt_of_lt_of_le (World.ownsRow.lt OO.out k hk).2 C1.out.size) : k ≠ wx.heap.size))
              have X3 := Lib.hid (Nat.ne_of_lt (Nat.lt_of_lt_of_le q2.out C1.out.size) : h ≠ wx.heap.size)
              have c3 := cell_of_block W3.out
              have s3 := lt_of_block W3.out
              have s4 := lt_of_block N3.out
              clear d0 m0 n1 q1
              go_upto_region 12 with (at_builtin; refine wpList_append_own _ rfl _ _ 39 rfl (h + 1) 2 i0 (.int .i64 0) 1 8 Try.underlying39 hi hz0 hz1 hz2 rfl (by decide) _ _ _ rfl (O3.out.alloc _) ⟨wz.heap.size, 0, none⟩ 1 1 [.int .i64 (j : Int)] rfl rfl (u_one_new _ _ _) (fun x hx => by simp at hx; subst hx; rfl) (by unfold maxLen; omega) (by omega) (by simp; omega) ?_; intro v' w4 hown hgrow _; obtain ⟨av2, cv2, hv2⟩ := row_slice hown; subst hv2; have P := Lib.hid (u_push hown); have G := Lib.hid hgrow; have H4 := Lib.hid (((hgrow.block h (by simp; omega) (fun e => by have := u_lt O3.out _ e.symm; omega)).trans (block_old _ _ s3)).trans W3.out); have c4 := cell_of_block H4.out; have f4 := free_of_block H4.out; clear hown hgrow)
              have H5 : Hid ((w4.setCell ⟨h, 2, none⟩ (.slice av2 (xs.length + 1) cv2)).heap[h]? = some (.cells #[.int .u64 T0, .int .u64 T1, .slice av2 (xs.length + 1) cv2, .slice au ms.length cu] 116 (0, 0))) := Lib.hid (block_setCell (j := 2) _ H4.out)
              have N5 := Lib.hid ((Below.heap_setCell w4 ⟨h, 2, none⟩ (.slice av2 (xs.length + 1) cv2) wx.heap.size (Ne.symm X3.out)).trans ((G.out.block wx.heap.size (Nat.lt_of_lt_of_le s4 (by simp)) (fun e => E3.out _ e.symm rfl)).trans ((block_old _ _ s4).trans N3.out)))
              have O5 := Lib.hid (ownsRow_setCell_below P.out (a := ⟨h, 2, none⟩) (Nat.lt_succ_self h) (.slice av2 (xs.length + 1) cv2))
              have hm3 := M3.out
              unfold OwnMs at hm3
              have M5 := Lib.hid (ownsRow_setCell_below (row_grown (hm3.alloc _) G.out (rows_ne hm3 O3.out (by decide))) (a := ⟨h, 2, none⟩) (Nat.lt_succ_self h) (.slice av2 (xs.length + 1) cv2))
              have R5 := Lib.hid (rh_set (g := h) (k := 2) (.slice av2 (xs.length + 1) cv2) (rh_grown (rh_ab R3.out (ab_new _ _)) G.out (fun k hk => by have := u_lt O3.out k hk; have := HX.out; omega)) HX.out)
              have hnn : ms.length ≤ 40 := by have := NJ.out; omega
              clear c3 s3 s4 c4 f4 hm3 H4 G P E3
              generalize w4.setCell ⟨h, 2, none⟩ (.slice av2 (xs.length + 1) cv2) = w5 at *
              have c5 := cell_of_block H5.out
              have n5 := cell_of_block N5.out
              have s5 := lt_of_block H5.out
              go_wp2_with (at_builtin; refine wpList_append_own _ rfl _ _ 27 rfl (h + 1) 51 k0 (.agg #[.int .u64 0, .int .u64 0]) 2 16 Try.underlying27 hk hk0 hk1 hk2 rfl (by decide) _ _ _ rfl (M5.out.alloc _) ⟨w5.heap.size, 0, none⟩ 1 1 [.int .u64 (U : Int), .int .u64 (V : Int)] rfl rfl (m_new _ _ _ _) (fun x hx => by simp at hx; rcases hx with rfl | rfl <;> rfl) (by unfold maxLen; omega) (by omega) (by simp; omega) ?_; intro u' w6 hown hgrow _; obtain ⟨au2, cu2, hu2⟩ := row_slice hown; subst hu2; have P6 := Lib.hid hown; have G6 := Lib.hid hgrow; have H6 := Lib.hid (((hgrow.block h (by simp; omega) (fun e => by have := (World.ownsRow.lt M5.out _ e.symm).1; omega)).trans (block_old _ _ s5)).trans H5.out); have c6 := cell_of_block H6.out; have f6 := free_of_block H6.out; clear hown hgrow)
              exact ⟨⟨j + 1, hjl, by rw [Int.natCast_succ], by rw [YE.out, YEM.out]; exact ⟨_, _, block_setCell _ H6.out, ownsRow_setCell_below (row_grown (World.ownsRow.alloc O5.out _) G6.out (rows_ne O5.out M5.out (by decide))) (Nat.lt_succ_self h) _, ownMs_push (ownsRow_setCell_below P6.out (Nat.lt_succ_self h) _), (by rw [List.length_append]; exact Nat.succ_le_succ NJ.out), rh_set _ (rh_grown (rh_ab R5.out (ab_new _ _)) G6.out (fun k hk => by have := (World.ownsRow.lt M5.out k hk).1; have := HX.out; omega)) HX.out⟩⟩, by (simp [intOf]) <;> omega⟩
          · have e : j = zs.length := by omega
            subst e
            have hd : decide ((zs.length : Int) < (zs.length : Int)) = false := by simp
            have k0 := cell_of_block hb
            have k2 := cell_of_block RR.2.2.1
            have j2 := free_of_block RR.2.2.1
            clear hb RR
            generalize may (wi t z F a b) zs zs.length = xs at *
            generalize hm (wi t z F a b) (hwP t z F) zs zs.length = ms at *
            go_wp2
            refine bodyPost_ret (by simp [results, Try.results95, go_sem, k2]; try rfl) rfl ?_
            have o := own_below (own_below (own_below (own_below (u_weaken OO.out (show w.heap.size + 3 ≤ h + 1 by have := HX.out; omega)) (k := 0) (.int .u64 T0)) (k := 1) (.int .u64 T1)) (k := 2) (.slice av xs.length cv)) (k := 3) (.slice au ms.length cu)
            have o2 := own_belowM (own_belowM (own_belowM (own_belowM (ownMs_weaken MM.out (show w.heap.size + 3 ≤ h + 1 by have := HX.out; omega)) (k := 0) (.int .u64 T0)) (k := 1) (.int .u64 T1)) (k := 2) (.slice av xs.length cv)) (k := 3) (.slice au ms.length cu)
            exact ⟨_, _, rfl, u_weaken o (by omega), ownMs_weaken o2 (by omega), (((RH.out.2.2.2.setCell (by first | omega | (simp; done) | (simp; omega)) _).setCell (by first | omega | (simp; done) | (simp; omega)) _).setCell (by first | omega | (simp; done) | (simp; omega)) _).setCell (by first | omega | (simp; done) | (simp; omega)) _⟩
end Go.Proofs.Ytoippchkhknhpaa
