/- AlikeWords answers, for every mix and every list of words, as its model does; its answer is memory of its own. No conditions. -/
import Derived.Test.YtanocllpmjhblaaAlkI
import Derived.Test.YtanocllpmjhblaaMarkS
import Derived.Test.YtanocllpmjhblaaStrL
import Derived.Test.YtanocllpmjhblaaMake1
import Derived.Deep.DeepCutAuto
namespace Go.Proofs.Ytanocllpmjhblaa
open Go.ChangeShapes Go.WideShapes Go.ChangeAt Go.RowKit

theorem ch_next {B : Nat} {w a b : World} (h : Below B w a) (hB : B ≤ w.heap.size) (k : Below a.heap.size a b) : Below B w b := h.trans (Below.mono k (Nat.le_trans hB h.size))
theorem wr_strs {w : World} {g : Nat} {zs : List ByteArray} (h : ∀ i, i < zs.length → w.cell? ⟨g, i, none⟩ = some (.string (zs.getD i ⟨#[]⟩)) ∧ w.frozen? ⟨g, i, none⟩ = false) : Wb w g zs.length := ⟨fun j hj => ⟨_, (h j hj).1⟩, fun j hj => (h j hj).2⟩
theorem strs_in {w : World} {g : Nat} {zs : List ByteArray} (hg : g < w.heap.size) (h : ∀ i, i < zs.length → w.cell? ⟨g, i, none⟩ = some (.string (zs.getD i ⟨#[]⟩)) ∧ w.frozen? ⟨g, i, none⟩ = false) : StrsIn w (some ⟨g, 0, none⟩) zs := fun i hi => ⟨g, 0, rfl, hg, by rw [Nat.zero_add]; exact (h i hi).1⟩

/-- The law's own box: the mix. -/
def Lb (w W : World) (t z p : Int) : Prop := W.heap[w.heap.size]? = some (.cells #[.int .i16 t, .int .i16 z, .int .i16 p] 24 (0, 0)) ∧ Below w.heap.size w W
theorem lb_start (w : World) (t z p : Int) : Lb w (w.alloc (.cells #[.int .i16 t, .int .i16 z, .int .i16 p] 24)) t z p := ⟨block_alloc _ _, ab_new _ _⟩
theorem lb_ab {w W W' : World} {t z p : Int} (h : Lb w W t z p) (hb : Ab W W') : Lb w W' t z p := ⟨Ab.block hb h.1, h.2.trans (Below.mono hb h.2.size)⟩
theorem pairsIn_up {B : Nat} {w w' : World} {a : Option Addr} {zs : List (Int × Int)} (h : PairsIn w a zs) (hB : w.heap.size ≤ B) (hb : Below B w w') : PairsIn w' a zs := fun i hi => by
  obtain ⟨b, off, ha, hlt, hc, hd⟩ := h i hi
  exact ⟨b, off, ha, Nat.lt_of_lt_of_le hlt hb.size, (hb.cell (Nat.lt_of_lt_of_le hlt hB)).trans hc, (hb.cell (Nat.lt_of_lt_of_le hlt hB)).trans hd⟩
theorem ownPs_oth {B g : Nat} {zs : List (Int × Int)} {v : Value} {w w' : World} (h : OwnPs B zs v w) (hb : Oth g w w') (hg : g < B) : OwnPs B zs v w' := by
  obtain ⟨h1, h2⟩ := h
  refine ⟨h1, ?_⟩
  rcases h2 with hn | ⟨b, cap, cur, rfl, hB, hh, rest⟩
  · exact .inl hn
  · exact .inr ⟨b, cap, cur, rfl, hB, (hb.block b (by omega) (Array.getElem?_eq_some_iff.1 hh).1).trans hh, rest⟩
theorem ownPs_as {B n : Nat} {ds : List (Int × Int)} {v : Value} {w : World} (hn : ds.length = n) (h : OwnPs B ds v w) : ∃ a c, v = .slice a n c ∧ PairsIn w a ds := by subst hn; exact ownPs_in h
theorem heldPs_len {n : Nat} (a : Option Addr) (ds : List (Int × Int)) (c k : Nat) (w : World) (hd : ds.length = n) (h : PairsIn w a ds) (hm : MarkedM k ds.length ds) (hk : k + 2 * n ≤ 4000000) :
    Calls Try.prog 18 #[.slice a n c, .int .i64 (k : Int)] w fun e w' => e = .returned (.int .i64 ((k + 2 * n : Nat) : Int)) ∧ w = w' := by
  subst hd
  exact heldPs_any a ds c k w h hm hk

set_option maxRecDepth 100000 in
set_option maxHeartbeats 3200000 in
theorem fnExactAlikeWords_walk (t z p : Int) (ht : I16 t) (hz : I16 z) (hp : I16 p) (ad : Option Addr) (zs : List ByteArray) (cap : Nat) (w : World) (h : StrsIn w ad zs) (hf : Fit zs) (hl : zs.length ≤ maxLen) :
    Calls Try.prog 3 #[.agg #[.int .i16 t, .int .i16 z, .int .i16 p], .slice ad zs.length cap] w fun e w' => e = .returned (.bool true) ∧ Below w.heap.size w w' := by
  unfold maxLen at hl
  have SZ := Lib.hid fun W hs => szStrs_any ad zs cap 1048576 W hs hf (by omega) (Nat.le_refl _)
  have H := Lib.hid h
  have B0 := Lib.hid (lb_start w t z p)
  by_cases h1 : totS zs zs.length ≤ 1048576
  · have e1 : leftS zs 1048576 = 1048576 - (totS zs zs.length : Int) := leftS_yes h1
    have hn1 : zs.length ≤ 1048576 := Nat.le_trans (totS_len zs zs.length) h1
    rw [e1] at SZ
    obtain ⟨F, hF⟩ : ∃ F, mixOk t z p = true → StopF t z p F := by
      cases h : mixOk t z p
      · exact ⟨fun _ => 0, fun e => absurd e (by decide)⟩
      · obtain ⟨t0, z0, tz, p1, p8, pz⟩ := mix_inv h
        obtain ⟨F, hF⟩ := stopF_some (p := p) t0 (show 0 < z by omega) tz (by omega)
        exact ⟨F, fun _ => hF⟩
    have I := fun W x c hs => iAlike_any t z p ht hz F hF x zs c W hs hf (by omega)
    have S := fun W x c hs => sAlike_any t z p ht hz hp F hF x zs c W hs hf (by omega)
    have hxl : (akL (askC (mixOk t z p) [] zs 40) (prO (eqh t z F zs) zs.length zs.length)).length ≤ 1600 := by
      by_cases h0 : askC (mixOk t z p) [] zs 40 = 0
      · have hw := ask_words h0
        rw [h0, akL_yes]
        exact Nat.le_trans (prO_len _ _ _) (Nat.le_trans (Nat.mul_le_mul hw hw) (by omega))
      · rw [akL_no h0]; simp
    generalize akL (askC (mixOk t z p) [] zs 40) (prO (eqh t z F zs) zs.length zs.length) = xs at *
    generalize askC (mixOk t z p) [] zs 40 = cd at *
    have I := Lib.hid I
    have S := Lib.hid S
    have TO := Lib.hid fun W hs => toStrs_any ad zs cap W hs hn1
    have EQ := Lib.hid fun x y c d W hx hy => eqStrs_same x y zs c d W hx hy (by omega)
    have d1 : decide ((1048576 : Int) - (totS zs zs.length : Int) < 0) = false := by simp; omega
    have hn : xs.length ≤ 1048576 := by omega
    have hn3 : 1 + 2 * xs.length ≤ 4000000 := by omega
    have HD := Lib.hid fun a ds c W h1 h2 h3 => heldPs_len (n := xs.length) a ds c 1 W h1 h2 h3 hn3
    have MO := Lib.hid fun B v W h => markPsOwn_any B xs v 1 W h hn3
    have NN := Lib.hid hn
    have hk : 1 + zs.length ≤ 4000000 := by omega
    have MK := fun g W hW hg => markStrs_any zs.length g 1 zs.length W hW hg hk
    generalize 1 + zs.length = kk at *
    have MK := Lib.hid MK
    have k0 : decide ((kk : Int) < 0) = false := by simp
    generalize 1 + 2 * xs.length = mm at *
    have n0 : decide ((mm : Int) < 0) = false := by simp
    have n3 : ((mm : Int) != (mm : Int)) = false := by simp
    have n2 : (cd != cd) = false := by simp
    generalize totS zs zs.length = T at *
    clear e1 ht hz hp h hf hF hl h1 hk hn1 hxl hn hn3
    have c0 := cell_of_block B0.out.1
    have z0 := lt_of_block B0.out.1
    have tk1 : True := trivial
    have tk2 : True := trivial
    have tk3 : True := trivial
    have tk4 : True := trivial
    have tk5 : True := trivial
    have tk6 : True := trivial
    have tk7 : True := trivial
    have tk8 : True := trivial
    have tk9 : True := trivial
    have tk10 : True := trivial
    have tk11 : True := trivial
    have tk12 : True := trivial
    go_enter Try.func3, Try.ntmps3
    go_wp2_with (first
      | (go_at_call 9; refine (SZ.out _ (strsIn_below H.out B0.out.2)).mono ?_; rintro e w1 ⟨rfl, rfl⟩)
      | (go_at_call 11; have _t := tk1; clear _t tk1; refine (toMix_any _ _ _ _).mono ?_; rintro e w2 ⟨rfl, hB⟩; have B2 := Lib.hid (lb_ab B0.out hB); clear hB c0 z0)
      | (go_at_call 12; have _t := tk2; clear _t tk2; refine (TO.out _ (strsIn_below H.out B2.out.2)).mono ?_; rintro e w3 ⟨v3, rfl, hv, hB⟩; obtain ⟨x3, rfl, hs⟩ := newStrs_in hv; have X3 := Lib.hid hs; have B3 := Lib.hid (lb_ab B2.out hB); clear hB hs hv)
      | (go_at_call 10; refine (S.out _ _ _ X3.out).mono ?_; rintro e w4 ⟨v4, rfl, hO, hB⟩; obtain ⟨a4, c4, rfl, hi⟩ := ownPs_in hO; have P4 := Lib.hid hi; have B4 := Lib.hid (lb_ab B3.out hB); clear hB hO hi X3)
      | (go_at_call 12; have _t := tk3; clear _t tk3; refine (TO.out _ (strsIn_below H.out B4.out.2)).mono ?_; rintro e w5 ⟨v5, rfl, ⟨g6, rfl, hg6, hl6, hs6⟩, hB⟩; have C5 := Lib.hid hB; have G6 := Lib.hid hg6; have L6 := Lib.hid hl6; have X5 := Lib.hid (strs_in hl6 hs6); have W6 := Lib.hid (wr_strs hs6); have B5 := Lib.hid (lb_ab B4.out hB); have c5 := cell_of_block B5.out.1; have z5 := lt_of_block B5.out.1; clear hB hg6 hl6 hs6)
      | (go_at_call 11; have _t := tk4; clear _t tk4; refine (toMix_any _ _ _ _).mono ?_; rintro e w6 ⟨rfl, hB⟩; have C6 := Lib.hid (ch_next C5.out (Nat.le_refl _) hB); have D6 := Lib.hid hB; have X6 := Lib.hid (strsIn_below X5.out hB); have S6 := Lib.hid hB.size; clear hB c5 z5)
      | (go_at_call 13; have _t := tk5; clear _t tk5; refine (I.out _ _ _ X6.out).mono ?_; rintro e w7 ⟨v7, rfl, hO, hB⟩; obtain ⟨a7, c7, rfl, _⟩ := ownPs_in hO; have O7 := Lib.hid (ownPs_weaken hO S6.out); have C7 := Lib.hid (ch_next C6.out (Nat.le_refl _) hB); have D7 := Lib.hid (ch_next D6.out (Nat.le_refl _) hB); have X7 := Lib.hid (strsIn_below X6.out hB); clear hB hO)
      | (go_at_call 14; have _t := tk6; clear _t tk6; have hx := O7.out; obtain ⟨_, _, hv, hi⟩ := ownPs_in hx; cases hv; refine (eqPairs_same _ _ _ _ _ _ hi (pairsIn_up P4.out (Nat.le_refl _) C7.out) NN.out).mono ?_; rintro e w9 ⟨rfl, hB⟩; have C9 := Lib.hid (ch_next C7.out (Nat.le_refl _) hB); have D9 := Lib.hid (ch_next D7.out (Nat.le_refl _) hB); have X9 := Lib.hid (strsIn_below X7.out hB); have O9 := Lib.hid (ownPs_kept O7.out hB); clear hB hx hi)
      | (go_at_call 12; have _t := tk7; clear _t tk7; refine (TO.out _ (strsIn_below H.out (lb_ab B4.out C9.out).2)).mono ?_; rintro e w10 ⟨v10, rfl, hv, hB⟩; obtain ⟨x10, rfl, hs⟩ := newStrs_in hv; have Z10 := Lib.hid hs; have C10 := Lib.hid (ch_next C9.out (Nat.le_refl _) hB); have D10 := Lib.hid (ch_next D9.out (Nat.le_refl _) hB); have X10 := Lib.hid (strsIn_below X9.out hB); have O10 := Lib.hid (ownPs_kept O9.out hB); clear hB hs hv)
      | (go_at_call 15; refine (EQ.out _ _ _ _ _ X10.out Z10.out).mono ?_; rintro e w11 ⟨rfl, hB⟩; have C11 := Lib.hid (ch_next C10.out (Nat.le_refl _) hB); have D11 := Lib.hid (ch_next D10.out (Nat.le_refl _) hB); have O11 := Lib.hid (ownPs_kept O10.out hB); clear hB)
      | (go_at_call 16; refine (MK.out _ _ (W6.out.below D11.out L6.out) (Nat.lt_of_lt_of_le L6.out D11.out.size)).mono ?_; rintro e w12 ⟨rfl, hO⟩; have O12 := Lib.hid (ownPs_oth O11.out hO L6.out); have C12 := Lib.hid (C11.out.trans (Below.mono (hO.below (Nat.le_of_lt (Nat.lt_of_lt_of_le L6.out D11.out.size))) G6.out)); clear hO)
      | (go_at_call 14; have _t := tk8; clear _t tk8; have hx := O12.out; obtain ⟨_, _, hv, hi⟩ := ownPs_in hx; cases hv; refine (eqPairs_same _ _ _ _ _ _ hi (pairsIn_up P4.out (Nat.le_refl _) C12.out) NN.out).mono ?_; rintro e w13 ⟨rfl, hB⟩; have C13 := Lib.hid (ch_next C12.out (Nat.le_refl _) hB); have O13 := Lib.hid (ownPs_kept O12.out hB); clear hB hx hi)
      | (go_at_call 17; refine (MO.out _ _ _ O13.out).mono ?_; rintro e w14 ⟨rfl, ⟨ds, hdl, hmk, hO⟩, hB⟩; obtain ⟨am, cm, hv, hi⟩ := ownPs_as hdl hO; cases hv; have M14 := Lib.hid hi; have DL := Lib.hid hdl; have KD := Lib.hid hmk; have C14 := Lib.hid (C13.out.trans (hB.mono C5.out.size)); have B14 := Lib.hid (lb_ab B4.out C14.out); have c14 := cell_of_block B14.out.1; have z14 := lt_of_block B14.out.1; clear hO hB hi hdl hmk)
      | (go_at_call 18; have _t := tk9; clear _t tk9; refine (HD.out _ _ _ _ DL.out M14.out KD.out).mono ?_; rintro e wh ⟨rfl, rfl⟩)
      | (go_at_call 11; have _t := tk10; clear _t tk10; refine (toMix_any _ _ _ _).mono ?_; rintro e w15 ⟨rfl, hB⟩; have C15 := Lib.hid (ch_next C14.out (Nat.le_refl _) hB); have M15 := Lib.hid (pairsIn_below M14.out hB); clear hB c14 z14)
      | (go_at_call 12; have _t := tk11; clear _t tk11; refine (TO.out _ (strsIn_below H.out (lb_ab B4.out C15.out).2)).mono ?_; rintro e w16 ⟨v16, rfl, hv, hB⟩; obtain ⟨x16, rfl, hs⟩ := newStrs_in hv; have X16 := Lib.hid hs; have C16 := Lib.hid (ch_next C15.out (Nat.le_refl _) hB); have M16 := Lib.hid (pairsIn_below M15.out hB); clear hB hs hv)
      | (go_at_call 13; have _t := tk12; clear _t tk12; refine (I.out _ _ _ X16.out).mono ?_; rintro e w17 ⟨v17, rfl, hO, hB⟩; obtain ⟨a17, c17, rfl, hi⟩ := ownPs_in hO; have P17 := Lib.hid hi; have C17 := Lib.hid (ch_next C16.out (Nat.le_refl _) hB); have M17 := Lib.hid (pairsIn_below M16.out hB); clear hB hO hi)
      | (go_at_call 14; refine (eqPairs_same _ _ _ _ _ _ P17.out (pairsIn_up P4.out (Nat.le_refl _) C17.out) NN.out).mono ?_; rintro e w18 ⟨rfl, hB⟩; have C18 := Lib.hid (ch_next C17.out (Nat.le_refl _) hB); have M18 := Lib.hid (pairsIn_below M17.out hB); clear hB)
      | (go_at_call 18; refine (HD.out _ _ _ _ DL.out M18.out KD.out).mono ?_; rintro e wh ⟨rfl, rfl⟩))
    all_goals go_returns
    all_goals exact ⟨rfl, (lb_ab B4.out C18.out).2⟩
  · have e1 : leftS zs 1048576 = -1 := leftS_no (Nat.le_refl _) (by omega)
    rw [e1] at SZ
    clear e1 ht hz hp h hf hl h1
    go_enter Try.func3, Try.ntmps3
    go_wp2_with (go_at_call 9; refine (SZ.out _ (strsIn_below H.out B0.out.2)).mono ?_; rintro e w1 ⟨rfl, rfl⟩)
    go_returns
    exact ⟨rfl, B0.out.2⟩
/-! ### The frame round the walk -/
section
set_option maxRecDepth 100000 in
theorem fnExactAlikeWords_lifted (os : Os) (started : os.Started) (H : Type) (enc : TypeId × Value → H) :
    ReturnsInHanded {} Try.checked os 3 .any (Rows.fnExactAlikeWordsSpec.pre6 enc Try.prog Try.f3 Rows.fnExactAlikeWordsRow.domain false) (Rows.fnExactAlikeWordsSpec.post enc Try.prog Try.f3 false true false false) := by
  refine returnsInHanded_of_change_sized (C := Try.checked) own started (by kernel_rfl) Try.func3
    (ChangeSpec.witness6 (enc := enc) (C := Try.checked) false ⟨#[], #[.agg #[.int .i16 0, .int .i16 0, .int .i16 0], .slice none 0 0], []⟩ 8 (by kernel_rfl) (by kernel_rfl) (by kernel_rfl) (by kernel_rfl)) ?_
  intro W base args ds gs before hval hW _ hsz _
  have hW' := hW
  obtain ⟨p, q, hA, hV, rfl, _, _⟩ := hW
  obtain ⟨rfl, rfl⟩ := trodVars_none hV
  have hlt : ∀ x ∈ p, x.block < W.heap.size := fun x hx => by simpa using hW'.lt x (by simpa using hx)
  rw [Try.params3] at hA hval hsz
  obtain ⟨v0, vs0, d0, ds0, p0, q0, hargs, rfl, rfl, h0, r0⟩ := trodAll_cons hA
  obtain ⟨v1, vs1, d1, ds1, p1, q1, rfl, rfl, rfl, h1, r1⟩ := trodAll_cons r0
  obtain ⟨rfl, rfl, rfl⟩ := trodAll_nil r1
  obtain rfl : args = #[v0, v1] := by cases args; simp_all
  obtain ⟨t0, z0, p0, rfl, ht0, hz0, hp0⟩ := open_mix (e := 22) Try.underlying24 (by kernel_rfl) (by kernel_rfl) (by kernel_rfl) (hval 0 24 v0 rfl rfl)
  obtain ⟨a1, zs1, c1, rfl, hs1, hf1, hl1⟩ := open_strS (e := 9) (by kernel_rfl) (by kernel_rfl) (by kernel_rfl) (hval 1 25 v1 rfl rfl) h1
  refine (fnExactAlikeWords_walk t0 z0 p0 ht0 hz0 hp0 a1 zs1 c1 W hs1 hf1 hl1).mono fun e W' ⟨he, hb⟩ => ?_
  subst he
  exact ⟨_, rfl, law_post laidOut rfl Try.underlying4 (of_all (by kernel_rfl)) rfl hW' rfl rfl rfl hb⟩

theorem fnExactAlikeWords_over : Rows.fnExactAlikeWordsRow.holds Try.pinned (OpenSpec.ofChange Rows.fnExactAlikeWordsSpec) :=
  OpenClaim.holds_of_wide 3 Try.f3 rfl rfl rfl rfl rfl rfl rfl ⟨rfl, rfl, rfl, rfl, rfl⟩ rfl rfl rfl rfl rfl (by kernel_rfl) Try.func3 (by kernel_rfl)
    (of_decide_eq_true (by kernel_rfl)) (by unfold Func.isWrapper; rw [if_neg (of_decide_eq_false (by kernel_rfl))]; exact ⟨rfl, rfl⟩)
    (fun os started H enc _ => fnExactAlikeWords_lifted os started H enc)

/-- The statement. -/
theorem fnExactAlikeWords_holds : Rows.FnExactAlikeWordsSaid := fnExactAlikeWords_over
end
end Go.Proofs.Ytanocllpmjhblaa
