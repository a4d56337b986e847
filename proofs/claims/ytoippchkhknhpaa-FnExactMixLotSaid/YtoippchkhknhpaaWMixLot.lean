/- MixLot answers, for every mix and every lot, as its model does; its answer is memory of its own. No conditions. -/
import Derived.Test.YtoippchkhknhpaaMsk
import Derived.Test.YtoippchkhknhpaaMkM
import Derived.Test.YtoippchkhknhpaaLotW
import Derived.Test.YtoippchkhknhpaaMarkS
import Derived.Test.YtoippchkhknhpaaStrL
namespace Go.Proofs.Ytoippchkhknhpaa
open Go.ChangeShapes Go.WideShapes Go.ChangeAt Go.RowKit

theorem intsIn_up {B : Nat} {w w' : World} {a : Option Addr} {zs : List Int} (h : IntsIn w a zs) (hB : w.heap.size ≤ B) (hb : Below B w w') : IntsIn w' a zs := fun i hi => by
  obtain ⟨b, off, ha, hlt, hc⟩ := h i hi
  exact ⟨b, off, ha, Nat.lt_of_lt_of_le hlt hb.size, (hb.cell (Nat.lt_of_lt_of_le hlt hB)).trans hc⟩
theorem masksIn_up {B : Nat} {w w' : World} {a : Option Addr} {zs : List (Int × Int)} (h : MasksIn w a zs) (hB : w.heap.size ≤ B) (hb : Below B w w') : MasksIn w' a zs := fun i hi => by
  obtain ⟨b, off, ha, hlt, h0, h1⟩ := h i hi
  exact ⟨b, off, ha, Nat.lt_of_lt_of_le hlt hb.size, (hb.cell (Nat.lt_of_lt_of_le hlt hB)).trans h0, (hb.cell (Nat.lt_of_lt_of_le hlt hB)).trans h1⟩
theorem ch_next {B : Nat} {w a b : World} (h : Below B w a) (hB : B ≤ w.heap.size) (k : Below a.heap.size a b) : Below B w b := h.trans (Below.mono k (Nat.le_trans hB h.size))
theorem wr_strs {w : World} {g : Nat} {zs : List ByteArray} (h : ∀ i, i < zs.length → w.cell? ⟨g, i, none⟩ = some (.string (zs.getD i ⟨#[]⟩)) ∧ w.frozen? ⟨g, i, none⟩ = false) : Wb w g zs.length := ⟨fun j hj => ⟨_, (h j hj).1⟩, fun j hj => (h j hj).2⟩
theorem strs_in {w : World} {g : Nat} {zs : List ByteArray} (hg : g < w.heap.size) (h : ∀ i, i < zs.length → w.cell? ⟨g, i, none⟩ = some (.string (zs.getD i ⟨#[]⟩)) ∧ w.frozen? ⟨g, i, none⟩ = false) : StrsIn w (some ⟨g, 0, none⟩) zs := fun i hi => ⟨g, 0, rfl, hg, by rw [Nat.zero_add]; exact (h i hi).1⟩
/-- The law's own box: the mix. -/
def Lm (w W : World) (t z p : Int) : Prop := W.heap[w.heap.size]? = some (.cells #[.int .i16 t, .int .i16 z, .int .i16 p] 24 (0, 0)) ∧ Below w.heap.size w W
theorem lm_start (w : World) (t z p : Int) : Lm w (w.alloc (.cells #[.int .i16 t, .int .i16 z, .int .i16 p] 24)) t z p := ⟨block_alloc _ _, ab_new _ _⟩
theorem lm_ab {w W W' : World} {t z p : Int} (h : Lm w W t z p) (hb : Below W.heap.size W W') : Lm w W' t z p := ⟨Ab.block hb h.1, h.2.trans (Below.mono hb h.2.size)⟩
theorem heldMs_len {n : Nat} (a : Option Addr) (ds : List (Int × Int)) (c k : Nat) (w : World) (hd : ds.length = n) (h : MasksIn w a ds) (hm : MarkedM k ds.length ds) (hk : k + 2 * n ≤ 4000000) :
    Calls Try.prog 22 #[.slice a n c, .int .i64 (k : Int)] w fun e w' => e = .returned (.int .i64 ((k + 2 * n : Nat) : Int)) ∧ w = w' := by
  subst hd
  exact heldMs_any a ds c k w h hm hk
theorem ownMs_as {n B : Nat} {ds : List (Int × Int)} {v : Value} {w : World} (hd : ds.length = n) (h : OwnMs B ds v w) : ∃ a c, v = .slice a n c ∧ MasksIn w a ds := by
  subst hd
  exact ownMs_in h

set_option maxRecDepth 100000 in
set_option maxHeartbeats 6400000 in
theorem fnExactMixLot_walk (t z p : Int) (ht : I16 t) (hz : I16 z) (hp : I16 p) (am : Option Addr) (ls : List (List ByteArray)) (cm : Nat) (w : World) (hm : LotIn w am ls) (lm : ls.length ≤ maxLen) :
    Calls Try.prog 3 #[.agg #[.int .i16 t, .int .i16 z, .int .i16 p], .slice am ls.length cm] w fun e w' => e = .returned (.bool true) ∧ Below w.heap.size w w' := by
  unfold maxLen at lm
  have HM := Lib.hid hm
  have L0 := Lib.hid (lm_start w t z p)
  have SZ1 := Lib.hid fun W hs => szLotT_any am ls cm 1048576 W hs (Nat.le_refl _) (by omega)
  go_enter Try.func3, Try.ntmps3
  go_upto_region 3 with (go_at_call 13; refine (SZ1.out _ (lotIn_below HM.out L0.out.2)).mono ?_; rintro e w1 ⟨y, rfl, y0, y1, y2, rfl⟩)
  by_cases hy : y < 0
  · have d1 : decide (y < 0) = true := decide_eq_true hy
    go_wp2
    go_returns
    exact ⟨rfl, L0.out.2⟩
  have d1 : decide (y < 0) = false := decide_eq_false hy
  obtain ⟨n1, n2⟩ := y2 (by omega)
  clear y2 SZ1
  obtain ⟨F, hF⟩ : ∃ F, mixOk t z p = true → StopF t z p F := by
    cases h : mixOk t z p
    · exact ⟨fun _ => 0, fun e => absurd e (by decide)⟩
    · obtain ⟨t0, z0, tz, p1, p8, pz⟩ := mix_inv h
      obtain ⟨F, hF⟩ := stopF_some (p := p) t0 (show 0 < z by omega) tz (by omega)
      exact ⟨F, fun _ => hF⟩
  have I := fun W x c q1 => iMixLot_any t z p ht hz F hF x ls c W q1 (by have := n1.1; omega)
  have S := fun W x c q1 => sMixLot_any t z p ht hz hp F hF x ls c W q1 (by have := n1.1; omega)
  have hxl : (mlL (mlC (mixOk t z p) ls) (mkTo t z F ls ls.length)).length ≤ ls.length := by
    unfold mlL
    split
    · rw [mkTo_len]; exact Nat.le_refl _
    · simp
  have n11 := n1.1
  generalize mlL (mlC (mixOk t z p) ls) (mkTo t z F ls ls.length) = xs at *
  generalize mlC (mixOk t z p) ls = cd at *
  have I := Lib.hid I
  have S := Lib.hid S
  have TM := Lib.hid fun W hs => toLotW_any am ls cm W hs n1
  have EM := Lib.hid fun x y c d W hx hy => eqLot_same x y ls c d W hx hy n1.1
  have MK1 := Lib.hid fun G H gs c W hL hH => markLot_any G H ls gs 1 c W hL hH n1.1 (by omega)
  have k0 : decide (((1 + totL ls ls.length : Nat) : Int) < 0) = false := decide_eq_false (by omega)
  generalize 1 + totL ls ls.length = kk at *
  have hn : xs.length ≤ 1048576 := by omega
  have hn3 : 1 + 2 * xs.length ≤ 4000000 := by omega
  have HD := Lib.hid fun a ds c W h1 h2 h3 => heldMs_len (n := xs.length) a ds c 1 W h1 h2 h3 hn3
  have MO := fun B v W h => markMsOwn_any B xs v 1 W h hn3
  have MO := Lib.hid MO
  have n0 : decide (((1 + 2 * xs.length : Nat) : Int) < 0) = false := decide_eq_false (by omega)
  have n3 : (((1 + 2 * xs.length : Nat) : Int) != ((1 + 2 * xs.length : Nat) : Int)) = false := by simp
  have n4 : (cd != cd) = false := by simp
  generalize 1 + 2 * xs.length = nn at *
  clear n1 n2 hm lm ht hz hp hF hxl
  have tok1 : True := trivial
  have tok2 : True := trivial
  have tok3 : True := trivial
  have tok4 : True := trivial
  have tok5 : True := trivial
  have tok6 : True := trivial
  have tok7 : True := trivial
  have tok8 : True := trivial
  have tok9 : True := trivial
  have tok10 : True := trivial
  have tok11 : True := trivial
  go_wp2_with (first
    | (go_at_call 15; have _t := tok1; clear _t tok1; refine (toMix_any _ _ _ _).mono ?_; rintro e w1 ⟨rfl, hB⟩; have L1 := Lib.hid (lm_ab L0.out hB); clear hB)
    | (go_at_call 16; have _t := tok2; clear _t tok2; refine (TM.out _ (lotIn_below HM.out L1.out.2)).mono ?_; rintro e w2 ⟨gs2, rfl, _, hM, hB⟩; have L2 := Lib.hid (lm_ab L1.out hB); have X2 := Lib.hid hM; clear hB hM)
    | (go_at_call 14; refine (S.out _ _ _ X2.out).mono ?_; rintro e w4 ⟨v4, rfl, hO, hB⟩; obtain ⟨a4, c4, rfl, hi⟩ := ownMs_in hO; have L4 := Lib.hid (lm_ab L2.out hB); have S4 := Lib.hid hi; clear hB hO hi)
    | (go_at_call 16; have _t := tok3; clear _t tok3; refine (TM.out _ (lotIn_below HM.out L4.out.2)).mono ?_; rintro e w5 ⟨gs5, rfl, hW, hM, hB⟩; have C5 := Lib.hid hB; have D5 := Lib.hid (Below.refl w5.heap.size w5); have W5 := Lib.hid hW; have X5 := Lib.hid hM; clear hB hW hM; have q5 := Ab.block C5.out L4.out.1; have k50 := cell_of_block q5 0; have k51 := cell_of_block q5 1; have k52 := cell_of_block q5 2; have y5 := lt_of_block q5; clear q5)
    | (go_at_call 15; have _t := tok4; clear _t tok4; refine (toMix_any _ _ _ _).mono ?_; rintro e w7 ⟨rfl, hB⟩; have C7 := Lib.hid (ch_next C5.out (Nat.le_refl _) hB); have D7 := Lib.hid hB; have X7 := Lib.hid (lotIn_below X5.out hB); clear hB k50 k51 k52 y5)
    | (go_at_call 17; have _t := tok5; clear _t tok5; refine (I.out _ _ _ X7.out).mono ?_; rintro e w8 ⟨v8, rfl, hO, hB⟩; obtain ⟨a8, c8, rfl, _⟩ := ownMs_in hO; have C8 := Lib.hid (ch_next C7.out (Nat.le_refl _) hB); have D8 := Lib.hid (ch_next D7.out (Nat.le_refl _) hB); have O8 := Lib.hid (ownMs_weaken hO D7.out.size); have X8 := Lib.hid (lotIn_below X7.out hB); clear hB hO)
    | (go_at_call 18; have _t := tok6; clear _t tok6; have hx := O8.out; obtain ⟨_, _, hv, hi⟩ := ownMs_in hx; cases hv; refine (eqMasks_same _ _ _ _ _ _ hi (masksIn_up S4.out (Nat.le_refl _) C8.out) hn).mono ?_; rintro e w9 ⟨rfl, hB⟩; have C9 := Lib.hid (ch_next C8.out (Nat.le_refl _) hB); have D9 := Lib.hid (ch_next D8.out (Nat.le_refl _) hB); have O9 := Lib.hid (ownMs_kept O8.out hB); have X9 := Lib.hid (lotIn_below X8.out hB); clear hB hx hi)
    | (go_at_call 16; have _t := tok7; clear _t tok7; refine (TM.out _ (lotIn_below HM.out (L4.out.2.trans (Below.mono C9.out L4.out.2.size)))).mono ?_; rintro e w10 ⟨gs10, rfl, _, hM, hB⟩; have Y10 := Lib.hid hM; have C10 := Lib.hid (ch_next C9.out (Nat.le_refl _) hB); have D10 := Lib.hid (ch_next D9.out (Nat.le_refl _) hB); have O10 := Lib.hid (ownMs_kept O9.out hB); have X10 := Lib.hid (lotIn_below X9.out hB); clear hB hM)
    | (go_at_call 19; refine (EM.out _ _ _ _ _ X10.out Y10.out).mono ?_; rintro e w11 ⟨rfl, hB⟩; have C11 := Lib.hid (ch_next C10.out (Nat.le_refl _) hB); have D11 := Lib.hid (ch_next D10.out (Nat.le_refl _) hB); have O11 := Lib.hid (ownMs_kept O10.out hB); clear hB)
    | (go_at_call 20; refine (MK1.out _ _ _ _ _ (lotW_below W5.out (Nat.le_refl _) D11.out) D11.out.size).mono ?_; rintro e w15 ⟨rfl, hO⟩; have O15 := Lib.hid (ownMs_mid O11.out hO (Nat.le_refl _)); have C15 := Lib.hid (C11.out.trans (Below.mono (hO.below (Nat.lt_of_lt_of_le W5.out.1 D11.out.size)) (Nat.le_succ _))); clear hO)
    | (go_at_call 18; have _t := tok8; clear _t tok8; have hx := O15.out; obtain ⟨_, _, hv, hi⟩ := ownMs_in hx; cases hv; refine (eqMasks_same _ _ _ _ _ _ hi (masksIn_up S4.out (Nat.le_refl _) C15.out) hn).mono ?_; rintro e w16 ⟨rfl, hB⟩; have C16 := Lib.hid (ch_next C15.out (Nat.le_refl _) hB); have O16 := Lib.hid (ownMs_kept O15.out hB); clear hB hx hi)
    | (go_at_call 21; refine (MO.out _ _ _ O16.out).mono ?_; rintro e w17 ⟨rfl, ⟨ds, hdl, hmk, hO⟩, hB⟩; obtain ⟨a17, c17, hv, hi⟩ := ownMs_as hdl hO; cases hv; have M17 := Lib.hid hi; have DL := Lib.hid hdl; have KD := Lib.hid hmk; have C17 := Lib.hid (C16.out.trans (hB.mono C5.out.size)); clear hO hB hi hdl hmk; have q17 := Ab.block C17.out L4.out.1; have k70 := cell_of_block q17 0; have k71 := cell_of_block q17 1; have k72 := cell_of_block q17 2; have y7 := lt_of_block q17; clear q17)
    | (go_at_call 22; have _t := tok9; clear _t tok9; refine (HD.out _ _ _ _ DL.out M17.out KD.out).mono ?_; rintro e wh ⟨rfl, rfl⟩)
    | (go_at_call 15; have _t := tok10; clear _t tok10; refine (toMix_any _ _ _ _).mono ?_; rintro e w18 ⟨rfl, hB⟩; have C18 := Lib.hid (ch_next C17.out (Nat.le_refl _) hB); have M18 := Lib.hid (masksIn_below M17.out hB); clear hB k70 k71 k72 y7)
    | (go_at_call 16; have _t := tok11; clear _t tok11; refine (TM.out _ (lotIn_below HM.out (L4.out.2.trans (Below.mono C18.out L4.out.2.size)))).mono ?_; rintro e w19 ⟨gs19, rfl, _, hM, hB⟩; have X19 := Lib.hid hM; have C19 := Lib.hid (ch_next C18.out (Nat.le_refl _) hB); have M19 := Lib.hid (masksIn_below M18.out hB); clear hB hM)
    | (go_at_call 17; refine (I.out _ _ _ X19.out).mono ?_; rintro e w21 ⟨v21, rfl, hO, hB⟩; obtain ⟨a21, c21, rfl, hi⟩ := ownMs_in hO; have S21 := Lib.hid hi; have C21 := Lib.hid (ch_next C19.out (Nat.le_refl _) hB); have M21 := Lib.hid (masksIn_below M19.out hB); clear hB hO hi)
    | (go_at_call 18; refine (eqMasks_same _ _ _ _ _ _ S21.out (masksIn_up S4.out (Nat.le_refl _) C21.out) hn).mono ?_; rintro e w22 ⟨rfl, hB⟩; have C22 := Lib.hid (ch_next C21.out (Nat.le_refl _) hB); have M22 := Lib.hid (masksIn_below M21.out hB); clear hB)
    | (go_at_call 22; refine (HD.out _ _ _ _ DL.out M22.out KD.out).mono ?_; rintro e wh ⟨rfl, rfl⟩))
  all_goals go_returns
  all_goals exact ⟨rfl, (lm_ab L4.out C22.out).2⟩
/-! ### The frame round the walk -/
section
set_option maxRecDepth 100000 in
theorem fnExactMixLot_lifted (os : Os) (started : os.Started) (H : Type) (enc : TypeId × Value → H) :
    ReturnsInHanded {} Try.checked os 3 .any (Rows.fnExactMixLotSpec.pre6 enc Try.prog Try.f3 Rows.fnExactMixLotRow.domain false) (Rows.fnExactMixLotSpec.post enc Try.prog Try.f3 false true false false) := by
  refine returnsInHanded_of_change_sized (C := Try.checked) own started (by kernel_rfl) Try.func3
    (ChangeSpec.witness6 (enc := enc) (C := Try.checked) false ⟨#[], #[.agg #[.int .i16 0, .int .i16 0, .int .i16 0], .slice none 0 0], []⟩ 8 (by kernel_rfl) (by kernel_rfl) (by kernel_rfl) (by kernel_rfl)) ?_
  intro W base args ds gs before hval hW _ hsz _
  have hW' := hW
  obtain ⟨p, q, hA, hV, rfl, _, _⟩ := hW
  obtain ⟨rfl, rfl⟩ := trodVars_none hV
  have hlt : ∀ x ∈ p, x.block < W.heap.size := fun x hx => by simpa using hW'.lt x (by simpa using hx)
  rw [Try.params3] at hA hval hsz
  obtain ⟨v0, vs0, d0, ds0, p0, q0, hargs, rfl, rfl, h0, r0⟩ := trodAll_cons hA
  obtain ⟨v1, vs1, d1, ds1, p1, q1, rfl, rfl, rfl, h1, r1⟩ := trodAll_cons r0
  obtain ⟨rfl, rfl, rfl⟩ := trodAll_nil r1
  obtain rfl : args = #[v0, v1] := by cases args; simp_all
  obtain ⟨t0, z0, p0, rfl, ht0, hz0, hp0⟩ := open_mix (e := 22) Try.underlying24 (by kernel_rfl) (by kernel_rfl) (by kernel_rfl) (hval 0 24 v0 rfl rfl)
  obtain ⟨a1, ls1, c1, rfl, hz1, hl1⟩ := open_lot (e := 37) (u := 9) (by kernel_rfl) (by kernel_rfl) (by kernel_rfl) (by kernel_rfl) (by kernel_rfl) (hval 1 25 v1 rfl rfl) h1
  refine (fnExactMixLot_walk t0 z0 p0 ht0 hz0 hp0 a1 ls1 c1 W hz1 hl1).mono fun e W' ⟨he, hb⟩ => ?_
  subst he
  exact ⟨_, rfl, law_post laidOut rfl Try.underlying4 (of_all (by kernel_rfl)) rfl hW' rfl rfl rfl hb⟩

theorem fnExactMixLot_over : Rows.fnExactMixLotRow.holds Try.pinned (OpenSpec.ofChange Rows.fnExactMixLotSpec) :=
  OpenClaim.holds_of_wide 3 Try.f3 rfl rfl rfl rfl rfl rfl rfl ⟨rfl, rfl, rfl, rfl, rfl⟩ rfl rfl rfl rfl rfl (by kernel_rfl) Try.func3 (by kernel_rfl)
    (of_decide_eq_true (by kernel_rfl)) (by unfold Func.isWrapper; rw [if_neg (of_decide_eq_false (by kernel_rfl))]; exact ⟨rfl, rfl⟩)
    (fun os started H enc _ => fnExactMixLot_lifted os started H enc)

/-- The statement. -/
theorem fnExactMixLot_holds : Rows.FnExactMixLotSaid := fnExactMixLot_over
end
end Go.Proofs.Ytoippchkhknhpaa
