/- FalseOf answers, for every mix, every lot and every list of texts, as its model does; its answer is memory of its own. No conditions. -/
import Derived.Test.YtoippchkhknhpaaFoZ
import Derived.Test.YtoippchkhknhpaaMarkS
import Derived.Test.YtoippchkhknhpaaStrL
namespace Go.Proofs.Ytoippchkhknhpaa
open Go.ChangeShapes Go.WideShapes Go.ChangeAt Go.RowKit

theorem intsIn_up {B : Nat} {w w' : World} {a : Option Addr} {zs : List Int} (h : IntsIn w a zs) (hB : w.heap.size ≤ B) (hb : Below B w w') : IntsIn w' a zs := fun i hi => by
  obtain ⟨b, off, ha, hlt, hc⟩ := h i hi
  exact ⟨b, off, ha, Nat.lt_of_lt_of_le hlt hb.size, (hb.cell (Nat.lt_of_lt_of_le hlt hB)).trans hc⟩
theorem masksIn_up {B : Nat} {w w' : World} {a : Option Addr} {zs : List (Int × Int)} (h : MasksIn w a zs) (hB : w.heap.size ≤ B) (hb : Below B w w') : MasksIn w' a zs := fun i hi => by
  obtain ⟨b, off, ha, hlt, h0, h1⟩ := h i hi
  exact ⟨b, off, ha, Nat.lt_of_lt_of_le hlt hb.size, (hb.cell (Nat.lt_of_lt_of_le hlt hB)).trans h0, (hb.cell (Nat.lt_of_lt_of_le hlt hB)).trans h1⟩
theorem ch_next {B : Nat} {w a b : World} (h : Below B w a) (hB : B ≤ w.heap.size) (k : Below a.heap.size a b) : Below B w b := h.trans (Below.mono k (Nat.le_trans hB h.size))
theorem wr_strs {w : World} {g : Nat} {zs : List ByteArray} (h : ∀ i, i < zs.length → w.cell? ⟨g, i, none⟩ = some (.string (zs.getD i ⟨#[]⟩)) ∧ w.frozen? ⟨g, i, none⟩ = false) : Wb w g zs.length := ⟨fun j hj => ⟨_, (h j hj).1⟩, fun j hj => (h j hj).2⟩
theorem strs_in {w : World} {g : Nat} {zs : List ByteArray} (hg : g < w.heap.size) (h : ∀ i, i < zs.length → w.cell? ⟨g, i, none⟩ = some (.string (zs.getD i ⟨#[]⟩)) ∧ w.frozen? ⟨g, i, none⟩ = false) : StrsIn w (some ⟨g, 0, none⟩) zs := fun i hi => ⟨g, 0, rfl, hg, by rw [Nat.zero_add]; exact (h i hi).1⟩
/-- The law's own box: the mix. -/
def Lm (w W : World) (t z p : Int) : Prop := W.heap[w.heap.size]? = some (.cells #[.int .i16 t, .int .i16 z, .int .i16 p] 24 (0, 0)) ∧ Below w.heap.size w W
theorem lm_start (w : World) (t z p : Int) : Lm w (w.alloc (.cells #[.int .i16 t, .int .i16 z, .int .i16 p] 24)) t z p := ⟨block_alloc _ _, ab_new _ _⟩
theorem lm_ab {w W W' : World} {t z p : Int} (h : Lm w W t z p) (hb : Below W.heap.size W W') : Lm w W' t z p := ⟨Ab.block hb h.1, h.2.trans (Below.mono hb h.2.size)⟩

set_option maxRecDepth 100000 in
set_option maxHeartbeats 6400000 in
theorem fnExactFalseOf_walk (t z p : Int) (ht : I16 t) (hz : I16 z) (hp : I16 p) (am : Option Addr) (ls : List (List ByteArray)) (cm : Nat) (ad : Option Addr) (zs : List ByteArray) (cap : Nat) (w : World) (hm : LotIn w am ls) (lm : ls.length ≤ maxLen) (h : StrsIn w ad zs) (hf : Fit zs) (hl : zs.length ≤ maxLen) :
    Calls Try.prog 7 #[.agg #[.int .i16 t, .int .i16 z, .int .i16 p], .slice am ls.length cm, .slice ad zs.length cap] w fun e w' => e = .returned (.bool true) ∧ Below w.heap.size w w' := by
  unfold maxLen at lm hl
  have HM := Lib.hid hm
  have H := Lib.hid h
  have L0 := Lib.hid (lm_start w t z p)
  have SZ1 := Lib.hid fun W hs => szLotT_any am ls cm 1048576 W hs (Nat.le_refl _) (by omega)
  go_enter Try.func7, Try.ntmps7
  go_upto_region 3 with (go_at_call 13; refine (SZ1.out _ (lotIn_below HM.out L0.out.2)).mono ?_; rintro e w1 ⟨y, rfl, y0, y1, y2, rfl⟩)
  by_cases hy : y < 0
  · have d1 : decide (y < 0) = true := decide_eq_true hy
    go_wp2
    go_returns
    exact ⟨rfl, L0.out.2⟩
  have d1 : decide (y < 0) = false := decide_eq_false hy
  obtain ⟨n1, n2⟩ := y2 (by omega)
  clear y2 SZ1
  obtain ⟨yn, rfl⟩ := Int.eq_ofNat_of_zero_le (show 0 ≤ y by omega)
  have hyn : yn ≤ 1048576 := by omega
  have SZ2 := fun W hs => szStrs_any ad zs cap yn W hs hf (by omega) hyn
  by_cases h2 : totS zs zs.length ≤ yn
  case neg =>
    have e2 : leftS zs yn = -1 := leftS_no (Nat.le_refl _) (by omega)
    rw [e2] at SZ2
    have SZ2 := Lib.hid SZ2
    go_wp2_with (go_at_call 23; refine (SZ2.out _ (strsIn_below H.out L0.out.2)).mono ?_; rintro e w1 ⟨rfl, rfl⟩)
    go_returns
    exact ⟨rfl, L0.out.2⟩
  have e2 : leftS zs yn = ((yn - totS zs zs.length : Nat) : Int) := by rw [leftS_yes h2]; omega
  rw [e2] at SZ2
  have SZ2 := Lib.hid SZ2
  have d2 : decide (((yn - totS zs zs.length : Nat) : Int) < 0) = false := decide_eq_false (by omega)
  have hn1 : zs.length ≤ 1048576 := by have := totS_len zs zs.length; omega
  obtain ⟨F, hF⟩ : ∃ F, mixOk t z p = true → StopF t z p F := by
    cases h : mixOk t z p
    · exact ⟨fun _ => 0, fun e => absurd e (by decide)⟩
    · obtain ⟨t0, z0, tz, p1, p8, pz⟩ := mix_inv h
      obtain ⟨F, hF⟩ := stopF_some (p := p) t0 (show 0 < z by omega) tz (by omega)
      exact ⟨F, fun _ => hF⟩
  have n11 := n1.1
  have I := fun W x c y d q1 q2 => iFof_any t z p ht hz F hF x ls c y zs d W q1 q2 hf (by omega) (by omega)
  have S := fun W x c y d q1 q2 => sFof_any t z p ht hz hp F hF x ls c y zs d W q1 q2 hf (by omega) (by omega)
  have hxl : (mayL (flC (mixOk t z p) ls zs) (flL t z F ls zs)).length ≤ ls.length := by
    unfold mayL
    split
    · exact idx_len _ _
    · simp
  generalize mayL (flC (mixOk t z p) ls zs) (flL t z F ls zs) = xs at *
  generalize flC (mixOk t z p) ls zs = cd at *
  have I := Lib.hid I
  have S := Lib.hid S
  have TM := Lib.hid fun W hs => toLotW_any am ls cm W hs n1
  have EM := Lib.hid fun x y c d W hx hy => eqLot_same x y ls c d W hx hy n1.1
  have TO := Lib.hid fun W hs => toStrs_any ad zs cap W hs hn1
  have EQ := Lib.hid fun x y c d W hx hy => eqStrs_same x y zs c d W hx hy (by omega)
  have MK1 := Lib.hid fun G H gs c W hL hH => markLot_any G H ls gs 1 c W hL hH n1.1 (by omega)
  have MK2 := Lib.hid fun g c W hW hg => markStrs_any zs.length g (1 + totL ls ls.length) c W hW hg (by omega)
  have k0 : decide (((1 + totL ls ls.length + zs.length : Nat) : Int) < 0) = false := decide_eq_false (by omega)
  generalize 1 + totL ls ls.length + zs.length = kk at *
  generalize 1 + totL ls ls.length = k1 at *
  have hn : xs.length ≤ 17592186044404 := by omega
  have n0 : decide ((1 : Int) + (xs.length : Int) < 0) = false := by simp; omega
  have n3 : ((1 : Int) + (xs.length : Int) != (1 : Int) + (xs.length : Int)) = false := by simp
  have n4 : (cd != cd) = false := by simp
  generalize yn - totS zs zs.length = Z2 at *
  clear n1 n2 hm lm ht hz hp h hf hl e2 h2 hn1 hF hxl
  have tok1 : True := trivial
  have tok2 : True := trivial
  have tok3 : True := trivial
  have tok4 : True := trivial
  have tok5 : True := trivial
  have tok6 : True := trivial
  have tok7 : True := trivial
  have tok8 : True := trivial
  have tok9 : True := trivial
  have tok10 : True := trivial
  have tok11 : True := trivial
  have tok12 : True := trivial
  have tok13 : True := trivial
  have tok14 : True := trivial
  have tok15 : True := trivial
  go_wp2_with (first
    | (go_at_call 23; refine (SZ2.out _ (strsIn_below H.out L0.out.2)).mono ?_; rintro e w1 ⟨rfl, rfl⟩)
    | (go_at_call 15; have _t := tok1; clear _t tok1; refine (toMix_any _ _ _ _).mono ?_; rintro e w1 ⟨rfl, hB⟩; have L1 := Lib.hid (lm_ab L0.out hB); clear hB)
    | (go_at_call 16; have _t := tok2; clear _t tok2; refine (TM.out _ (lotIn_below HM.out L1.out.2)).mono ?_; rintro e w2 ⟨gs2, rfl, _, hM, hB⟩; have L2 := Lib.hid (lm_ab L1.out hB); have X2 := Lib.hid hM; clear hB hM)
    | (go_at_call 25; have _t := tok3; clear _t tok3; refine (TO.out _ (strsIn_below H.out L2.out.2)).mono ?_; rintro e w3 ⟨v3, rfl, hv, hB⟩; obtain ⟨x3, rfl, hs⟩ := newStrs_in hv; have L3 := Lib.hid (lm_ab L2.out hB); have X3 := Lib.hid (lotIn_below X2.out hB); have Z3 := Lib.hid hs; clear hB hv hs)
    | (go_at_call 39; refine (S.out _ _ _ _ _ X3.out Z3.out).mono ?_; rintro e w4 ⟨v4, rfl, hO, hB⟩; obtain ⟨a4, c4, rfl, hi⟩ := ownInts_in hO; have L4 := Lib.hid (lm_ab L3.out hB); have S4 := Lib.hid hi; clear hB hO hi)
    | (go_at_call 16; have _t := tok4; clear _t tok4; refine (TM.out _ (lotIn_below HM.out L4.out.2)).mono ?_; rintro e w5 ⟨gs5, rfl, hW, hM, hB⟩; have C5 := Lib.hid hB; have D5 := Lib.hid (Below.refl w5.heap.size w5); have W5 := Lib.hid hW; have X5 := Lib.hid hM; clear hB hW hM)
    | (go_at_call 25; have _t := tok5; clear _t tok5; refine (TO.out _ (strsIn_below H.out (L4.out.2.trans (Below.mono C5.out L4.out.2.size)))).mono ?_; rintro e w6 ⟨v6, rfl, ⟨g6, rfl, hg6, hl6, hs6⟩, hB⟩; have C6 := Lib.hid (ch_next C5.out (Nat.le_refl _) hB); have G6 := Lib.hid hg6; have T6 := Lib.hid hl6; have U6 := Lib.hid hB.size; have V6 := Lib.hid (lotW_below W5.out (Nat.le_refl _) hB); have W6 := Lib.hid (wr_strs hs6); have X6 := Lib.hid (lotIn_below X5.out hB); have Z6 := Lib.hid (strs_in hl6 hs6); clear hB hg6 hl6 hs6; have q6 := Ab.block C6.out L4.out.1; have k60 := cell_of_block q6 0; have k61 := cell_of_block q6 1; have k62 := cell_of_block q6 2; have y6 := lt_of_block q6; clear q6)
    | (go_at_call 15; have _t := tok6; clear _t tok6; refine (toMix_any _ _ _ _).mono ?_; rintro e w7 ⟨rfl, hB⟩; have C7 := Lib.hid (ch_next C6.out (Nat.le_refl _) hB); have D7 := Lib.hid hB; have X7 := Lib.hid (lotIn_below X6.out hB); have Z7 := Lib.hid (strsIn_below Z6.out hB); clear hB k60 k61 k62 y6)
    | (go_at_call 40; have _t := tok7; clear _t tok7; refine (I.out _ _ _ _ _ X7.out Z7.out).mono ?_; rintro e w8 ⟨v8, rfl, hO, hB⟩; obtain ⟨a8, c8, rfl, _⟩ := ownInts_in hO; have C8 := Lib.hid (ch_next C7.out (Nat.le_refl _) hB); have D8 := Lib.hid (ch_next D7.out (Nat.le_refl _) hB); have O8 := Lib.hid (u_weaken hO D7.out.size); have X8 := Lib.hid (lotIn_below X7.out hB); have Z8 := Lib.hid (strsIn_below Z7.out hB); clear hB hO)
    | (go_at_call 27; have _t := tok8; clear _t tok8; have hx := O8.out; obtain ⟨_, _, hv, hi⟩ := ownInts_in hx; cases hv; refine (eqInts_same _ _ _ _ _ _ hi (intsIn_up S4.out (Nat.le_refl _) C8.out) hn).mono ?_; rintro e w9 ⟨rfl, hB⟩; have C9 := Lib.hid (ch_next C8.out (Nat.le_refl _) hB); have D9 := Lib.hid (ch_next D8.out (Nat.le_refl _) hB); have O9 := Lib.hid (ownInts_kept O8.out hB); have X9 := Lib.hid (lotIn_below X8.out hB); have Z9 := Lib.hid (strsIn_below Z8.out hB); clear hB hx hi)
    | (go_at_call 16; have _t := tok9; clear _t tok9; refine (TM.out _ (lotIn_below HM.out (L4.out.2.trans (Below.mono C9.out L4.out.2.size)))).mono ?_; rintro e w10 ⟨gs10, rfl, _, hM, hB⟩; have Y10 := Lib.hid hM; have C10 := Lib.hid (ch_next C9.out (Nat.le_refl _) hB); have D10 := Lib.hid (ch_next D9.out (Nat.le_refl _) hB); have O10 := Lib.hid (ownInts_kept O9.out hB); have X10 := Lib.hid (lotIn_below X9.out hB); have Z10 := Lib.hid (strsIn_below Z9.out hB); clear hB hM)
    | (go_at_call 19; refine (EM.out _ _ _ _ _ X10.out Y10.out).mono ?_; rintro e w11 ⟨rfl, hB⟩; have C11 := Lib.hid (ch_next C10.out (Nat.le_refl _) hB); have D11 := Lib.hid (ch_next D10.out (Nat.le_refl _) hB); have O11 := Lib.hid (ownInts_kept O10.out hB); have Z11 := Lib.hid (strsIn_below Z10.out hB); clear hB)
    | (go_at_call 25; have _t := tok10; clear _t tok10; refine (TO.out _ (strsIn_below H.out (L4.out.2.trans (Below.mono C11.out L4.out.2.size)))).mono ?_; rintro e w12 ⟨v12, rfl, hv, hB⟩; obtain ⟨x12, rfl, hs⟩ := newStrs_in hv; have Y12 := Lib.hid hs; have C12 := Lib.hid (ch_next C11.out (Nat.le_refl _) hB); have D12 := Lib.hid (ch_next D11.out (Nat.le_refl _) hB); have O12 := Lib.hid (ownInts_kept O11.out hB); have Z12 := Lib.hid (strsIn_below Z11.out hB); clear hB hv hs)
    | (go_at_call 28; refine (EQ.out _ _ _ _ _ Z12.out Y12.out).mono ?_; rintro e w13 ⟨rfl, hB⟩; have C13 := Lib.hid (ch_next C12.out (Nat.le_refl _) hB); have D13 := Lib.hid (ch_next D12.out (Nat.le_refl _) hB); have O13 := Lib.hid (ownInts_kept O12.out hB); clear hB)
    | (go_at_call 20; refine (MK1.out _ _ _ _ _ (lotW_below V6.out U6.out D13.out) (Nat.le_trans U6.out D13.out.size)).mono ?_; rintro e w14 ⟨rfl, hO⟩; have O14 := Lib.hid (own_mid O13.out hO U6.out); have W14 := Lib.hid ((W6.out.below D13.out T6.out).mid hO G6.out (Nat.lt_of_lt_of_le T6.out D13.out.size)); have T14 := Lib.hid (show g6 < w14.heap.size from Nat.lt_of_lt_of_le T6.out (Nat.le_trans D13.out.size hO.size)); have C14 := Lib.hid (C13.out.trans (Below.mono (hO.below (Nat.lt_of_lt_of_le V6.out.1 D13.out.size)) (Nat.le_succ _))); clear hO)
    | (go_at_call 29; refine (MK2.out _ _ _ W14.out T14.out).mono ?_; rintro e w15 ⟨rfl, hO⟩; have O15 := Lib.hid (own_oth O14.out hO T6.out); have C15 := Lib.hid (C14.out.trans (Below.mono (hO.below (Nat.le_of_lt T14.out)) (Nat.le_trans C5.out.size G6.out))); clear hO)
    | (go_at_call 27; have _t := tok11; clear _t tok11; have hx := O15.out; obtain ⟨_, _, hv, hi⟩ := ownInts_in hx; cases hv; refine (eqInts_same _ _ _ _ _ _ hi (intsIn_up S4.out (Nat.le_refl _) C15.out) hn).mono ?_; rintro e w16 ⟨rfl, hB⟩; have C16 := Lib.hid (ch_next C15.out (Nat.le_refl _) hB); have O16 := Lib.hid (ownInts_kept O15.out hB); clear hB hx hi)
    | (go_at_call 30; refine (markInts_any _ _ _ _ _ O16.out hn (by omega) (by omega)).mono ?_; rintro e w17 ⟨rfl, hO, hB⟩; obtain ⟨a17, c17, hv, hi⟩ := ownInts_in hO; rw [marks_len] at hv; cases hv; have M17 := Lib.hid hi; have C17 := Lib.hid (C16.out.trans (hB.mono C6.out.size)); clear hO hB hi; have q17 := Ab.block C17.out L4.out.1; have k70 := cell_of_block q17 0; have k71 := cell_of_block q17 1; have k72 := cell_of_block q17 2; have y7 := lt_of_block q17; clear q17)
    | (go_at_call 31; have _t := tok12; clear _t tok12; refine (heldInts_any _ _ _ _ _ M17.out hn (by omega) (by omega)).mono ?_; rintro e wh ⟨rfl, rfl⟩)
    | (go_at_call 15; have _t := tok13; clear _t tok13; refine (toMix_any _ _ _ _).mono ?_; rintro e w18 ⟨rfl, hB⟩; have C18 := Lib.hid (ch_next C17.out (Nat.le_refl _) hB); have M18 := Lib.hid (intsIn_below M17.out hB); clear hB k70 k71 k72 y7)
    | (go_at_call 16; have _t := tok14; clear _t tok14; refine (TM.out _ (lotIn_below HM.out (L4.out.2.trans (Below.mono C18.out L4.out.2.size)))).mono ?_; rintro e w19 ⟨gs19, rfl, _, hM, hB⟩; have X19 := Lib.hid hM; have C19 := Lib.hid (ch_next C18.out (Nat.le_refl _) hB); have M19 := Lib.hid (intsIn_below M18.out hB); clear hB hM)
    | (go_at_call 25; have _t := tok15; clear _t tok15; refine (TO.out _ (strsIn_below H.out (L4.out.2.trans (Below.mono C19.out L4.out.2.size)))).mono ?_; rintro e w20 ⟨v20, rfl, hv, hB⟩; obtain ⟨x20, rfl, hs⟩ := newStrs_in hv; have Z20 := Lib.hid hs; have X20 := Lib.hid (lotIn_below X19.out hB); have C20 := Lib.hid (ch_next C19.out (Nat.le_refl _) hB); have M20 := Lib.hid (intsIn_below M19.out hB); clear hB hv hs)
    | (go_at_call 40; refine (I.out _ _ _ _ _ X20.out Z20.out).mono ?_; rintro e w21 ⟨v21, rfl, hO, hB⟩; obtain ⟨a21, c21, rfl, hi⟩ := ownInts_in hO; have S21 := Lib.hid hi; have C21 := Lib.hid (ch_next C20.out (Nat.le_refl _) hB); have M21 := Lib.hid (intsIn_below M20.out hB); clear hB hO hi)
    | (go_at_call 27; refine (eqInts_same _ _ _ _ _ _ S21.out (intsIn_up S4.out (Nat.le_refl _) C21.out) hn).mono ?_; rintro e w22 ⟨rfl, hB⟩; have C22 := Lib.hid (ch_next C21.out (Nat.le_refl _) hB); have M22 := Lib.hid (intsIn_below M21.out hB); clear hB)
    | (go_at_call 31; refine (heldInts_any _ _ _ _ _ M22.out hn (by omega) (by omega)).mono ?_; rintro e wh ⟨rfl, rfl⟩))
  all_goals go_returns
  all_goals exact ⟨rfl, (lm_ab L4.out C22.out).2⟩
/-! ### The frame round the walk -/
section
set_option maxRecDepth 100000 in
theorem fnExactFalseOf_lifted (os : Os) (started : os.Started) (H : Type) (enc : TypeId × Value → H) :
    ReturnsInHanded {} Try.checked os 7 .any (Rows.fnExactFalseOfSpec.pre6 enc Try.prog Try.f7 Rows.fnExactFalseOfRow.domain false) (Rows.fnExactFalseOfSpec.post enc Try.prog Try.f7 false true false false) := by
  refine returnsInHanded_of_change_sized (C := Try.checked) own started (by kernel_rfl) Try.func7
    (ChangeSpec.witness6 (enc := enc) (C := Try.checked) false ⟨#[], #[.agg #[.int .i16 0, .int .i16 0, .int .i16 0], .slice none 0 0, .slice none 0 0], []⟩ 8 (by kernel_rfl) (by kernel_rfl) (by kernel_rfl) (by kernel_rfl)) ?_
  intro W base args ds gs before hval hW _ hsz _
  have hW' := hW
  obtain ⟨p, q, hA, hV, rfl, _, _⟩ := hW
  obtain ⟨rfl, rfl⟩ := trodVars_none hV
  have hlt : ∀ x ∈ p, x.block < W.heap.size := fun x hx => by simpa using hW'.lt x (by simpa using hx)
  rw [Try.params7] at hA hval hsz
  obtain ⟨v0, vs0, d0, ds0, p0, q0, hargs, rfl, rfl, h0, r0⟩ := trodAll_cons hA
  obtain ⟨v1, vs1, d1, ds1, p1, q1, rfl, rfl, rfl, h1, r1⟩ := trodAll_cons r0
  obtain ⟨v2, vs2, d2, ds2, p2, q2, rfl, rfl, rfl, h2, r2⟩ := trodAll_cons r1
  obtain ⟨rfl, rfl, rfl⟩ := trodAll_nil r2
  obtain rfl : args = #[v0, v1, v2] := by cases args; simp_all
  obtain ⟨t0, z0, p0, rfl, ht0, hz0, hp0⟩ := open_mix (e := 22) Try.underlying24 (by kernel_rfl) (by kernel_rfl) (by kernel_rfl) (hval 0 24 v0 rfl rfl)
  obtain ⟨a1, ls1, c1, rfl, hz1, hl1⟩ := open_lot (e := 37) (u := 9) (by kernel_rfl) (by kernel_rfl) (by kernel_rfl) (by kernel_rfl) (by kernel_rfl) (hval 1 25 v1 rfl rfl) h1
  obtain ⟨a2, zs2, c2, rfl, hs2, hf2, hl2⟩ := open_strS (e := 9) (by kernel_rfl) (by kernel_rfl) (by kernel_rfl) (hval 2 37 v2 rfl rfl) h2
  refine (fnExactFalseOf_walk t0 z0 p0 ht0 hz0 hp0 a1 ls1 c1 a2 zs2 c2 W hz1 hl1 hs2 hf2 hl2).mono fun e W' ⟨he, hb⟩ => ?_
  subst he
  exact ⟨_, rfl, law_post laidOut rfl Try.underlying4 (of_all (by kernel_rfl)) rfl hW' rfl rfl rfl hb⟩

theorem fnExactFalseOf_over : Rows.fnExactFalseOfRow.holds Try.pinned (OpenSpec.ofChange Rows.fnExactFalseOfSpec) :=
  OpenClaim.holds_of_wide 7 Try.f7 rfl rfl rfl rfl rfl rfl rfl ⟨rfl, rfl, rfl, rfl, rfl⟩ rfl rfl rfl rfl rfl (by kernel_rfl) Try.func7 (by kernel_rfl)
    (of_decide_eq_true (by kernel_rfl)) (by unfold Func.isWrapper; rw [if_neg (of_decide_eq_false (by kernel_rfl))]; exact ⟨rfl, rfl⟩)
    (fun os started H enc _ => fnExactFalseOf_lifted os started H enc)

/-- The statement. -/
theorem fnExactFalseOf_holds : Rows.FnExactFalseOfSaid := fnExactFalseOf_over
end
end Go.Proofs.Ytoippchkhknhpaa
