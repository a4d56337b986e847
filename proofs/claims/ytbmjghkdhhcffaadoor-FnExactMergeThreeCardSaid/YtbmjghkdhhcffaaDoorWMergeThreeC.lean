/- MergeThree answers, for every three decks, as its model does; its answer is memory of its own. No conditions but what the library's errorType reads as. -/
import Derived.Test.YtbmjghkdhhcffaaDoorMtX
import Derived.Test.YtbmjghkdhhcffaaDoorDoor
import Derived.Test.YtbmjghkdhhcffaaDoorMarkC
import Derived.Test.YtbmjghkdhhcffaaDoorSzC2
import Derived.Test.YtbmjghkdhhcffaaDoorMark
import Derived.Test.YtbmjghkdhhcffaaDoorHeldC
import Derived.Deep.DeepCutAuto
namespace Go.Proofs.YtbmjghkdhhcffaaDoor
open Go.ChangeShapes Go.WideShapes Go.ChangeAt Go.RowKit

theorem wr_cardsX {w : World} {g : Nat} {cs : List Cd} (h : CardsIn w (some ⟨g, 0, none⟩) cs) (hf : ∀ j, w.frozen? ⟨g, j, none⟩ = false) : Wb w g (cs.length * 3) := by
  refine ⟨fun j hj => ?_, fun j _ => hf j⟩
  obtain ⟨_, b, off, he, _, h0, h1, h2⟩ := h (j / 3) (by omega)
  cases he
  rcases (show j % 3 = 0 ∨ j % 3 = 1 ∨ j % 3 = 2 by omega) with e | e | e
  · exact ⟨.string (cdAt cs (j / 3)).s, by rw [show (⟨g, j, none⟩ : Addr) = ⟨g, 0 + j / 3 * 3, none⟩ from by congr 1; omega]; exact h0⟩
  · exact ⟨.int .u64 (cdAt cs (j / 3)).a, by rw [show (⟨g, j, none⟩ : Addr) = ⟨g, 0 + j / 3 * 3 + 1, none⟩ from by congr 1; omega]; exact h1⟩
  · exact ⟨.int .u64 (cdAt cs (j / 3)).b, by rw [show (⟨g, j, none⟩ : Addr) = ⟨g, 0 + j / 3 * 3 + 2, none⟩ from by congr 1; omega]; exact h2⟩
theorem wb_othX {w w' : World} {g h m : Nat} (k : Wb w g m) (ho : Oth h w w') (hg : g < w.heap.size) (hne : g ≠ h) : Wb w' g m :=
  ⟨fun j hj => (k.1 j hj).imp fun _ hv => (World.cell?_of_block (ho.block g hne hg)).trans hv, fun j hj => (World.frozen?_of_block (ho.block g hne hg)).trans (k.2 j hj)⟩
/-- A deck of the law's own. -/
def DkX (cs : List Cd) (g : Nat) (W : World) : Prop := CardsIn W (some ⟨g, 0, none⟩) cs ∧ Wb W g (cs.length * 3) ∧ g < W.heap.size
theorem DkX.ab {cs : List Cd} {g : Nat} {W W' : World} (h : DkX cs g W) (k : Ab W W') : DkX cs g W' := ⟨cardsIn_below h.1 k, h.2.1.below k h.2.2, Nat.lt_of_lt_of_le h.2.2 k.size⟩
theorem ax_next {B : Nat} {w a b : World} (h : Below B w a) (hB : B ≤ w.heap.size) (k : Below a.heap.size a b) : Below B w b := h.trans (Below.mono k (Nat.le_trans hB h.size))

set_option maxRecDepth 100000 in
set_option maxHeartbeats 6400000 in
theorem fnExactMergeThree_walk (a1 : Option Addr) (ps : List Cd) (c1 : Nat) (a2 : Option Addr) (qs : List Cd) (c2 : Nat) (a3 : Option Addr) (rs : List Cd) (c3 : Nat) (w : World) (hE : EtIn w) (h1 : CardsIn w a1 ps) (l1 : ps.length ≤ maxLen) (h2 : CardsIn w a2 qs) (l2 : qs.length ≤ maxLen) (h3 : CardsIn w a3 rs) (l3 : rs.length ≤ maxLen) :
    Calls Tryd.prog 3 #[.slice a1 ps.length c1, .slice a2 qs.length c2, .slice a3 rs.length c3] w fun e w' => e = .returned (.bool true) ∧ Below w.heap.size w w' := by
  unfold maxLen at l1 l2 l3
  have H1 := Lib.hid h1
  have H2 := Lib.hid h2
  have H3 := Lib.hid h3
  have Z1 := Lib.hid fun W hs => szCardS2_any a1 ps c1 1048576 W hs (by decide) (by decide) (by omega)
  have Z2 := Lib.hid fun l l0 l1 W hs => szCardS2_any a2 qs c2 l W hs l0 l1 (by omega)
  have Z3 := Lib.hid fun l l0 l1 W hs => szCardS2_any a3 rs c3 l W hs l0 l1 (by omega)
  have EE := Lib.hid fun (W : World) (hB : Below w.heap.size w W) => hE.below hB
  clear l1 l2 l3 h1 h2 h3 hE
  go_enter Tryd.func3, Tryd.ntmps3
  go_upto_region 3 with (go_at_call 7; refine (Z1.out _ H1.out).mono ?_; rintro e w1 ⟨z, rfl, z0, z1, z2, hB⟩; have B1 := Lib.hid hB; clear hB)
  by_cases hz0 : z < 0
  · have d1 : decide (z < 0) = true := decide_eq_true hz0
    go_wp2
    go_returns
    exact ⟨rfl, B1.out⟩
  have d1 : decide (z < 0) = false := decide_eq_false hz0
  have n1 := z2 (by omega)
  have zp : 0 ≤ z := by omega
  clear z2
  go_upto_region 6 with (go_at_call 7; refine (Z2.out z zp z1 _ (cardsIn_below H2.out B1.out)).mono ?_; rintro e w2 ⟨q, rfl, q0, q1, q2, hB⟩; have B2 := Lib.hid (ax_next B1.out (Nat.le_refl _) hB); clear hB)
  by_cases hq0 : q < 0
  · have d2 : decide (q < 0) = true := decide_eq_true hq0
    go_wp2
    go_returns
    exact ⟨rfl, B2.out⟩
  have d2 : decide (q < 0) = false := decide_eq_false hq0
  have n2 := q2 (by omega)
  have qp : 0 ≤ q := by omega
  have qz : q ≤ 1048576 := by omega
  clear q2
  go_upto_region 9 with (go_at_call 7; refine (Z3.out q qp qz _ (cardsIn_below H3.out B2.out)).mono ?_; rintro e w3 ⟨r, rfl, r0, r1, r2, hB⟩; have B3 := Lib.hid (ax_next B2.out (Nat.le_refl _) hB); clear hB)
  by_cases hr0 : r < 0
  · have d3 : decide (r < 0) = true := decide_eq_true hr0
    go_wp2
    go_returns
    exact ⟨rfl, B3.out⟩
  have d3 : decide (r < 0) = false := decide_eq_false hr0
  have n3 := r2 (by omega)
  have nn : ps.length + qs.length + rs.length ≤ 1048576 := by omega
  clear z0 z1 hz0 q0 q1 hq0 zp qp qz n1 n2 n3 r0 r1 r2 hr0
  have T1 := Lib.hid fun W hs => toCardS_any a1 ps c1 W hs (by omega)
  have T2 := Lib.hid fun W hs => toCardS_any a2 qs c2 W hs (by omega)
  have T3 := Lib.hid fun W hs => toCardS_any a3 rs c3 W hs (by omega)
  have E1 := Lib.hid fun a b c d W ha hb => eqCardS_same a b ps c d W ha hb (by omega)
  have E2 := Lib.hid fun a b c d W ha hb => eqCardS_same a b qs c d W ha hb (by omega)
  have E3 := Lib.hid fun a b c d W ha hb => eqCardS_same a b rs c d W ha hb (by omega)
  have S := fun g1 g2 g3 k1 k2 k3 W h1 h2 h3 => sMerge3_any g1 g2 g3 ps qs rs k1 k2 k3 W h1 h2 h3
  have I := fun g1 g2 g3 k1 k2 k3 W h1 h2 h3 hE => iMerge3_any g1 g2 g3 ps qs rs k1 k2 k3 W h1 h2 h3 hE
  obtain ⟨xl, FT⟩ := mtL_ok (fun i hi => (H1.out i hi).1) (fun i hi => (H2.out i hi).1) (fun i hi => (H3.out i hi).1)
  have FT := Lib.hid FT
  generalize mtL ps qs rs = xs at *
  generalize mtK ps qs rs = kx at *
  have EQ := Lib.hid fun a b c d W ha hb => eqCardS_same a b xs c d W ha hb (by omega)
  have MO := Lib.hid fun B v W h => markCardsOwn_any B xs v 1 W h (by omega)
  have HD := fun (a : Option Addr) (ds : List Cd) (c : Nat) (hds : ds.length = xs.length) W h hm => heldCards_any a ds c 1 W h hm (by omega)
  have HD := Lib.hid (fun (a : Option Addr) (ds : List Cd) (c : Nat) (hds : ds.length = xs.length) W h hm => (show Calls Tryd.prog 13 #[.slice a xs.length c, .int .i64 ((1 : Nat) : Int)] W fun e w' => e = .returned (.int .i64 ((1 + 3 * xs.length : Nat) : Int)) ∧ Below W.heap.size W w' by rw [← hds]; exact HD a ds c hds W h hm))
  have S := Lib.hid S
  have I := Lib.hid I
  obtain ⟨m1, hm1⟩ : ∃ kk : Nat, kk = 1 + 3 * ps.length := ⟨_, rfl⟩
  have M1 := fun g W hW hg => markCards_any ps.length g 1 ps.length W hW hg (by omega)
  rw [← hm1] at M1
  have M1 := Lib.hid M1
  obtain ⟨m2, hm2⟩ : ∃ kk : Nat, kk = m1 + 3 * qs.length := ⟨_, rfl⟩
  have M2 := fun g W hW hg => markCards_any qs.length g m1 qs.length W hW hg (by omega)
  rw [← hm2] at M2
  have M2 := Lib.hid M2
  obtain ⟨m3, hm3⟩ : ∃ kk : Nat, kk = m2 + 3 * rs.length := ⟨_, rfl⟩
  have M3 := fun g W hW hg => markCards_any rs.length g m2 rs.length W hW hg (by omega)
  rw [← hm3] at M3
  have M3 := Lib.hid M3
  have k0 : decide ((m3 : Int) < 0) = false := by simp
  generalize 1 + 3 * xs.length = mm at *
  have n0 : decide ((mm : Int) < 0) = false := by simp
  have n4 : ((mm : Int) != (mm : Int)) = false := by simp
  have n5 : (kx != kx) = false := by simp
  clear hm1 hm2 hm3 xl nn
  have tok1 : True := trivial
  have tok2 : True := trivial
  have tok3 : True := trivial
  have tok4 : True := trivial
  have tok5 : True := trivial
  have tok6 : True := trivial
  have tok7 : True := trivial
  have tok8 : True := trivial
  have tok9 : True := trivial
  have tok10 : True := trivial
  have tok11 : True := trivial
  have tok12 : True := trivial
  have tok13 : True := trivial
  have tok14 : True := trivial
  have tok15 : True := trivial
  have tok16 : True := trivial
  have tok17 : True := trivial
  have tok18 : True := trivial
  have tok19 : True := trivial
  have tok20 : True := trivial
  have tok21 : True := trivial
  have tok22 : True := trivial
  have tok23 : True := trivial
  have tok24 : True := trivial
  go_wp2_with (first
    | (go_at_call 9; have _t := tok1; clear _t tok1; refine (T1.out _ (cardsIn_below H1.out B3.out)).mono ?_; rintro e w4 ⟨v, rfl, ⟨g4, rfl, _, _, hs, _⟩, hB⟩; have B4 := Lib.hid (ax_next B3.out (Nat.le_refl _) hB); have X0_4 := Lib.hid hs; clear hB hs)
    | (go_at_call 9; have _t := tok2; clear _t tok2; refine (T2.out _ (cardsIn_below H2.out B4.out)).mono ?_; rintro e w5 ⟨v, rfl, ⟨g5, rfl, _, _, hs, _⟩, hB⟩; have B5 := Lib.hid (ax_next B4.out (Nat.le_refl _) hB); have X0_5 := Lib.hid (cardsIn_below X0_4.out hB); have X1_5 := Lib.hid hs; clear hB hs)
    | (go_at_call 9; have _t := tok3; clear _t tok3; refine (T3.out _ (cardsIn_below H3.out B5.out)).mono ?_; rintro e w6 ⟨v, rfl, ⟨g6, rfl, _, _, hs, _⟩, hB⟩; have B6 := Lib.hid (ax_next B5.out (Nat.le_refl _) hB); have X0_6 := Lib.hid (cardsIn_below X0_5.out hB); have X1_6 := Lib.hid (cardsIn_below X1_5.out hB); have X2_6 := Lib.hid hs; clear hB hs)
    | (go_at_call 8; refine (S.out _ _ _ _ _ _ _ X0_6.out X1_6.out X2_6.out).mono ?_; rintro e w7 ⟨v, rfl, hO, hB⟩; obtain ⟨a7, c7, rfl, hi⟩ := ownCards_in hO; have S5 := Lib.hid (cardsIn_of hi FT.out); have B5 := Lib.hid (ax_next B6.out (Nat.le_refl _) hB); clear hO hi hB)
    | (go_at_call 9; have _t := tok4; clear _t tok4; refine (T1.out _ (cardsIn_below H1.out B5.out)).mono ?_; rintro e w8 ⟨v, rfl, ⟨g8, rfl, hg, hl, hs, hf⟩, hB⟩; have C8 := Lib.hid (show Ab w7 w8 from hB); have G8 := Lib.hid hg; have D0_8 := Lib.hid (show DkX ps g8 w8 from ⟨hs, wr_cardsX hs hf, hl⟩); clear hB hs hf hg hl)
    | (go_at_call 9; have _t := tok5; clear _t tok5; refine (T2.out _ (cardsIn_below H2.out (ax_next B5.out (Nat.le_refl _) C8.out))).mono ?_; rintro e w9 ⟨v, rfl, ⟨g9, rfl, hg, hl, hs, hf⟩, hB⟩; have C9 := Lib.hid (Ab.trans C8.out hB); have G9 := Lib.hid (Nat.lt_of_lt_of_le D0_8.out.2.2 hg); have D0_9 := Lib.hid (D0_8.out.ab hB); have D1_9 := Lib.hid (show DkX qs g9 w9 from ⟨hs, wr_cardsX hs hf, hl⟩); clear hB hs hf hg hl)
    | (go_at_call 9; have _t := tok6; clear _t tok6; refine (T3.out _ (cardsIn_below H3.out (ax_next B5.out (Nat.le_refl _) C9.out))).mono ?_; rintro e w10 ⟨v, rfl, ⟨g10, rfl, hg, hl, hs, hf⟩, hB⟩; have C10 := Lib.hid (Ab.trans C9.out hB); have G10 := Lib.hid (Nat.lt_of_lt_of_le D1_9.out.2.2 hg); have D0_10 := Lib.hid (D0_9.out.ab hB); have D1_10 := Lib.hid (D1_9.out.ab hB); have D2_10 := Lib.hid (show DkX rs g10 w10 from ⟨hs, wr_cardsX hs hf, hl⟩); clear hB hs hf hg hl)
    | (go_at_call 10; have _t := tok7; clear _t tok7; refine (I.out _ _ _ _ _ _ _ D0_10.out.1 D1_10.out.1 D2_10.out.1 (EE.out _ (ax_next B5.out (Nat.le_refl _) C10.out))).mono ?_; rintro e w11 ⟨v11, rfl, hO, hB⟩; obtain ⟨a11, c11, rfl, hi⟩ := ownCards_in hO; have O11 := Lib.hid hO; have I11 := Lib.hid (cardsIn_of hi FT.out); have C11 := Lib.hid (Ab.trans C10.out hB); have D0_11 := Lib.hid (D0_10.out.ab hB); have D1_11 := Lib.hid (D1_10.out.ab hB); have D2_11 := Lib.hid (D2_10.out.ab hB); clear hB hO hi)
    | (go_at_call 11; have _t := tok8; clear _t tok8; refine (EQ.out _ _ _ _ _ I11.out (cardsIn_below S5.out C11.out)).mono ?_; rintro e w12 ⟨rfl, hB⟩; have C12 := Lib.hid (Ab.trans C11.out hB); have D0_12 := Lib.hid (D0_11.out.ab hB); have D1_12 := Lib.hid (D1_11.out.ab hB); have D2_12 := Lib.hid (D2_11.out.ab hB); have O12 := Lib.hid (ownCards_kept O11.out hB); clear hB)
    | (go_at_call 9; have _t := tok9; clear _t tok9; refine (T1.out _ (cardsIn_below H1.out (ax_next B5.out (Nat.le_refl _) C12.out))).mono ?_; rintro e w13 ⟨v, rfl, ⟨g13, rfl, _, _, hs, _⟩, hB⟩; have C13 := Lib.hid (Ab.trans C12.out hB); have D0_13 := Lib.hid (D0_12.out.ab hB); have D1_13 := Lib.hid (D1_12.out.ab hB); have D2_13 := Lib.hid (D2_12.out.ab hB); have O13 := Lib.hid (ownCards_kept O12.out hB); have Y13 := Lib.hid hs; clear hB hs)
    | (go_at_call 11; have _t := tok10; clear _t tok10; refine (E1.out _ _ _ _ _ D0_13.out.1 Y13.out).mono ?_; rintro e w14 ⟨rfl, hB⟩; have C14 := Lib.hid (Ab.trans C13.out hB); have D0_14 := Lib.hid (D0_13.out.ab hB); have D1_14 := Lib.hid (D1_13.out.ab hB); have D2_14 := Lib.hid (D2_13.out.ab hB); have O14 := Lib.hid (ownCards_kept O13.out hB); clear hB)
    | (go_at_call 9; have _t := tok11; clear _t tok11; refine (T2.out _ (cardsIn_below H2.out (ax_next B5.out (Nat.le_refl _) C14.out))).mono ?_; rintro e w15 ⟨v, rfl, ⟨g15, rfl, _, _, hs, _⟩, hB⟩; have C15 := Lib.hid (Ab.trans C14.out hB); have D0_15 := Lib.hid (D0_14.out.ab hB); have D1_15 := Lib.hid (D1_14.out.ab hB); have D2_15 := Lib.hid (D2_14.out.ab hB); have O15 := Lib.hid (ownCards_kept O14.out hB); have Y15 := Lib.hid hs; clear hB hs)
    | (go_at_call 11; have _t := tok12; clear _t tok12; refine (E2.out _ _ _ _ _ D1_15.out.1 Y15.out).mono ?_; rintro e w16 ⟨rfl, hB⟩; have C16 := Lib.hid (Ab.trans C15.out hB); have D0_16 := Lib.hid (D0_15.out.ab hB); have D1_16 := Lib.hid (D1_15.out.ab hB); have D2_16 := Lib.hid (D2_15.out.ab hB); have O16 := Lib.hid (ownCards_kept O15.out hB); clear hB)
    | (go_at_call 9; have _t := tok13; clear _t tok13; refine (T3.out _ (cardsIn_below H3.out (ax_next B5.out (Nat.le_refl _) C16.out))).mono ?_; rintro e w17 ⟨v, rfl, ⟨g17, rfl, _, _, hs, _⟩, hB⟩; have C17 := Lib.hid (Ab.trans C16.out hB); have D0_17 := Lib.hid (D0_16.out.ab hB); have D1_17 := Lib.hid (D1_16.out.ab hB); have D2_17 := Lib.hid (D2_16.out.ab hB); have O17 := Lib.hid (ownCards_kept O16.out hB); have Y17 := Lib.hid hs; clear hB hs)
    | (go_at_call 11; have _t := tok14; clear _t tok14; refine (E3.out _ _ _ _ _ D2_17.out.1 Y17.out).mono ?_; rintro e w18 ⟨rfl, hB⟩; have C18 := Lib.hid (Ab.trans C17.out hB); have D0_18 := Lib.hid (D0_17.out.ab hB); have D1_18 := Lib.hid (D1_17.out.ab hB); have D2_18 := Lib.hid (D2_17.out.ab hB); have O18 := Lib.hid (ownCards_kept O17.out hB); clear hB)
    | (go_at_call 12; have _t := tok15; clear _t tok15; refine (M1.out _ _ D0_18.out.2.1 D0_18.out.2.2).mono ?_; rintro e w19 ⟨rfl, hO⟩; have O19 := Lib.hid (ownCards_oth O18.out hO D0_10.out.2.2); have C19 := Lib.hid (Below.trans C18.out (Below.mono (hO.below (Nat.le_of_lt D0_18.out.2.2)) G8.out)); have V1_19 := Lib.hid (wb_othX D1_18.out.2.1 hO D1_18.out.2.2 (Nat.ne_of_gt G9.out)); have L1_19 := Lib.hid (Nat.lt_of_lt_of_le D1_18.out.2.2 hO.size); have V2_19 := Lib.hid (wb_othX D2_18.out.2.1 hO D2_18.out.2.2 (Nat.ne_of_gt (Nat.lt_trans G9.out G10.out))); have L2_19 := Lib.hid (Nat.lt_of_lt_of_le D2_18.out.2.2 hO.size); clear hO)
    | (go_at_call 12; have _t := tok16; clear _t tok16; refine (M2.out _ _ V1_19.out L1_19.out).mono ?_; rintro e w20 ⟨rfl, hO⟩; have O20 := Lib.hid (ownCards_oth O19.out hO D1_10.out.2.2); have C20 := Lib.hid (Below.trans C19.out (Below.mono (hO.below (Nat.le_of_lt L1_19.out)) (Nat.le_trans G8.out (Nat.le_of_lt G9.out)))); have V2_20 := Lib.hid (wb_othX V2_19.out hO L2_19.out (Nat.ne_of_gt G10.out)); have L2_20 := Lib.hid (Nat.lt_of_lt_of_le L2_19.out hO.size); clear hO)
    | (go_at_call 12; have _t := tok17; clear _t tok17; refine (M3.out _ _ V2_20.out L2_20.out).mono ?_; rintro e w21 ⟨rfl, hO⟩; have O21 := Lib.hid (ownCards_oth O20.out hO D2_10.out.2.2); have C21 := Lib.hid (Below.trans C20.out (Below.mono (hO.below (Nat.le_of_lt L2_20.out)) (Nat.le_trans (Nat.le_trans G8.out (Nat.le_of_lt G9.out)) (Nat.le_of_lt G10.out)))); clear hO)
    | (go_at_call 11; have _t := tok18; clear _t tok18; have hx := O21.out; obtain ⟨_, _, hv, hi⟩ := ownCards_in hx; cases hv; refine (EQ.out _ _ _ _ _ (cardsIn_of hi FT.out) (cardsIn_below S5.out C21.out)).mono ?_; rintro e w22 ⟨rfl, hB⟩; have C22 := Lib.hid (Ab.trans C21.out hB); have O22 := Lib.hid (ownCards_kept hx hB); clear hB hx hi)
    | (go_at_call 12; have _t := tok19; clear _t tok19; refine (MO.out _ _ _ O22.out).mono ?_; rintro e w23 ⟨rfl, ⟨ds, hds, hm, hO⟩, hB⟩; obtain ⟨am, cm, hv, hi⟩ := ownCards_in hO; rw [hds] at hv; cases hv; have HDS := Lib.hid hds; have MI23 := Lib.hid hi; have MM := Lib.hid hm; have C23 := Lib.hid (Below.trans C22.out (hB.mono C10.out.size)); clear hO hB hi hm hds)
    | (go_at_call 13; have _t := tok20; clear _t tok20; refine (HD.out _ _ _ HDS.out _ MI23.out MM.out).mono ?_; rintro e w24 ⟨rfl, hB⟩; have C24 := Lib.hid (Ab.trans C23.out hB); have MI24 := Lib.hid (cellsC_below MI23.out hB); clear hB)
    | (go_at_call 9; have _t := tok21; clear _t tok21; refine (T1.out _ (cardsIn_below H1.out (ax_next B5.out (Nat.le_refl _) C24.out))).mono ?_; rintro e w25 ⟨v, rfl, ⟨g25, rfl, _, _, hs, _⟩, hB⟩; have C25 := Lib.hid (Ab.trans C24.out hB); have MI25 := Lib.hid (cellsC_below MI24.out hB); have U0_25 := Lib.hid hs; clear hB hs)
    | (go_at_call 9; have _t := tok22; clear _t tok22; refine (T2.out _ (cardsIn_below H2.out (ax_next B5.out (Nat.le_refl _) C25.out))).mono ?_; rintro e w26 ⟨v, rfl, ⟨g26, rfl, _, _, hs, _⟩, hB⟩; have C26 := Lib.hid (Ab.trans C25.out hB); have MI26 := Lib.hid (cellsC_below MI25.out hB); have U0_26 := Lib.hid (cardsIn_below U0_25.out hB); have U1_26 := Lib.hid hs; clear hB hs)
    | (go_at_call 9; have _t := tok23; clear _t tok23; refine (T3.out _ (cardsIn_below H3.out (ax_next B5.out (Nat.le_refl _) C26.out))).mono ?_; rintro e w27 ⟨v, rfl, ⟨g27, rfl, _, _, hs, _⟩, hB⟩; have C27 := Lib.hid (Ab.trans C26.out hB); have MI27 := Lib.hid (cellsC_below MI26.out hB); have U0_27 := Lib.hid (cardsIn_below U0_26.out hB); have U1_27 := Lib.hid (cardsIn_below U1_26.out hB); have U2_27 := Lib.hid hs; clear hB hs)
    | (go_at_call 10; refine (I.out _ _ _ _ _ _ _ U0_27.out U1_27.out U2_27.out (EE.out _ (ax_next B5.out (Nat.le_refl _) C27.out))).mono ?_; rintro e w28 ⟨v28, rfl, hO, hB⟩; obtain ⟨a28, c28, rfl, hi⟩ := ownCards_in hO; have J28 := Lib.hid (cardsIn_of hi FT.out); have C28 := Lib.hid (Ab.trans C27.out hB); have MI28 := Lib.hid (cellsC_below MI27.out hB); clear hB hO hi)
    | (go_at_call 11; have _t := tok24; clear _t tok24; refine (EQ.out _ _ _ _ _ J28.out (cardsIn_below S5.out C28.out)).mono ?_; rintro e w29 ⟨rfl, hB⟩; have C29 := Lib.hid (Ab.trans C28.out hB); have MI29 := Lib.hid (cellsC_below MI28.out hB); clear hB)
    | (go_at_call 13; refine (HD.out _ _ _ HDS.out _ MI29.out MM.out).mono ?_; rintro e w30 ⟨rfl, hB⟩; have C30 := Lib.hid (Ab.trans C29.out hB); clear hB))
  all_goals go_returns
  all_goals exact ⟨rfl, ax_next B5.out (Nat.le_refl _) C30.out⟩
/-! ### The frame round the walk -/
section
set_option maxRecDepth 100000 in
theorem fnExactMergeThree_lifted (os : Os) (started : os.Started) (H : Type) (enc : TypeId × Value → H) :
    ReturnsInHanded {} Tryd.checked os 3 .any (fun w args => (Rows.fnExactMergeThreeSpec.pre enc Tryd.prog Tryd.f3 Rows.fnExactMergeThreeRow.domain false w args ∧ laidMetH Tryd.prog Rows.fnExactMergeThreeRow.laid w) ∧ sizedMet enc Tryd.prog Tryd.f3 (OpenSpec.ofChange Rows.fnExactMergeThreeSpec) false w args) (Rows.fnExactMergeThreeSpec.post enc Tryd.prog Tryd.f3 false true false false) := by
  refine returnsInHanded_of_change_and (C := Tryd.checked) (X := fun w _ => laidMetH Tryd.prog Rows.fnExactMergeThreeRow.laid w) (fun _ _ _ hh h => h.of_heap hh) own started (by kernel_rfl) Tryd.func3
    (ChangeSpec.witness_at (enc := enc) (C := Tryd.checked) (os := os) (X := fun w _ => laidMetH Tryd.prog Rows.fnExactMergeThreeRow.laid w) false (etWorld os) #[.slice none 0 0, .slice none 0 0, .slice none 0 0] 8 rfl (by kernel_rfl) (by kernel_rfl) (by kernel_rfl) (by kernel_rfl) (by kernel_rfl) (etWorld_met os _)) ?_
  intro W base args ds gs before hval0 hW _ _ hL _
  have hEt := et_of_laid hL
  have hval : ∀ (j : Nat) t v, Tryd.f3.params[j]? = some t → args[j]? = some v → Value.okWide Tryd.prog W .any base t v := hval0
  have hW' := hW
  obtain ⟨p, q, hA0, hV, rfl, _, _⟩ := hW
  have hA : DataW.TrodAll enc Tryd.prog W 0 (fun _ => true) true Tryd.f3.params.toList args.toList ds p := hA0
  obtain ⟨rfl, rfl⟩ := trodVars_none hV
  have hlt : ∀ x ∈ p, x.block < W.heap.size := fun x hx => by simpa using hW'.lt x (by simpa using hx)
  rw [Tryd.params3] at hA hval
  obtain ⟨v0, vs0, d0, ds0, p0, q0, hargs, rfl, rfl, h0, r0⟩ := trodAll_cons hA
  obtain ⟨v1, vs1, d1, ds1, p1, q1, rfl, rfl, rfl, h1, r1⟩ := trodAll_cons r0
  obtain ⟨v2, vs2, d2, ds2, p2, q2, rfl, rfl, rfl, h2, r2⟩ := trodAll_cons r1
  obtain ⟨rfl, rfl, rfl⟩ := trodAll_nil r2
  obtain rfl : args = #[v0, v1, v2] := by cases args; simp_all
  obtain ⟨a0, cs0, c0, rfl, hz0, hl0⟩ := open_cards (u := 34) (e := 59) (by kernel_rfl) Tryd.underlying59 (by kernel_rfl) (by kernel_rfl) (by kernel_rfl) (by kernel_rfl) (by kernel_rfl) (by kernel_rfl) (by kernel_rfl) (by kernel_rfl) (by kernel_rfl) (hval 0 22 v0 rfl rfl) h0
  obtain ⟨a1, cs1, c1, rfl, hz1, hl1⟩ := open_cards (u := 34) (e := 59) (by kernel_rfl) Tryd.underlying59 (by kernel_rfl) (by kernel_rfl) (by kernel_rfl) (by kernel_rfl) (by kernel_rfl) (by kernel_rfl) (by kernel_rfl) (by kernel_rfl) (by kernel_rfl) (hval 1 22 v1 rfl rfl) h1
  obtain ⟨a2, cs2, c2, rfl, hz2, hl2⟩ := open_cards (u := 34) (e := 59) (by kernel_rfl) Tryd.underlying59 (by kernel_rfl) (by kernel_rfl) (by kernel_rfl) (by kernel_rfl) (by kernel_rfl) (by kernel_rfl) (by kernel_rfl) (by kernel_rfl) (by kernel_rfl) (hval 2 22 v2 rfl rfl) h2
  refine (fnExactMergeThree_walk a0 cs0 c0 a1 cs1 c1 a2 cs2 c2 W hEt hz0 hl0 hz1 hl1 hz2 hl2).mono fun e W' ⟨he, hb⟩ => ?_
  subst he
  exact ⟨_, rfl, law_post laidOut rfl Tryd.underlying4 (of_all (by kernel_rfl)) rfl hW' rfl rfl rfl hb⟩

theorem fnExactMergeThree_over : Rows.fnExactMergeThreeRow.holds Tryd.pinned (OpenSpec.ofChange Rows.fnExactMergeThreeSpec) :=
  OpenClaim.holds_of_wide 3 Tryd.f3 rfl rfl rfl rfl rfl rfl rfl ⟨rfl, rfl, rfl, rfl, rfl⟩ rfl rfl rfl rfl rfl (by kernel_rfl) Tryd.func3 (by kernel_rfl)
    (of_decide_eq_true (by kernel_rfl)) (by unfold Func.isWrapper; rw [if_neg (of_decide_eq_false (by kernel_rfl))]; exact ⟨rfl, rfl⟩)
    (fun os started H enc _ => fnExactMergeThree_lifted os started H enc)

/-- The card. -/
theorem fnExactMergeThree_holds : Rows.FnExactMergeThreeCardSaid :=
  Claim7.holds_tied_plain_at .later [] [.handle] true _ true fnExactMergeThree_over (fun _ h => by cases h) (by kernel_rfl) (fun _ h => by cases h) fnExactMergeThree_row_tie rfl ⟨rfl, rfl⟩ (by kernel_rfl) rfl
    (fun f fn hf hfn => by
      obtain rfl : f = 3 := Option.some.inj ((show Tryd.prog.funcNamed Tryd.f3.name = some 3 by kernel_rfl).symm.trans hf) |>.symm
      obtain rfl : fn = Tryd.f3 := (Option.some.inj (Tryd.func3.symm.trans hfn)).symm
      exact ⟨by kernel_rfl, fun j t ht => by
        rw [Tryd.params3] at ht
        have hm : t ∈ [22, 22, 22] := by simpa using Array.mem_of_getElem? ht
        have hall : ([22, 22, 22].all fun u => !Tryd.prog.wantsStandIn u) = true := by kernel_rfl
        exact (show Tryd.prog.wantsStandIn t = false by simpa using List.all_eq_true.1 hall t hm)⟩)
    (by kernel_rfl)
end
end Go.Proofs.YtbmjghkdhhcffaaDoor


