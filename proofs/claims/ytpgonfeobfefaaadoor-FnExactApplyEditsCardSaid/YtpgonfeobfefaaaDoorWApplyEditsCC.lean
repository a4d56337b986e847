/- ApplyEdits answers, for every deck and all edits, as its model does; its answer is memory of its own. No conditions but what the library's errorType reads as. -/
import Derived.Test.YtpgonfeobfefaaaDoorApW
import Derived.Test.YtpgonfeobfefaaaDoorApV
import Derived.Test.YtpgonfeobfefaaaDoorDoor
import Derived.Test.YtpgonfeobfefaaaDoorEdL
import Derived.Test.YtpgonfeobfefaaaDoorMark
import Derived.Test.YtpgonfeobfefaaaDoorHeldC
import Derived.Deep.DeepCutAuto
namespace Go.Proofs.YtpgonfeobfefaaaDoor
open Go.ChangeShapes Go.WideShapes Go.ChangeAt Go.RowKit

theorem wr_cardsX {w : World} {g : Nat} {cs : List Cd} (h : CardsIn w (some ⟨g, 0, none⟩) cs) (hf : ∀ j, w.frozen? ⟨g, j, none⟩ = false) : Wb w g (cs.length * 3) := by
  refine ⟨fun j hj => ?_, fun j _ => hf j⟩
  obtain ⟨_, b, off, he, _, h0, h1, h2⟩ := h (j / 3) (by omega)
  cases he
  rcases (show j % 3 = 0 ∨ j % 3 = 1 ∨ j % 3 = 2 by omega) with e | e | e
  · exact ⟨.string (cdAt cs (j / 3)).s, by rw [show (⟨g, j, none⟩ : Addr) = ⟨g, 0 + j / 3 * 3, none⟩ from by congr 1; omega]; exact h0⟩
  · exact ⟨.int .u64 (cdAt cs (j / 3)).a, by rw [show (⟨g, j, none⟩ : Addr) = ⟨g, 0 + j / 3 * 3 + 1, none⟩ from by congr 1; omega]; exact h1⟩
  · exact ⟨.int .u64 (cdAt cs (j / 3)).b, by rw [show (⟨g, j, none⟩ : Addr) = ⟨g, 0 + j / 3 * 3 + 2, none⟩ from by congr 1; omega]; exact h2⟩
theorem wb_othX {w w' : World} {g h m : Nat} (k : Wb w g m) (ho : Oth h w w') (hg : g < w.heap.size) (hne : g ≠ h) : Wb w' g m :=
  ⟨fun j hj => (k.1 j hj).imp fun _ hv => (World.cell?_of_block (ho.block g hne hg)).trans hv, fun j hj => (World.frozen?_of_block (ho.block g hne hg)).trans (k.2 j hj)⟩
/-- A deck of the law's own. -/
def DkX (cs : List Cd) (g : Nat) (W : World) : Prop := CardsIn W (some ⟨g, 0, none⟩) cs ∧ Wb W g (cs.length * 3) ∧ g < W.heap.size
theorem DkX.ab {cs : List Cd} {g : Nat} {W W' : World} (h : DkX cs g W) (k : Ab W W') : DkX cs g W' := ⟨cardsIn_below h.1 k, h.2.1.below k h.2.2, Nat.lt_of_lt_of_le h.2.2 k.size⟩
/-- Edits of the law's own. -/
def EdX2 (cs : List Ed) (g : Nat) (W : World) : Prop := EditsIn W (some ⟨g, 0, none⟩) cs ∧ Wb W g (cs.length * 5) ∧ g < W.heap.size
theorem EdX2.ab {cs : List Ed} {g : Nat} {W W' : World} (h : EdX2 cs g W) (k : Ab W W') : EdX2 cs g W' := ⟨editsIn_below h.1 k, h.2.1.below k h.2.2, Nat.lt_of_lt_of_le h.2.2 k.size⟩
theorem ax_next {B : Nat} {w a b : World} (h : Below B w a) (hB : B ≤ w.heap.size) (k : Below a.heap.size a b) : Below B w b := h.trans (Below.mono k (Nat.le_trans hB h.size))

theorem apFrom_ok {es : List Ed} (hx : ∀ i, i < es.length → (edAt es i).fits) (ho : ∀ i, i < es.length → edOk (edAt es i) = true) : ∀ (f j : Nat) (cs : List Cd), j + f ≤ es.length → deckOk cs = true → (∀ i, i < cs.length → (cdAt cs i).fits) → (apFrom es f j cs).1.length ≤ 80 ∧ ∀ i, i < (apFrom es f j cs).1.length → (cdAt (apFrom es f j cs).1 i).fits
  | 0, _, _, _, hd, hf => ⟨deckOk_80 hd, hf⟩
  | f + 1, j, cs, hj, hd, hf => by
    unfold apFrom
    split
    · rename_i hq
      have hA := apA_fits hf (hx j (by omega)) (ho j (by omega))
      rw [apA_yes hq] at hA
      exact apFrom_ok hx ho f (j + 1) _ (by omega) (deckOk_ap hf hd (hx j (by omega)) (ho j (by omega)) hq) hA
    · exact ⟨Nat.zero_le _, fun i hi => absurd hi (Nat.not_lt_zero _)⟩
theorem axL_ok {cs : List Cd} {es : List Ed} (hf : ∀ i, i < cs.length → (cdAt cs i).fits) (hx : ∀ i, i < es.length → (edAt es i).fits) : (axL cs es).length ≤ 80 ∧ ∀ i, i < (axL cs es).length → (cdAt (axL cs es) i).fits := by
  unfold axL
  split
  · rename_i h
    rw [Bool.and_eq_true, beq_iff_eq] at h
    have h1 : edTil es es.length = true := by
      have hk := h.2
      unfold edsC at hk
      split at hk
      · assumption
      · cases hk
    exact apFrom_ok hx (fun i hi => edTil_at h1 hi) _ _ _ (by omega) h.1 hf
  · exact ⟨Nat.zero_le _, fun i hi => absurd hi (Nat.not_lt_zero _)⟩

set_option maxRecDepth 100000 in
set_option maxHeartbeats 6400000 in
theorem fnExactApplyEdits_walk (a1 : Option Addr) (cs : List Cd) (c1 : Nat) (a2 : Option Addr) (es : List Ed) (c2 : Nat) (w : World) (hE : EtIn w) (h1 : CardsIn w a1 cs) (l1 : cs.length ≤ maxLen) (h2 : EditsIn w a2 es) (l2 : es.length ≤ maxLen) :
    Calls Tryd.prog 5 #[.slice a1 cs.length c1, .slice a2 es.length c2] w fun e w' => e = .returned (.bool true) ∧ Below w.heap.size w w' := by
  unfold maxLen at l1 l2
  have H1 := Lib.hid h1
  have H2 := Lib.hid h2
  have Z1 := Lib.hid fun W hs => szCardS2_any a1 cs c1 1048576 W hs (by decide) (by decide) (by omega)
  have Z2 := Lib.hid fun l l0 l1 W hs => szEditS2_any a2 es c2 l W hs l0 l1 (by omega)
  have EE := Lib.hid fun (W : World) (hB : Below w.heap.size w W) => hE.below hB
  clear l1 l2 h1 h2 hE
  go_enter Tryd.func5, Tryd.ntmps5
  go_upto_region 3 with (go_at_call 8; refine (Z1.out _ H1.out).mono ?_; rintro e w1 ⟨z, rfl, z0, z1, z2, hB⟩; have B1 := Lib.hid hB; clear hB)
  by_cases hz0 : z < 0
  · have d1 : decide (z < 0) = true := decide_eq_true hz0
    go_wp2
    go_returns
    exact ⟨rfl, B1.out⟩
  have d1 : decide (z < 0) = false := decide_eq_false hz0
  have n1 := z2 (by omega)
  have zp : 0 ≤ z := by omega
  clear z2
  go_upto_region 6 with (go_at_call 19; refine (Z2.out z zp z1 _ (editsIn_below H2.out B1.out)).mono ?_; rintro e w2 ⟨q, rfl, q0, q1, q2, hB⟩; have B2 := Lib.hid (ax_next B1.out (Nat.le_refl _) hB); clear hB)
  by_cases hq0 : q < 0
  · have d2 : decide (q < 0) = true := decide_eq_true hq0
    go_wp2
    go_returns
    exact ⟨rfl, B2.out⟩
  have d2 : decide (q < 0) = false := decide_eq_false hq0
  have n2 := q2 (by omega)
  have nn : cs.length + es.length ≤ 1048576 := by omega
  clear z0 z1 hz0 q0 q1 q2 hq0 zp n1 n2
  have T1 := Lib.hid fun W hs => toCardS_any a1 cs c1 W hs (by omega)
  have T2 := Lib.hid fun W hs => toEditS_any a2 es c2 W hs (by omega)
  have E1 := Lib.hid fun a b c d W ha hb => eqCardS_same a b cs c d W ha hb (by omega)
  have E2 := Lib.hid fun a b c d W ha hb => eqEditS_same a b es c d W ha hb (by omega)
  have S := fun x c1 y c2 W hx hy => sApplyS_any x cs c1 y es c2 W hx hy (by omega)
  have I := fun x c1 y c2 W hx hy hE => iApplyS_any x cs c1 y es c2 W hx hy (by omega) hE
  obtain ⟨xl, FT⟩ := axL_ok (fun i hi => (H1.out i hi).1) (fun i hi => (H2.out i hi).1)
  have FT := Lib.hid FT
  generalize axL cs es = xs at *
  generalize axN cs es = nx at *
  generalize axK cs es = kx at *
  have EQ := Lib.hid fun a b c d W ha hb => eqCardS_same a b xs c d W ha hb (by omega)
  have MO := Lib.hid fun B v W h => markCardsOwn_any B xs v 1 W h (by omega)
  have HD := fun (a : Option Addr) (ds : List Cd) (c : Nat) (hds : ds.length = xs.length) W h hm => heldCards_any a ds c 1 W h hm (by omega)
  have HD := Lib.hid (fun (a : Option Addr) (ds : List Cd) (c : Nat) (hds : ds.length = xs.length) W h hm => (show Calls Tryd.prog 18 #[.slice a xs.length c, .int .i64 ((1 : Nat) : Int)] W fun e w' => e = .returned (.int .i64 ((1 + 3 * xs.length : Nat) : Int)) ∧ Below W.heap.size W w' by rw [← hds]; exact HD a ds c hds W h hm))
  have S := Lib.hid S
  have I := Lib.hid I
  obtain ⟨kk, hkk⟩ : ∃ kk : Nat, kk = 1 + 3 * cs.length := ⟨_, rfl⟩
  have M1 := fun g W hW hg => markCards_any cs.length g 1 cs.length W hW hg (by omega)
  rw [← hkk] at M1
  have M1 := Lib.hid M1
  obtain ⟨k2, hk2⟩ : ∃ k2 : Nat, k2 = kk + 5 * es.length := ⟨_, rfl⟩
  have M2 := fun g W hW hg => markEdits_any es.length g kk es.length W hW hg (by omega)
  rw [← hk2] at M2
  have M2 := Lib.hid M2
  have k0 : decide ((k2 : Int) < 0) = false := by simp
  generalize 1 + 3 * xs.length = mm at *
  have n0 : decide ((mm : Int) < 0) = false := by simp
  have n3 : ((mm : Int) != (mm : Int)) = false := by simp
  have n4 : (nx != nx) = false := by simp
  have n5 : (kx != kx) = false := by simp
  clear hkk hk2 xl nn
  have tok1 : True := trivial
  have tok2 : True := trivial
  have tok3 : True := trivial
  have tok4 : True := trivial
  have tok5 : True := trivial
  have tok6 : True := trivial
  have tok7 : True := trivial
  go_upto_region 12 with (first
    | (go_at_call 11; have _t := tok1; clear _t tok1; refine (T1.out _ (cardsIn_below H1.out B2.out)).mono ?_; rintro e w3 ⟨v, rfl, ⟨g3, rfl, _, _, hs, _⟩, hB⟩; have B3 := Lib.hid (ax_next B2.out (Nat.le_refl _) hB); have X3 := Lib.hid hs; clear hB hs)
    | (go_at_call 21; have _t := tok2; clear _t tok2; refine (T2.out _ (editsIn_below H2.out B3.out)).mono ?_; rintro e w4 ⟨v, rfl, ⟨g4, rfl, _, _, hs, _⟩, hB⟩; have B4 := Lib.hid (ax_next B3.out (Nat.le_refl _) hB); have X4 := Lib.hid (cardsIn_below X3.out hB); have Y4 := Lib.hid hs; clear hB hs)
    | (go_at_call 20; refine (S.out _ _ _ _ _ X4.out Y4.out).mono ?_; rintro e w5 ⟨g5, c5, rfl, hO, hB⟩; obtain ⟨_, _, hv, hi⟩ := ownCards_in hO; cases hv; have S5 := Lib.hid (cardsIn_of hi FT.out); have B5 := Lib.hid (ax_next B4.out (Nat.le_refl _) hB); clear hO hi hB)
    | (go_at_call 11; refine (T1.out _ (cardsIn_below H1.out B5.out)).mono ?_; rintro e w6 ⟨v, rfl, ⟨g6, rfl, hg6, hl6, hs6, hf6⟩, hB⟩; have C6 := Lib.hid (show Ab w5 w6 from hB); have G6 := Lib.hid hg6; have D6 := Lib.hid (show DkX cs g6 w6 from ⟨hs6, wr_cardsX hs6 hf6, hl6⟩); clear hB hs6 hf6 hg6 hl6)
    | (go_at_call 21; refine (T2.out _ (editsIn_below H2.out (ax_next B5.out (Nat.le_refl _) C6.out))).mono ?_; rintro e w7 ⟨v, rfl, ⟨g7, rfl, hg7, hl7, hs7, hf7⟩, hB⟩; have C7 := Lib.hid (Ab.trans C6.out hB); have G7 := Lib.hid (Nat.lt_of_lt_of_le D6.out.2.2 hg7); have D7 := Lib.hid (D6.out.ab hB); have F7 := Lib.hid (show EdX2 es g7 w7 from ⟨hs7, edits_cells hs7 hf7, hl7⟩); clear hB hs7 hf7 hg7 hl7)
    | (go_at_call 22; refine (I.out _ _ _ _ _ D7.out.1 F7.out.1 (EE.out _ (ax_next B5.out (Nat.le_refl _) C7.out))).mono ?_; rintro e w8 ⟨v8, rfl, hO, hB⟩; obtain ⟨a8, c8, rfl, hi⟩ := ownCards_in hO; have O8 := Lib.hid hO; have I8 := Lib.hid (cardsIn_of hi FT.out); have C8 := Lib.hid (Ab.trans C7.out hB); have D8 := Lib.hid (D7.out.ab hB); have F8 := Lib.hid (F7.out.ab hB); clear hB hO hi))
  go_upto_region 21 with (first
    | (go_at_call 14; have _t := tok3; clear _t tok3; refine (EQ.out _ _ _ _ _ I8.out (cardsIn_below S5.out C8.out)).mono ?_; rintro e w9 ⟨rfl, hB⟩; have C9 := Lib.hid (Ab.trans C8.out hB); have D9 := Lib.hid (D8.out.ab hB); have F9 := Lib.hid (F8.out.ab hB); have O9 := Lib.hid (ownCards_kept O8.out hB); clear hB)
    | (go_at_call 11; refine (T1.out _ (cardsIn_below H1.out (ax_next B5.out (Nat.le_refl _) C9.out))).mono ?_; rintro e w10 ⟨v, rfl, ⟨g10, rfl, _, _, hs, _⟩, hB⟩; have C10 := Lib.hid (Ab.trans C9.out hB); have D10 := Lib.hid (D9.out.ab hB); have F10 := Lib.hid (F9.out.ab hB); have O10 := Lib.hid (ownCards_kept O9.out hB); have Y10 := Lib.hid hs; clear hB hs)
    | (go_at_call 14; refine (E1.out _ _ _ _ _ D10.out.1 Y10.out).mono ?_; rintro e w11 ⟨rfl, hB⟩; have C11 := Lib.hid (Ab.trans C10.out hB); have D11 := Lib.hid (D10.out.ab hB); have F11 := Lib.hid (F10.out.ab hB); have O11 := Lib.hid (ownCards_kept O10.out hB); clear hB)
    | (go_at_call 21; refine (T2.out _ (editsIn_below H2.out (ax_next B5.out (Nat.le_refl _) C11.out))).mono ?_; rintro e w12 ⟨v, rfl, ⟨g12, rfl, _, _, hs, _⟩, hB⟩; have C12 := Lib.hid (Ab.trans C11.out hB); have D12 := Lib.hid (D11.out.ab hB); have F12 := Lib.hid (F11.out.ab hB); have O12 := Lib.hid (ownCards_kept O11.out hB); have Y12 := Lib.hid hs; clear hB hs)
    | (go_at_call 23; refine (E2.out _ _ _ _ _ F12.out.1 Y12.out).mono ?_; rintro e w13 ⟨rfl, hB⟩; have C13 := Lib.hid (Ab.trans C12.out hB); have D13 := Lib.hid (D12.out.ab hB); have F13 := Lib.hid (F12.out.ab hB); have O13 := Lib.hid (ownCards_kept O12.out hB); clear hB)
    | (go_at_call 17; refine (M1.out _ _ D13.out.2.1 D13.out.2.2).mono ?_; rintro e w14 ⟨rfl, hO⟩; have O14 := Lib.hid (ownCards_oth O13.out hO D7.out.2.2); have C14 := Lib.hid (Below.trans C13.out (Below.mono (hO.below (Nat.le_of_lt D13.out.2.2)) G6.out)); have V14 := Lib.hid (wb_othX F13.out.2.1 hO F13.out.2.2 (Nat.ne_of_gt G7.out)); have L14 := Lib.hid (Nat.lt_of_lt_of_le F13.out.2.2 hO.size); clear hO)
    | (go_at_call 24; refine (M2.out _ _ V14.out L14.out).mono ?_; rintro e w15 ⟨rfl, hO⟩; have O15 := Lib.hid (ownCards_oth O14.out hO F7.out.2.2); have C15 := Lib.hid (Below.trans C14.out (Below.mono (hO.below (Nat.le_of_lt L14.out)) (Nat.le_trans G6.out (Nat.le_of_lt G7.out)))); clear hO))
  go_wp2_with (first
    | (go_at_call 14; have _t := tok4; clear _t tok4; have hx := O15.out; obtain ⟨_, _, hv, hi⟩ := ownCards_in hx; cases hv; refine (EQ.out _ _ _ _ _ (cardsIn_of hi FT.out) (cardsIn_below S5.out C15.out)).mono ?_; rintro e w16 ⟨rfl, hB⟩; have C16 := Lib.hid (Ab.trans C15.out hB); have O16 := Lib.hid (ownCards_kept hx hB); clear hB hx hi)
    | (go_at_call 17; refine (MO.out _ _ _ O16.out).mono ?_; rintro e w17 ⟨rfl, ⟨ds, hds, hm, hO⟩, hB⟩; obtain ⟨am, cm, hv, hi⟩ := ownCards_in hO; rw [hds] at hv; cases hv; have HDS := Lib.hid hds; have MI := Lib.hid hi; have MM := Lib.hid hm; have C17 := Lib.hid (Below.trans C16.out (hB.mono C7.out.size)); clear hO hB hi hm hds)
    | (go_at_call 18; have _t := tok5; clear _t tok5; refine (HD.out _ _ _ HDS.out _ MI.out MM.out).mono ?_; rintro e w18 ⟨rfl, hB⟩; have C18 := Lib.hid (Ab.trans C17.out hB); have I18 := Lib.hid (cellsC_below MI.out hB); clear hB)
    | (go_at_call 11; refine (T1.out _ (cardsIn_below H1.out (ax_next B5.out (Nat.le_refl _) C18.out))).mono ?_; rintro e w19 ⟨v, rfl, ⟨g19, rfl, _, _, hs, _⟩, hB⟩; have C19 := Lib.hid (Ab.trans C18.out hB); have I19 := Lib.hid (cellsC_below I18.out hB); have X19 := Lib.hid hs; clear hB hs)
    | (go_at_call 21; refine (T2.out _ (editsIn_below H2.out (ax_next B5.out (Nat.le_refl _) C19.out))).mono ?_; rintro e w20 ⟨v, rfl, ⟨g20, rfl, _, _, hs, _⟩, hB⟩; have C20 := Lib.hid (Ab.trans C19.out hB); have I20 := Lib.hid (cellsC_below I19.out hB); have X20 := Lib.hid (cardsIn_below X19.out hB); have Y20 := Lib.hid hs; clear hB hs)
    | (go_at_call 22; refine (I.out _ _ _ _ _ X20.out Y20.out (EE.out _ (ax_next B5.out (Nat.le_refl _) C20.out))).mono ?_; rintro e w21 ⟨v21, rfl, hO, hB⟩; obtain ⟨a21, c21, rfl, hi⟩ := ownCards_in hO; have J21 := Lib.hid (cardsIn_of hi FT.out); have C21 := Lib.hid (Ab.trans C20.out hB); have I21 := Lib.hid (cellsC_below I20.out hB); clear hB hO hi)
    | (go_at_call 14; refine (EQ.out _ _ _ _ _ J21.out (cardsIn_below S5.out C21.out)).mono ?_; rintro e w22 ⟨rfl, hB⟩; have C22 := Lib.hid (Ab.trans C21.out hB); have I22 := Lib.hid (cellsC_below I21.out hB); clear hB)
    | (go_at_call 18; refine (HD.out _ _ _ HDS.out _ I22.out MM.out).mono ?_; rintro e w23 ⟨rfl, hB⟩; have C23 := Lib.hid (Ab.trans C22.out hB); clear hB))
  all_goals go_returns
  all_goals exact ⟨rfl, ax_next B5.out (Nat.le_refl _) C23.out⟩
/-! ### The frame round the walk -/
section
set_option maxRecDepth 100000 in
theorem fnExactApplyEdits_lifted (os : Os) (started : os.Started) (H : Type) (enc : TypeId × Value → H) :
    ReturnsInHanded {} Tryd.checked os 5 .any (fun w args => (Rows.fnExactApplyEditsSpec.pre enc Tryd.prog Tryd.f5 Rows.fnExactApplyEditsRow.domain false w args ∧ laidMetH Tryd.prog Rows.fnExactApplyEditsRow.laid w) ∧ sizedMet enc Tryd.prog Tryd.f5 (OpenSpec.ofChange Rows.fnExactApplyEditsSpec) false w args) (Rows.fnExactApplyEditsSpec.post enc Tryd.prog Tryd.f5 false true false false) := by
  refine returnsInHanded_of_change_and (C := Tryd.checked) (X := fun w _ => laidMetH Tryd.prog Rows.fnExactApplyEditsRow.laid w) (fun _ _ _ hh h => h.of_heap hh) own started (by kernel_rfl) Tryd.func5
    (ChangeSpec.witness_at (enc := enc) (C := Tryd.checked) (os := os) (X := fun w _ => laidMetH Tryd.prog Rows.fnExactApplyEditsRow.laid w) false (etWorld os) #[.slice none 0 0, .slice none 0 0] 8 rfl (by kernel_rfl) (by kernel_rfl) (by kernel_rfl) (by kernel_rfl) (by kernel_rfl) (etWorld_met os _)) ?_
  intro W base args ds gs before hval0 hW _ _ hL _
  have hEt := et_of_laid hL
  have hval : ∀ (j : Nat) t v, Tryd.f5.params[j]? = some t → args[j]? = some v → Value.okWide Tryd.prog W .any base t v := hval0
  have hW' := hW
  obtain ⟨p, q, hA0, hV, rfl, _, _⟩ := hW
  have hA : DataW.TrodAll enc Tryd.prog W 0 (fun _ => true) true Tryd.f5.params.toList args.toList ds p := hA0
  obtain ⟨rfl, rfl⟩ := trodVars_none hV
  have hlt : ∀ x ∈ p, x.block < W.heap.size := fun x hx => by simpa using hW'.lt x (by simpa using hx)
  rw [Tryd.params5] at hA hval
  obtain ⟨v0, vs0, d0, ds0, p0, q0, hargs, rfl, rfl, h0, r0⟩ := trodAll_cons hA
  obtain ⟨v1, vs1, d1, ds1, p1, q1, rfl, rfl, rfl, h1, r1⟩ := trodAll_cons r0
  obtain ⟨rfl, rfl, rfl⟩ := trodAll_nil r1
  obtain rfl : args = #[v0, v1] := by cases args; simp_all
  obtain ⟨a0, cs0, c0, rfl, hz0, hl0⟩ := open_cards (u := 22) (e := 61) (by kernel_rfl) Tryd.underlying61 (by kernel_rfl) (by kernel_rfl) (by kernel_rfl) (by kernel_rfl) (by kernel_rfl) (by kernel_rfl) (by kernel_rfl) (by kernel_rfl) (by kernel_rfl) (hval 0 23 v0 rfl rfl) h0
  obtain ⟨a1, es1, c1, rfl, hz1, hl1⟩ := open_editsT (u := 22) (e := 28) (by kernel_rfl) Tryd.underlying28 (by kernel_rfl) (by kernel_rfl) (by kernel_rfl) (by kernel_rfl) (by kernel_rfl) (by kernel_rfl) (by kernel_rfl) (by kernel_rfl) (by kernel_rfl) (by kernel_rfl) (by kernel_rfl) (by kernel_rfl) (by kernel_rfl) (by kernel_rfl) (by kernel_rfl) (hval 1 45 v1 rfl rfl) h1
  refine (fnExactApplyEdits_walk a0 cs0 c0 a1 es1 c1 W hEt hz0 hl0 hz1 hl1).mono fun e W' ⟨he, hb⟩ => ?_
  subst he
  exact ⟨_, rfl, law_post laidOut rfl Tryd.underlying4 (of_all (by kernel_rfl)) rfl hW' rfl rfl rfl hb⟩

theorem fnExactApplyEdits_over : Rows.fnExactApplyEditsRow.holds Tryd.pinned (OpenSpec.ofChange Rows.fnExactApplyEditsSpec) :=
  OpenClaim.holds_of_wide 5 Tryd.f5 rfl rfl rfl rfl rfl rfl rfl ⟨rfl, rfl, rfl, rfl, rfl⟩ rfl rfl rfl rfl rfl (by kernel_rfl) Tryd.func5 (by kernel_rfl)
    (of_decide_eq_true (by kernel_rfl)) (by unfold Func.isWrapper; rw [if_neg (of_decide_eq_false (by kernel_rfl))]; exact ⟨rfl, rfl⟩)
    (fun os started H enc _ => fnExactApplyEdits_lifted os started H enc)

/-- The card. -/
theorem fnExactApplyEdits_holds : Rows.FnExactApplyEditsCardSaid :=
  Claim7.holds_tied_plain_at .later [] [.handle] true _ true fnExactApplyEdits_over (fun _ h => by cases h) (by kernel_rfl) (fun _ h => by cases h) fnExactApplyEdits_row_tie rfl ⟨rfl, rfl⟩ (by kernel_rfl) rfl
    (fun f fn hf hfn => by
      obtain rfl : f = 5 := Option.some.inj ((show Tryd.prog.funcNamed Tryd.f5.name = some 5 by kernel_rfl).symm.trans hf) |>.symm
      obtain rfl : fn = Tryd.f5 := (Option.some.inj (Tryd.func5.symm.trans hfn)).symm
      exact ⟨by kernel_rfl, fun j t ht => by
        rw [Tryd.params5] at ht
        have hm : t ∈ [23, 45] := by simpa using Array.mem_of_getElem? ht
        have hall : ([23, 45].all fun u => !Tryd.prog.wantsStandIn u) = true := by kernel_rfl
        exact (show Tryd.prog.wantsStandIn t = false by simpa using List.all_eq_true.1 hall t hm)⟩)
    (by kernel_rfl)
end
end Go.Proofs.YtpgonfeobfefaaaDoor


