/- EditsBetween answers, for every two decks, as its model does; its answer is memory of its own. No conditions. -/
import Derived.Test.YtanocllpmjhblaaEbY
import Derived.Test.YtanocllpmjhblaaEbH
import Derived.Test.YtanocllpmjhblaaSzC2
import Derived.Deep.DeepCutAuto
namespace Go.Proofs.Ytanocllpmjhblaa
open Go.ChangeShapes Go.WideShapes Go.ChangeAt Go.RowKit

theorem wr_cards {w : World} {g : Nat} {cs : List Cd} (h : CardsIn w (some ⟨g, 0, none⟩) cs) (hf : ∀ j, w.frozen? ⟨g, j, none⟩ = false) : Wb w g (cs.length * 3) := by
  refine ⟨fun j hj => ?_, fun j _ => hf j⟩
  obtain ⟨_, b, off, he, _, h0, h1, h2⟩ := h (j / 3) (by omega)
  cases he
  rcases (show j % 3 = 0 ∨ j % 3 = 1 ∨ j % 3 = 2 by omega) with e | e | e
  · exact ⟨.string (cdAt cs (j / 3)).s, by rw [show (⟨g, j, none⟩ : Addr) = ⟨g, 0 + j / 3 * 3, none⟩ from by congr 1; omega]; exact h0⟩
  · exact ⟨.int .u64 (cdAt cs (j / 3)).a, by rw [show (⟨g, j, none⟩ : Addr) = ⟨g, 0 + j / 3 * 3 + 1, none⟩ from by congr 1; omega]; exact h1⟩
  · exact ⟨.int .u64 (cdAt cs (j / 3)).b, by rw [show (⟨g, j, none⟩ : Addr) = ⟨g, 0 + j / 3 * 3 + 2, none⟩ from by congr 1; omega]; exact h2⟩
theorem wb_oth {w w' : World} {g h m : Nat} (k : Wb w g m) (ho : Oth h w w') (hg : g < w.heap.size) (hne : g ≠ h) : Wb w' g m :=
  ⟨fun j hj => (k.1 j hj).imp fun _ hv => (World.cell?_of_block (ho.block g hne hg)).trans hv, fun j hj => (World.frozen?_of_block (ho.block g hne hg)).trans (k.2 j hj)⟩
/-- A deck of the law's own. -/
def DkW (cs : List Cd) (g : Nat) (W : World) : Prop := CardsIn W (some ⟨g, 0, none⟩) cs ∧ Wb W g (cs.length * 3) ∧ g < W.heap.size
theorem DkW.ab {cs : List Cd} {g : Nat} {W W' : World} (h : DkW cs g W) (k : Ab W W') : DkW cs g W' := ⟨cardsIn_below h.1 k, h.2.1.below k h.2.2, Nat.lt_of_lt_of_le h.2.2 k.size⟩
/-- One step behind a world whose own things stay. -/
theorem ch_next {B : Nat} {w a b : World} (h : Below B w a) (hB : B ≤ w.heap.size) (k : Below a.heap.size a b) : Below B w b := h.trans (Below.mono k (Nat.le_trans hB h.size))

/-- Edits that can be. -/
def AllEd (xs : List Ed) : Prop := ∀ x ∈ xs, x.fits
theorem allEd_app {xs ys : List Ed} (h : AllEd xs) (k : AllEd ys) : AllEd (xs ++ ys) := fun x hx => by
  rcases List.mem_append.1 hx with e | e
  · exact h x e
  · exact k x e
theorem edTo_fit {s : ByteArray} (hs : s.size ≤ maxLen) {k : Int} (hk : I8 k) (a b : Int) : AllEd (edTo s k (hzL a b)) := fun x hx => by
  unfold edTo at hx
  obtain ⟨z, hz, rfl⟩ := List.mem_map.1 hx
  obtain ⟨i, hi, he⟩ := List.getElem_of_mem hz
  have h := hz_at a b hi
  rw [show (hzL a b).getD i 0 = z from by simp [List.getD, List.getElem?_eq_getElem hi, he]] at h
  exact ⟨hk, hs, ⟨by simp only; omega, by simp only; omega⟩, ⟨by simp, by simp⟩, ⟨by simp, by simp⟩⟩
theorem eb1_fit {ps : List Cd} (qs : List Cd) (hp : ∀ i, i < ps.length → (cdAt ps i).fits) : ∀ j, j ≤ ps.length → AllEd (eb1 ps qs j)
  | 0, _ => fun x hx => by cases hx
  | j + 1, hj => by
    have hf := hp j (by omega)
    refine allEd_app (eb1_fit qs hp j (by omega)) ?_
    split
    · exact allEd_app (edTo_fit hf.1 ⟨by decide, by decide⟩ _ _) (edTo_fit hf.1 ⟨by decide, by decide⟩ _ _)
    · intro x hx
      simp at hx
      subst hx
      exact ⟨⟨by simp, by simp⟩, hf.1, ⟨by simp, by simp⟩, hf.2.1, hf.2.2⟩
theorem eb2_fit {ps qs : List Cd} (hp : ∀ i, i < ps.length → (cdAt ps i).fits) (hq : ∀ i, i < qs.length → (cdAt qs i).fits) : ∀ j, j ≤ qs.length → AllEd (eb2 ps qs j)
  | 0, _ => eb1_fit qs hp _ (Nat.le_refl _)
  | j + 1, hj => by
    have hf := hq j (by omega)
    refine allEd_app (eb2_fit hp hq j (by omega)) ?_
    split
    · intro x hx; cases hx
    · intro x hx
      simp at hx
      subst hx
      exact ⟨⟨by simp, by simp⟩, hf.1, ⟨by simp, by simp⟩, hf.2.1, hf.2.2⟩
theorem ebL_fit (ok : Bool) {ps qs : List Cd} (hp : ∀ i, i < ps.length → (cdAt ps i).fits) (hq : ∀ i, i < qs.length → (cdAt qs i).fits) : ∀ i, i < (ebL ok ps qs).length → (edAt (ebL ok ps qs) i).fits := by
  intro i hi
  have hm : edAt (ebL ok ps qs) i ∈ ebL ok ps qs := by
    unfold edAt
    simp only [List.getD, List.getElem?_eq_getElem hi, Option.getD_some]
    exact List.getElem_mem _
  unfold ebL at hm hi ⊢
  split at hm
  · rename_i h
    rw [if_pos h] at hi ⊢
    exact eb2_fit hp hq _ (Nat.le_refl _) _ hm
  · cases hm
theorem editsIn_up {B : Nat} {w w' : World} {a : Option Addr} {xs : List Ed} (h : EditsIn w a xs) (hB : w.heap.size ≤ B) (hb : Below B w w') : EditsIn w' a xs := editsIn_below h (Below.mono hb hB)

set_option maxRecDepth 100000 in
set_option maxHeartbeats 6400000 in
theorem fnExactEditsBetween_walk (a1 : Option Addr) (ps : List Cd) (c1 : Nat) (a2 : Option Addr) (qs : List Cd) (c2 : Nat) (w : World) (h1 : CardsIn w a1 ps) (l1 : ps.length ≤ maxLen) (h2 : CardsIn w a2 qs) (l2 : qs.length ≤ maxLen) :
    Calls Try.prog 6 #[.slice a1 ps.length c1, .slice a2 qs.length c2] w fun e w' => e = .returned (.bool true) ∧ Below w.heap.size w w' := by
  unfold maxLen at l1 l2
  have H1 := Lib.hid h1
  have H2 := Lib.hid h2
  have Z1 := Lib.hid fun W hs => szCardS2_any a1 ps c1 1048576 W hs (by decide) (by decide) (by omega)
  have Z2 := Lib.hid fun l l0 l1 W hs => szCardS2_any a2 qs c2 l W hs l0 l1 (by omega)
  clear l1 l2 h1 h2
  go_enter Try.func6, Try.ntmps6
  go_upto_region 3 with (go_at_call 19; refine (Z1.out _ H1.out).mono ?_; rintro e w1 ⟨z, rfl, z0, z1, z2, hB⟩; have B1 := Lib.hid hB; clear hB)
  by_cases hz0 : z < 0
  · have d1 : decide (z < 0) = true := decide_eq_true hz0
    go_wp2
    go_returns
    exact ⟨rfl, B1.out⟩
  have d1 : decide (z < 0) = false := decide_eq_false hz0
  have n1 := z2 (by omega)
  have zp : 0 ≤ z := by omega
  clear z2
  go_upto_region 6 with (go_at_call 19; refine (Z2.out z zp z1 _ (cardsIn_below H2.out B1.out)).mono ?_; rintro e w2 ⟨q, rfl, q0, q1, q2, hB⟩; have B2 := Lib.hid (ch_next B1.out (Nat.le_refl _) hB); clear hB)
  by_cases hq0 : q < 0
  · have d2 : decide (q < 0) = true := decide_eq_true hq0
    go_wp2
    go_returns
    exact ⟨rfl, B2.out⟩
  have d2 : decide (q < 0) = false := decide_eq_false hq0
  have n2 := q2 (by omega)
  have nn : ps.length + qs.length ≤ 1048576 := by omega
  clear z0 z1 hz0 q0 q1 q2 hq0 zp n1 n2
  have T1 := Lib.hid fun W hs => toCardS_any a1 ps c1 W hs (by omega)
  have T2 := Lib.hid fun W hs => toCardS_any a2 qs c2 W hs (by omega)
  have E1 := Lib.hid fun a b c d W ha hb => eqCardS_same a b ps c d W ha hb (by omega)
  have E2 := Lib.hid fun a b c d W ha hb => eqCardS_same a b qs c d W ha hb (by omega)
  have S := fun x c1 y c2 W hx hy => sEb_any x ps c1 y qs c2 W hx hy
  have I := fun x c1 y c2 W hx hy => iEb_any x ps c1 y qs c2 W hx hy
  have FT := Lib.hid (ebL_fit (deckOk ps && deckOk qs) (fun i hi => (H1.out i hi).1) (fun i hi => (H2.out i hi).1))
  have xl := ebL_len (deckOk ps && deckOk qs) ps qs
  generalize ebL (deckOk ps && deckOk qs) ps qs = xs at *
  generalize ebC (deckOk ps && deckOk qs) ps qs = cd at *
  have EQ := Lib.hid fun a b c d W ha hb => eqEditS_same a b xs c d W ha hb (by omega)
  have MO := Lib.hid fun B v W h => markEditsOwn_any B xs v 1 W h (by omega)
  have HD := Lib.hid fun a ds c (hds : ds.length = xs.length) W h hm => heldEdits_any a ds c 1 xs.length hds.symm W h hm (by omega)
  have S := Lib.hid S
  have I := Lib.hid I
  obtain ⟨kk, hkk⟩ : ∃ kk : Nat, kk = 1 + 3 * ps.length := ⟨_, rfl⟩
  have M1 := fun g W hW hg => markCards_any ps.length g 1 ps.length W hW hg (by omega)
  rw [← hkk] at M1
  have M1 := Lib.hid M1
  obtain ⟨k2, hk2⟩ : ∃ k2 : Nat, k2 = kk + 3 * qs.length := ⟨_, rfl⟩
  have M2 := fun g W hW hg => markCards_any qs.length g kk qs.length W hW hg (by omega)
  rw [← hk2] at M2
  have M2 := Lib.hid M2
  have k0 : decide ((k2 : Int) < 0) = false := by simp
  generalize 1 + 5 * xs.length = mm at *
  have n0 : decide ((mm : Int) < 0) = false := by simp
  have n3 : ((mm : Int) != (mm : Int)) = false := by simp
  have n4 : (cd != cd) = false := by simp
  clear hkk hk2 xl nn
  have tok1 : True := trivial
  have tok2 : True := trivial
  have tok3 : True := trivial
  have tok4 : True := trivial
  have tok5 : True := trivial
  have tok6 : True := trivial
  have tok7 : True := trivial
  have tok8 : True := trivial
  have tok9 : True := trivial
  have tok10 : True := trivial
  have tok12 : True := trivial
  have tok13 : True := trivial
  have tok14 : True := trivial
  go_upto_region 12 with (first
    | (go_at_call 21; have _t := tok1; clear _t tok1; refine (T1.out _ (cardsIn_below H1.out B2.out)).mono ?_; rintro e w3 ⟨v, rfl, ⟨g3, rfl, _, _, hs, _⟩, hB⟩; have B3 := Lib.hid (ch_next B2.out (Nat.le_refl _) hB); have X3 := Lib.hid hs; clear hB hs)
    | (go_at_call 21; have _t := tok2; clear _t tok2; refine (T2.out _ (cardsIn_below H2.out B3.out)).mono ?_; rintro e w4 ⟨v, rfl, ⟨g4, rfl, _, _, hs, _⟩, hB⟩; have B4 := Lib.hid (ch_next B3.out (Nat.le_refl _) hB); have X4 := Lib.hid (cardsIn_below X3.out hB); have Y4 := Lib.hid hs; clear hB hs)
    | (go_at_call 34; refine (S.out _ _ _ _ _ X4.out Y4.out).mono ?_; rintro e w5 ⟨v5, rfl, hO, hB⟩; obtain ⟨a5, c5, rfl, hi⟩ := ownEdits_in hO; have S5 := Lib.hid (editsIn_of hi FT.out); have B5 := Lib.hid (ch_next B4.out (Nat.le_refl _) hB); clear hO hi hB)
    | (go_at_call 21; have _t := tok3; clear _t tok3; refine (T1.out _ (cardsIn_below H1.out B5.out)).mono ?_; rintro e w6 ⟨v, rfl, ⟨g6, rfl, hg6, hl6, hs6, hf6⟩, hB⟩; have C6 := Lib.hid (show Ab w5 w6 from hB); have G6 := Lib.hid hg6; have D6 := Lib.hid (show DkW ps g6 w6 from ⟨hs6, wr_cards hs6 hf6, hl6⟩); clear hB hs6 hf6 hg6 hl6)
    | (go_at_call 21; have _t := tok4; clear _t tok4; refine (T2.out _ (cardsIn_below H2.out (ch_next B5.out (Nat.le_refl _) C6.out))).mono ?_; rintro e w7 ⟨v, rfl, ⟨g7, rfl, hg7, hl7, hs7, hf7⟩, hB⟩; have C7 := Lib.hid (Ab.trans C6.out hB); have G7 := Lib.hid (Nat.lt_of_lt_of_le D6.out.2.2 hg7); have D7 := Lib.hid (D6.out.ab hB); have F7 := Lib.hid (show DkW qs g7 w7 from ⟨hs7, wr_cards hs7 hf7, hl7⟩); clear hB hs7 hf7 hg7 hl7)
    | (go_at_call 35; have _t := tok5; clear _t tok5; refine (I.out _ _ _ _ _ D7.out.1 F7.out.1).mono ?_; rintro e w8 ⟨v8, rfl, hO, hB⟩; obtain ⟨a8, c8, rfl, hi⟩ := ownEdits_in hO; have O8 := Lib.hid hO; have I8 := Lib.hid (editsIn_of hi FT.out); have C8 := Lib.hid (Ab.trans C7.out hB); have D8 := Lib.hid (D7.out.ab hB); have F8 := Lib.hid (F7.out.ab hB); clear hB hO hi))
  go_upto_region 21 with (first
    | (go_at_call 36; have _t := tok6; clear _t tok6; refine (EQ.out _ _ _ _ _ I8.out (editsIn_below S5.out C8.out)).mono ?_; rintro e w9 ⟨rfl, hB⟩; have C9 := Lib.hid (Ab.trans C8.out hB); have D9 := Lib.hid (D8.out.ab hB); have F9 := Lib.hid (F8.out.ab hB); have O9 := Lib.hid (ownEdits_kept O8.out hB); clear hB)
    | (go_at_call 21; have _t := tok7; clear _t tok7; refine (T1.out _ (cardsIn_below H1.out (ch_next B5.out (Nat.le_refl _) C9.out))).mono ?_; rintro e w10 ⟨v, rfl, ⟨g10, rfl, _, _, hs, _⟩, hB⟩; have C10 := Lib.hid (Ab.trans C9.out hB); have D10 := Lib.hid (D9.out.ab hB); have F10 := Lib.hid (F9.out.ab hB); have O10 := Lib.hid (ownEdits_kept O9.out hB); have Y10 := Lib.hid hs; clear hB hs)
    | (go_at_call 24; have _t := tok8; clear _t tok8; refine (E1.out _ _ _ _ _ D10.out.1 Y10.out).mono ?_; rintro e w11 ⟨rfl, hB⟩; have C11 := Lib.hid (Ab.trans C10.out hB); have D11 := Lib.hid (D10.out.ab hB); have F11 := Lib.hid (F10.out.ab hB); have O11 := Lib.hid (ownEdits_kept O10.out hB); clear hB)
    | (go_at_call 21; have _t := tok9; clear _t tok9; refine (T2.out _ (cardsIn_below H2.out (ch_next B5.out (Nat.le_refl _) C11.out))).mono ?_; rintro e w12 ⟨v, rfl, ⟨g12, rfl, _, _, hs, _⟩, hB⟩; have C12 := Lib.hid (Ab.trans C11.out hB); have D12 := Lib.hid (D11.out.ab hB); have F12 := Lib.hid (F11.out.ab hB); have O12 := Lib.hid (ownEdits_kept O11.out hB); have Y12 := Lib.hid hs; clear hB hs)
    | (go_at_call 24; refine (E2.out _ _ _ _ _ F12.out.1 Y12.out).mono ?_; rintro e w13 ⟨rfl, hB⟩; have C13 := Lib.hid (Ab.trans C12.out hB); have D13 := Lib.hid (D12.out.ab hB); have F13 := Lib.hid (F12.out.ab hB); have O13 := Lib.hid (ownEdits_kept O12.out hB); clear hB)
    | (go_at_call 25; have _t := tok10; clear _t tok10; refine (M1.out _ _ D13.out.2.1 D13.out.2.2).mono ?_; rintro e w14 ⟨rfl, hO⟩; have O14 := Lib.hid (ownEdits_oth O13.out hO D7.out.2.2); have C14 := Lib.hid (Below.trans C13.out (Below.mono (hO.below (Nat.le_of_lt D13.out.2.2)) G6.out)); have V14 := Lib.hid (wb_oth F13.out.2.1 hO F13.out.2.2 (Nat.ne_of_gt G7.out)); have L14 := Lib.hid (Nat.lt_of_lt_of_le F13.out.2.2 hO.size); clear hO)
    | (go_at_call 25; refine (M2.out _ _ V14.out L14.out).mono ?_; rintro e w15 ⟨rfl, hO⟩; have O15 := Lib.hid (ownEdits_oth O14.out hO F7.out.2.2); have C15 := Lib.hid (Below.trans C14.out (Below.mono (hO.below (Nat.le_of_lt L14.out)) (Nat.le_trans G6.out (Nat.le_of_lt G7.out)))); clear hO))
  go_wp2_with (first
    | (go_at_call 36; have _t := tok12; clear _t tok12; have hx := O15.out; obtain ⟨_, _, hv, hi⟩ := ownEdits_in hx; cases hv; refine (EQ.out _ _ _ _ _ (editsIn_of hi FT.out) (editsIn_below S5.out C15.out)).mono ?_; rintro e w16 ⟨rfl, hB⟩; have C16 := Lib.hid (Ab.trans C15.out hB); have O16 := Lib.hid (ownEdits_kept hx hB); clear hB hx hi)
    | (go_at_call 37; refine (MO.out _ _ _ O16.out).mono ?_; rintro e w17 ⟨rfl, ⟨ds, hds, hm, hO⟩, hB⟩; obtain ⟨am, cm, hv, hi⟩ := ownEdits_in hO; rw [hds] at hv; cases hv; have MI := Lib.hid hi; have MM := Lib.hid hm; have C17 := Lib.hid (Below.trans C16.out (hB.mono C7.out.size)); clear hO hB hi hm)
    | (go_at_call 38; have _t := tok13; clear _t tok13; refine (HD.out _ _ _ hds _ MI.out MM.out).mono ?_; rintro e w18 ⟨rfl, hB⟩; have C18 := Lib.hid (Ab.trans C17.out hB); have I18 := Lib.hid (cellsed_below MI.out hB); clear hB)
    | (go_at_call 21; have _t := tok14; clear _t tok14; refine (T1.out _ (cardsIn_below H1.out (ch_next B5.out (Nat.le_refl _) C18.out))).mono ?_; rintro e w19 ⟨v, rfl, ⟨g19, rfl, _, _, hs, _⟩, hB⟩; have C19 := Lib.hid (Ab.trans C18.out hB); have I19 := Lib.hid (cellsed_below I18.out hB); have X19 := Lib.hid hs; clear hB hs)
    | (go_at_call 21; refine (T2.out _ (cardsIn_below H2.out (ch_next B5.out (Nat.le_refl _) C19.out))).mono ?_; rintro e w20 ⟨v, rfl, ⟨g20, rfl, _, _, hs, _⟩, hB⟩; have C20 := Lib.hid (Ab.trans C19.out hB); have I20 := Lib.hid (cellsed_below I19.out hB); have X20 := Lib.hid (cardsIn_below X19.out hB); have Y20 := Lib.hid hs; clear hB hs)
    | (go_at_call 35; refine (I.out _ _ _ _ _ X20.out Y20.out).mono ?_; rintro e w21 ⟨v21, rfl, hO, hB⟩; obtain ⟨a21, c21, rfl, hi⟩ := ownEdits_in hO; have J21 := Lib.hid (editsIn_of hi FT.out); have C21 := Lib.hid (Ab.trans C20.out hB); have I21 := Lib.hid (cellsed_below I20.out hB); clear hB hO hi)
    | (go_at_call 36; refine (EQ.out _ _ _ _ _ J21.out (editsIn_below S5.out C21.out)).mono ?_; rintro e w22 ⟨rfl, hB⟩; have C22 := Lib.hid (Ab.trans C21.out hB); have I22 := Lib.hid (cellsed_below I21.out hB); clear hB)
    | (go_at_call 38; refine (HD.out _ _ _ hds _ I22.out MM.out).mono ?_; rintro e w23 ⟨rfl, hB⟩; have C23 := Lib.hid (Ab.trans C22.out hB); clear hB))
  all_goals go_returns
  all_goals exact ⟨rfl, ch_next B5.out (Nat.le_refl _) C23.out⟩
/-! ### The frame round the walk -/
section
set_option maxRecDepth 100000 in
theorem fnExactEditsBetween_lifted (os : Os) (started : os.Started) (H : Type) (enc : TypeId × Value → H) :
    ReturnsInHanded {} Try.checked os 6 .any (Rows.fnExactEditsBetweenSpec.pre6 enc Try.prog Try.f6 Rows.fnExactEditsBetweenRow.domain false) (Rows.fnExactEditsBetweenSpec.post enc Try.prog Try.f6 false true false false) := by
  refine returnsInHanded_of_change_sized (C := Try.checked) own started (by kernel_rfl) Try.func6
    (ChangeSpec.witness6 (enc := enc) (C := Try.checked) false ⟨#[], #[.slice none 0 0, .slice none 0 0], []⟩ 8 (by kernel_rfl) (by kernel_rfl) (by kernel_rfl) (by kernel_rfl)) ?_
  intro W base args ds gs before hval hW _ hsz _
  have hW' := hW
  obtain ⟨p, q, hA, hV, rfl, _, _⟩ := hW
  obtain ⟨rfl, rfl⟩ := trodVars_none hV
  have hlt : ∀ x ∈ p, x.block < W.heap.size := fun x hx => by simpa using hW'.lt x (by simpa using hx)
  rw [Try.params6] at hA hval hsz
  obtain ⟨v0, vs0, d0, ds0, p0, q0, hargs, rfl, rfl, h0, r0⟩ := trodAll_cons hA
  obtain ⟨v1, vs1, d1, ds1, p1, q1, rfl, rfl, rfl, h1, r1⟩ := trodAll_cons r0
  obtain ⟨rfl, rfl, rfl⟩ := trodAll_nil r1
  obtain rfl : args = #[v0, v1] := by cases args; simp_all
  obtain ⟨a0, cs0, c0, rfl, hz0, hl0⟩ := open_cards (u := 49) (e := 104) (by kernel_rfl) Try.underlying104 (by kernel_rfl) (by kernel_rfl) (by kernel_rfl) (by kernel_rfl) (by kernel_rfl) (by kernel_rfl) (by kernel_rfl) (by kernel_rfl) (by kernel_rfl) (hval 0 37 v0 rfl rfl) h0
  obtain ⟨a1, cs1, c1, rfl, hz1, hl1⟩ := open_cards (u := 49) (e := 104) (by kernel_rfl) Try.underlying104 (by kernel_rfl) (by kernel_rfl) (by kernel_rfl) (by kernel_rfl) (by kernel_rfl) (by kernel_rfl) (by kernel_rfl) (by kernel_rfl) (by kernel_rfl) (hval 1 37 v1 rfl rfl) h1
  refine (fnExactEditsBetween_walk a0 cs0 c0 a1 cs1 c1 W hz0 hl0 hz1 hl1).mono fun e W' ⟨he, hb⟩ => ?_
  subst he
  exact ⟨_, rfl, law_post laidOut rfl Try.underlying4 (of_all (by kernel_rfl)) rfl hW' rfl rfl rfl hb⟩

theorem fnExactEditsBetween_over : Rows.fnExactEditsBetweenRow.holds Try.pinned (OpenSpec.ofChange Rows.fnExactEditsBetweenSpec) :=
  OpenClaim.holds_of_wide 6 Try.f6 rfl rfl rfl rfl rfl rfl rfl ⟨rfl, rfl, rfl, rfl, rfl⟩ rfl rfl rfl rfl rfl (by kernel_rfl) Try.func6 (by kernel_rfl)
    (of_decide_eq_true (by kernel_rfl)) (by unfold Func.isWrapper; rw [if_neg (of_decide_eq_false (by kernel_rfl))]; exact ⟨rfl, rfl⟩)
    (fun os started H enc _ => fnExactEditsBetween_lifted os started H enc)

/-- The statement. -/
theorem fnExactEditsBetween_holds : Rows.FnExactEditsBetweenSaid := fnExactEditsBetween_over
end
end Go.Proofs.Ytanocllpmjhblaa
