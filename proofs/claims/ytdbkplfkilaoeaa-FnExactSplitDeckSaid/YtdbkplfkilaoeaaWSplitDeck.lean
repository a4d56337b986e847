/- SplitDeck answers, for every deck and every hole, as its model does; its answers are memory of their own. No conditions. -/
import Derived.Test.YtdbkplfkilaoeaaSpI
import Derived.Test.YtdbkplfkilaoeaaMark
import Derived.Test.YtdbkplfkilaoeaaHeldC
import Derived.Test.YtdbkplfkilaoeaaDeck3
import Derived.Deep.DeepCutAuto
namespace Go.Proofs.Ytdbkplfkilaoeaa
open Go.ChangeShapes Go.WideShapes Go.ChangeAt Go.RowKit

theorem cardsIn_up {B : Nat} {w w' : World} {a : Option Addr} {cs : List Cd} (h : CardsIn w a cs) (hB : w.heap.size ≤ B) (hb : Below B w w') : CardsIn w' a cs := cardsIn_below h (hb.mono hB)
theorem wr_cards {w : World} {g : Nat} {cs : List Cd} (h : CardsIn w (some ⟨g, 0, none⟩) cs) (hf : ∀ j, w.frozen? ⟨g, j, none⟩ = false) : Wb w g (cs.length * 3) := by
  refine ⟨fun j hj => ?_, fun j _ => hf j⟩
  obtain ⟨_, b, off, he, _, h0, h1, h2⟩ := h (j / 3) (by omega)
  cases he
  rcases (show j % 3 = 0 ∨ j % 3 = 1 ∨ j % 3 = 2 by omega) with e | e | e
  · exact ⟨.string (cdAt cs (j / 3)).s, by rw [show (⟨g, j, none⟩ : Addr) = ⟨g, 0 + j / 3 * 3, none⟩ from by congr 1; omega]; exact h0⟩
  · exact ⟨.int .u64 (cdAt cs (j / 3)).a, by rw [show (⟨g, j, none⟩ : Addr) = ⟨g, 0 + j / 3 * 3 + 1, none⟩ from by congr 1; omega]; exact h1⟩
  · exact ⟨.int .u64 (cdAt cs (j / 3)).b, by rw [show (⟨g, j, none⟩ : Addr) = ⟨g, 0 + j / 3 * 3 + 2, none⟩ from by congr 1; omega]; exact h2⟩

/-- One step behind a world whose own things stay. -/
theorem ch_next {B : Nat} {w a b : World} (h : Below B w a) (hB : B ≤ w.heap.size) (k : Below a.heap.size a b) : Below B w b := h.trans (Below.mono k (Nat.le_trans hB h.size))

theorem cdAt_mem {cs : List Cd} {i : Nat} (h : i < cs.length) : cdAt cs i ∈ cs := by
  unfold cdAt; rw [List.getD, List.getElem?_eq_getElem h]; exact List.getElem_mem h
theorem spS_mem {h c : Int} {cs : List Cd} {x : Cd} (hx : x ∈ spS h cs c) : x ∈ cs := by
  unfold spS at hx
  split at hx
  · exact List.mem_of_mem_take (List.mem_filter.1 hx).1
  · cases hx
theorem spD_mem {h c : Int} {cs : List Cd} {x : Cd} (hx : x ∈ spD h cs c) : x ∈ cs := by
  unfold spD at hx
  split at hx
  · exact List.mem_of_mem_take (List.mem_filter.1 hx).1
  · cases hx
theorem sp_len (h c : Int) (cs : List Cd) : (spS h cs c).length + (spD h cs c).length ≤ cs.length := by
  unfold spS spD
  by_cases e : c = 0
  · rw [if_pos e, if_pos e, len_both h cs cs.length (Nat.le_refl _)]; exact Nat.le_refl _
  · rw [if_neg e, if_neg e]; simp
theorem fits_in {w : World} {a : Option Addr} {cs xs : List Cd} (h : CardsIn w a cs) (hm : ∀ x ∈ xs, x ∈ cs) : ∀ i, i < xs.length → (cdAt xs i).fits := fun i hi => by
  obtain ⟨k, hk, e⟩ := List.mem_iff_getElem.1 (hm _ (cdAt_mem hi))
  have := (h k hk).1
  unfold cdAt at this
  rw [List.getD, List.getElem?_eq_getElem hk] at this
  rw [← e]
  exact this
theorem apart_ne {v u : Value} (h : Apart v u) : u.ownBlock = none ∨ u.ownBlock ≠ v.ownBlock := by
  cases e : u.ownBlock with
  | none => exact .inl rfl
  | some k => exact .inr fun hv => h k hv.symm e

set_option maxRecDepth 100000 in
set_option maxHeartbeats 6400000 in
theorem fnExactSplitDeck_walk (a1 : Option Addr) (cs : List Cd) (c1 : Nat) (h : Int) (_hh : I64 h) (w : World) (h1 : CardsIn w a1 cs) (l1 : cs.length ≤ maxLen) :
    Calls Try.prog 3 #[.slice a1 cs.length c1, .int .i64 h] w fun e w' => e = .returned (.bool true) ∧ Below w.heap.size w w' := by
  clear _hh
  unfold maxLen at l1
  have Z1 := Lib.hid fun W hs => szCardS_any a1 cs c1 1048576 W hs (by decide) (by decide) (by omega)
  have H1 := Lib.hid h1
  have fx := fun c : Int => fits_in h1 (fun x hx => spS_mem (h := h) (c := c) hx)
  have fy := fun c : Int => fits_in h1 (fun x hx => spD_mem (h := h) (c := c) hx)
  clear h1 l1
  go_enter Try.func3, Try.ntmps3
  go_upto_region 3 with (go_at_call 7; refine (Z1.out _ H1.out).mono ?_; rintro e w1 ⟨z, rfl, z0, z1, z2, hB⟩; have B1 := Lib.hid hB; clear hB)
  by_cases hz0 : z < 0
  · have d1 : decide (z < 0) = true := decide_eq_true hz0
    go_wp2
    go_returns
    exact ⟨rfl, B1.out⟩
  have d1 : decide (z < 0) = false := decide_eq_false hz0
  have n1 : cs.length ≤ 1048576 := z2 (by omega)
  clear z0 z1 z2 hz0
  have T1 := Lib.hid fun W hs => toCardS_any a1 cs c1 W hs n1
  have E1 := Lib.hid fun a b c d W ha hb => eqCardS_same a b cs c d W ha hb n1
  have S := fun x c1 W hx => sSplitDeck_any x cs c1 h W hx
  have I := fun x c1 W hx => iSplitDeck_any x cs c1 h W hx
  have al := sp_len h (psC (deckOk cs) h) cs
  have fx := fx (psC (deckOk cs) h)
  have fy := fy (psC (deckOk cs) h)
  generalize spS h cs (psC (deckOk cs) h) = xs at *
  generalize spD h cs (psC (deckOk cs) h) = ys at *
  generalize psC (deckOk cs) h = cd at *
  have E2 := Lib.hid fun a b c d W ha hb => eqCardS_same a b xs c d W ha hb (by omega)
  have E3 := Lib.hid fun a b c d W ha hb => eqCardS_same a b ys c d W ha hb (by omega)
  have S := Lib.hid S
  have I := Lib.hid I
  have FX := Lib.hid fx
  have FY := Lib.hid fy
  have hk : 1 + 3 * cs.length ≤ 4000000 := by omega
  have hk1 : 1 + 3 * xs.length ≤ 4000000 := by omega
  have hk2 : (1 + 3 * xs.length) + 3 * ys.length ≤ 4000000 := by omega
  have MK := fun g W hW hg => markCards_any cs.length g 1 cs.length W hW hg hk
  have MX := fun B v W hO => markRC_any B xs v 1 W hO hk1
  have MY := fun B v W hO => markRC_any B ys v (1 + 3 * xs.length) W hO hk2
  have HX := fun a (ds : List Cd) c W (hl : ds.length = xs.length) hC hM => (hl ▸ heldCards_any a ds c 1 W hC hM (by rw [hl]; exact hk1) : Calls Try.prog 13 #[.slice a xs.length c, .int .i64 ((1 : Nat) : Int)] W fun e w' => e = .returned (.int .i64 ((1 + 3 * xs.length : Nat) : Int)) ∧ Below W.heap.size W w')
  have HY := fun a (ds : List Cd) c W (hl : ds.length = ys.length) hC hM => (hl ▸ heldCards_any a ds c (1 + 3 * xs.length) W hC hM (by rw [hl]; exact hk2) : Calls Try.prog 13 #[.slice a ys.length c, .int .i64 ((1 + 3 * xs.length : Nat) : Int)] W fun e w' => e = .returned (.int .i64 ((1 + 3 * xs.length + 3 * ys.length : Nat) : Int)) ∧ Below W.heap.size W w')
  generalize 1 + 3 * xs.length + 3 * ys.length = ky at *
  generalize 1 + 3 * xs.length = kx at *
  generalize 1 + 3 * cs.length = kk at *
  have MK := Lib.hid MK
  have MX := Lib.hid MX
  have MY := Lib.hid MY
  have HX := Lib.hid HX
  have HY := Lib.hid HY
  have k0 : decide ((kk : Int) < 0) = false := by simp
  have k1 : decide ((kx : Int) < 0) = false := by simp
  have k2 : decide ((ky : Int) < 0) = false := by simp
  have n3 : ((ky : Int) != (ky : Int)) = false := by simp
  have n4 : (cd != cd) = false := by simp
  clear hk hk1 hk2 al fx fy n1
  have tk1 : True := trivial
  have tk2 : True := trivial
  have tk3 : True := trivial
  have tk4 : True := trivial
  have tk5 : True := trivial
  have tk6 : True := trivial
  have tk7 : True := trivial
  have tk8 : True := trivial
  have tk9 : True := trivial
  have tk10 : True := trivial
  have tk11 : True := trivial
  have tk12 : True := trivial
  have tk13 : True := trivial
  have tk14 : True := trivial
  have tk15 : True := trivial
  have tk16 : True := trivial
  have tk17 : True := trivial
  have tk18 : True := trivial
  have tk19 : True := trivial
  have tk20 : True := trivial
  have tk21 : True := trivial
  go_wp2_with (first
    | (go_at_call 9; have _t := tk1; clear _t tk1; refine (T1.out _ (cardsIn_below H1.out B1.out)).mono ?_; rintro e w3 ⟨v, rfl, ⟨g3, rfl, _, _, hs, _⟩, hB⟩; have B3 := Lib.hid (ch_next B1.out (Nat.le_refl _) hB); have X3 := Lib.hid hs; clear hB hs)
    | (go_at_call 8; have _t := tk2; clear _t tk2; refine (S.out _ _ _ X3.out).mono ?_; rintro e w5 ⟨v5, u5, rfl, hO, hU, _, hB⟩; obtain ⟨a5, c5, rfl, hi⟩ := ownCards_in hO; obtain ⟨b5, d5, rfl, hj⟩ := ownCards_in hU; have B5 := Lib.hid (ch_next B3.out (Nat.le_refl _) hB); have S5 := Lib.hid (cardsIn_of hi FX.out); have R5 := Lib.hid (cardsIn_of hj FY.out); clear hB hi hj hO hU X3 B3)
    | (go_at_call 9; have _t := tk3; clear _t tk3; refine (T1.out _ (cardsIn_below H1.out B5.out)).mono ?_; rintro e w6 ⟨v, rfl, ⟨g6, rfl, hg, hl, hs, hf⟩, hB⟩; have C6 := Lib.hid hB; have G6 := Lib.hid hg; have L6 := Lib.hid hl; have X6 := Lib.hid hs; have W6 := Lib.hid (wr_cards hs hf); clear hB hs hf hg hl)
    | (go_at_call 10; have _t := tk4; clear _t tk4; refine (I.out _ _ _ X6.out).mono ?_; rintro e w8 ⟨v8, u8, rfl, hO, hU, hA, hB⟩; obtain ⟨a8, c8, hv, hi⟩ := rc_in hO; obtain ⟨b8, d8, hu, hj⟩ := rc_in hU; subst hv; subst hu; have O8 := Lib.hid hO; have U8 := Lib.hid hU; have A8 := Lib.hid hA; have I8 := Lib.hid (cardsIn_of hi FX.out); have J8 := Lib.hid (cardsIn_of hj FY.out); have D8 := Lib.hid hB; have C8 := Lib.hid (ch_next C6.out (Nat.le_refl _) hB); have X8 := Lib.hid (cardsIn_below X6.out hB); clear hB hi hj hO hU hA)
    | (go_at_call 11; have _t := tk5; clear _t tk5; refine (E2.out _ _ _ _ _ I8.out (cardsIn_up S5.out (Nat.le_refl _) C8.out)).mono ?_; rintro e w9 ⟨rfl, hB⟩; have C9 := Lib.hid (ch_next C8.out (Nat.le_refl _) hB); have D9 := Lib.hid (ch_next D8.out (Nat.le_refl _) hB); have X9 := Lib.hid (cardsIn_below X8.out hB); have O9 := Lib.hid (rc_below O8.out hB); have U9 := Lib.hid (rc_below U8.out hB); have J9 := Lib.hid (cardsIn_below J8.out hB); clear hB)
    | (go_at_call 11; have _t := tk6; clear _t tk6; refine (E3.out _ _ _ _ _ J9.out (cardsIn_up R5.out (Nat.le_refl _) C9.out)).mono ?_; rintro e w10 ⟨rfl, hB⟩; have C10 := Lib.hid (ch_next C9.out (Nat.le_refl _) hB); have D10 := Lib.hid (ch_next D9.out (Nat.le_refl _) hB); have X10 := Lib.hid (cardsIn_below X9.out hB); have O10 := Lib.hid (rc_below O9.out hB); have U10 := Lib.hid (rc_below U9.out hB); clear hB)
    | (go_at_call 9; have _t := tk7; clear _t tk7; refine (T1.out _ (cardsIn_below H1.out (ch_next B5.out (Nat.le_refl _) C10.out))).mono ?_; rintro e w11 ⟨v, rfl, ⟨g11, rfl, _, _, hs, _⟩, hB⟩; have Z11 := Lib.hid hs; have C11 := Lib.hid (ch_next C10.out (Nat.le_refl _) hB); have D11 := Lib.hid (ch_next D10.out (Nat.le_refl _) hB); have X11 := Lib.hid (cardsIn_below X10.out hB); have O11 := Lib.hid (rc_below O10.out hB); have U11 := Lib.hid (rc_below U10.out hB); clear hB hs)
    | (go_at_call 11; have _t := tk8; clear _t tk8; refine (E1.out _ _ _ _ _ X11.out Z11.out).mono ?_; rintro e w12 ⟨rfl, hB⟩; have C12 := Lib.hid (ch_next C11.out (Nat.le_refl _) hB); have D12 := Lib.hid (ch_next D11.out (Nat.le_refl _) hB); have O12 := Lib.hid (rc_below O11.out hB); have U12 := Lib.hid (rc_below U11.out hB); clear hB)
    | (go_at_call 12; have _t := tk9; clear _t tk9; refine (MK.out _ _ (W6.out.below D12.out L6.out) (Nat.lt_of_lt_of_le L6.out D12.out.size)).mono ?_; rintro e w13 ⟨rfl, hO⟩; have O13 := Lib.hid (rc_oth O12.out hO L6.out); have U13 := Lib.hid (rc_oth U12.out hO L6.out); have C13 := Lib.hid (C12.out.trans (Below.mono (hO.below (Nat.le_of_lt (Nat.lt_of_lt_of_le L6.out D12.out.size))) G6.out)); clear hO)
    | (go_at_call 11; have _t := tk10; clear _t tk10; have hx := O13.out; obtain ⟨_, _, hv, hi⟩ := rc_in hx; cases hv; refine (E2.out _ _ _ _ _ (cardsIn_of hi FX.out) (cardsIn_up S5.out (Nat.le_refl _) C13.out)).mono ?_; rintro e w14 ⟨rfl, hB⟩; have C14 := Lib.hid (ch_next C13.out (Nat.le_refl _) hB); have O14 := Lib.hid (rc_below O13.out hB); have U14 := Lib.hid (rc_below U13.out hB); clear hB hx hi)
    | (go_at_call 11; have _t := tk11; clear _t tk11; have hx := U14.out; obtain ⟨_, _, hv, hi⟩ := rc_in hx; cases hv; refine (E3.out _ _ _ _ _ (cardsIn_of hi FY.out) (cardsIn_up R5.out (Nat.le_refl _) C14.out)).mono ?_; rintro e w15 ⟨rfl, hB⟩; have C15 := Lib.hid (ch_next C14.out (Nat.le_refl _) hB); have O15 := Lib.hid (rc_below O14.out hB); have U15 := Lib.hid (rc_below U14.out hB); clear hB hx hi)
    | (go_at_call 12; have _t := tk12; clear _t tk12; refine (MX.out _ _ _ O15.out).mono ?_; rintro e w16 ⟨rfl, ⟨ds, hdl, hdm, hR⟩, hG⟩; have M16 := Lib.hid hR; have DL := Lib.hid hdl; have DM := Lib.hid hdm; have U16 := Lib.hid (rc_kept U15.out hG (apart_ne A8.out)); have C16 := Lib.hid (Below.grown C15.out hG C15.out.size (fun j hj => Nat.le_trans C6.out.size (rc_lt O15.out j hj))); clear hR hG hdl hdm)
    | (go_at_call 12; have _t := tk13; clear _t tk13; refine (MY.out _ _ _ U16.out).mono ?_; rintro e w17 ⟨rfl, ⟨es, hdl, hdm, hR⟩, hG⟩; have N17 := Lib.hid hR; have EL := Lib.hid hdl; have EM := Lib.hid hdm; have M17 := Lib.hid (rc_kept M16.out hG (apart_ne A8.out.symm)); have C17 := Lib.hid (Below.grown C16.out hG C16.out.size (fun j hj => Nat.le_trans C6.out.size (rc_lt U16.out j hj))); clear hR hG hdl hdm)
    | (go_at_call 13; have _t := tk14; clear _t tk14; have hx := M17.out; obtain ⟨_, _, hv, hi⟩ := rc_in hx; rw [DL.out] at hv; cases hv; refine (HX.out _ _ _ _ DL.out hi DM.out).mono ?_; rintro e w18 ⟨rfl, hB⟩; have M18 := Lib.hid (rc_below M17.out hB); have N18 := Lib.hid (rc_below N17.out hB); have C18 := Lib.hid (ch_next C17.out (Nat.le_refl _) hB); clear hB hx hi)
    | (go_at_call 13; have _t := tk15; clear _t tk15; have hx := N18.out; obtain ⟨_, _, hv, hi⟩ := rc_in hx; rw [EL.out] at hv; cases hv; refine (HY.out _ _ _ _ EL.out hi EM.out).mono ?_; rintro e w19 ⟨rfl, hB⟩; have M19 := Lib.hid (rc_below M18.out hB); have N19 := Lib.hid (rc_below N18.out hB); have C19 := Lib.hid (ch_next C18.out (Nat.le_refl _) hB); clear hB hx hi)
    | (go_at_call 9; have _t := tk16; clear _t tk16; refine (T1.out _ (cardsIn_below H1.out (ch_next B5.out (Nat.le_refl _) C19.out))).mono ?_; rintro e w20 ⟨v, rfl, ⟨g20, rfl, _, _, hs, _⟩, hB⟩; have X20 := Lib.hid hs; have M20 := Lib.hid (rc_below M19.out hB); have N20 := Lib.hid (rc_below N19.out hB); have C20 := Lib.hid (ch_next C19.out (Nat.le_refl _) hB); clear hB hs)
    | (go_at_call 10; have _t := tk17; clear _t tk17; refine (I.out _ _ _ X20.out).mono ?_; rintro e w21 ⟨v21, u21, rfl, hO, hU, _, hB⟩; obtain ⟨a21, c21, rfl, hi⟩ := rc_in hO; obtain ⟨b21, d21, rfl, hj⟩ := rc_in hU; have I21 := Lib.hid (cardsIn_of hi FX.out); have J21 := Lib.hid (cardsIn_of hj FY.out); have M21 := Lib.hid (rc_below M20.out hB); have N21 := Lib.hid (rc_below N20.out hB); have C21 := Lib.hid (ch_next C20.out (Nat.le_refl _) hB); clear hB hi hj hO hU)
    | (go_at_call 11; have _t := tk18; clear _t tk18; refine (E2.out _ _ _ _ _ I21.out (cardsIn_up S5.out (Nat.le_refl _) C21.out)).mono ?_; rintro e w22 ⟨rfl, hB⟩; have M22 := Lib.hid (rc_below M21.out hB); have N22 := Lib.hid (rc_below N21.out hB); have J22 := Lib.hid (cardsIn_below J21.out hB); have C22 := Lib.hid (ch_next C21.out (Nat.le_refl _) hB); clear hB)
    | (go_at_call 11; have _t := tk19; clear _t tk19; refine (E3.out _ _ _ _ _ J22.out (cardsIn_up R5.out (Nat.le_refl _) C22.out)).mono ?_; rintro e w23 ⟨rfl, hB⟩; have M23 := Lib.hid (rc_below M22.out hB); have N23 := Lib.hid (rc_below N22.out hB); have C23 := Lib.hid (ch_next C22.out (Nat.le_refl _) hB); clear hB)
    | (go_at_call 13; have _t := tk20; clear _t tk20; have hx := M23.out; obtain ⟨_, _, hv, hi⟩ := rc_in hx; rw [DL.out] at hv; cases hv; refine (HX.out _ _ _ _ DL.out hi DM.out).mono ?_; rintro e w24 ⟨rfl, hB⟩; have N24 := Lib.hid (rc_below N23.out hB); have C24 := Lib.hid (ch_next C23.out (Nat.le_refl _) hB); clear hB hx hi)
    | (go_at_call 13; have _t := tk21; clear _t tk21; have hx := N24.out; obtain ⟨_, _, hv, hi⟩ := rc_in hx; rw [EL.out] at hv; cases hv; refine (HY.out _ _ _ _ EL.out hi EM.out).mono ?_; rintro e w25 ⟨rfl, hB⟩; have C25 := Lib.hid (ch_next C24.out (Nat.le_refl _) hB); clear hB hx hi))
  all_goals go_returns
  all_goals exact ⟨rfl, ch_next B5.out (Nat.le_refl _) C25.out⟩
/-! ### The frame round the walk -/
section
set_option maxRecDepth 100000 in
theorem fnExactSplitDeck_lifted (os : Os) (started : os.Started) (H : Type) (enc : TypeId × Value → H) :
    ReturnsInHanded {} Try.checked os 3 .any (Rows.fnExactSplitDeckSpec.pre6 enc Try.prog Try.f3 Rows.fnExactSplitDeckRow.domain false) (Rows.fnExactSplitDeckSpec.post enc Try.prog Try.f3 false true false false) := by
  refine returnsInHanded_of_change_sized (C := Try.checked) own started (by kernel_rfl) Try.func3
    (ChangeSpec.witness6 (enc := enc) (C := Try.checked) false ⟨#[], #[.slice none 0 0, .int .i64 0], []⟩ 8 (by kernel_rfl) (by kernel_rfl) (by kernel_rfl) (by kernel_rfl)) ?_
  intro W base args ds gs before hval hW _ hsz _
  have hW' := hW
  obtain ⟨p, q, hA, hV, rfl, _, _⟩ := hW
  obtain ⟨rfl, rfl⟩ := trodVars_none hV
  have hlt : ∀ x ∈ p, x.block < W.heap.size := fun x hx => by simpa using hW'.lt x (by simpa using hx)
  rw [Try.params3] at hA hval hsz
  obtain ⟨v0, vs0, d0, ds0, p0, q0, hargs, rfl, rfl, h0, r0⟩ := trodAll_cons hA
  obtain ⟨v1, vs1, d1, ds1, p1, q1, rfl, rfl, rfl, h1, r1⟩ := trodAll_cons r0
  obtain ⟨rfl, rfl, rfl⟩ := trodAll_nil r1
  obtain rfl : args = #[v0, v1] := by cases args; simp_all
  obtain ⟨a0, cs0, c0, rfl, hz0, hl0⟩ := open_cards (u := 41) (e := 44) (by kernel_rfl) Try.underlying44 (by kernel_rfl) (by kernel_rfl) (by kernel_rfl) (by kernel_rfl) (by kernel_rfl) (by kernel_rfl) (by kernel_rfl) (by kernel_rfl) (by kernel_rfl) (hval 0 22 v0 rfl rfl) h0
  obtain ⟨n1, rfl, hn1⟩ := open_i64 (by kernel_rfl) (hval 1 2 v1 rfl rfl)
  refine (fnExactSplitDeck_walk a0 cs0 c0 n1 hn1 W hz0 hl0).mono fun e W' ⟨he, hb⟩ => ?_
  subst he
  exact ⟨_, rfl, law_post laidOut rfl Try.underlying4 (of_all (by kernel_rfl)) rfl hW' rfl rfl rfl hb⟩

theorem fnExactSplitDeck_over : Rows.fnExactSplitDeckRow.holds Try.pinned (OpenSpec.ofChange Rows.fnExactSplitDeckSpec) :=
  OpenClaim.holds_of_wide 3 Try.f3 rfl rfl rfl rfl rfl rfl rfl ⟨rfl, rfl, rfl, rfl, rfl⟩ rfl rfl rfl rfl rfl (by kernel_rfl) Try.func3 (by kernel_rfl)
    (of_decide_eq_true (by kernel_rfl)) (by unfold Func.isWrapper; rw [if_neg (of_decide_eq_false (by kernel_rfl))]; exact ⟨rfl, rfl⟩)
    (fun os started H enc _ => fnExactSplitDeck_lifted os started H enc)

/-- The statement. -/
theorem fnExactSplitDeck_holds : Rows.FnExactSplitDeckSaid := fnExactSplitDeck_over
end
end Go.Proofs.Ytdbkplfkilaoeaa
