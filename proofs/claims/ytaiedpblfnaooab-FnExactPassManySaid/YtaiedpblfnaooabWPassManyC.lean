/- PassMany answers, for every deck and all holes, as its model does; its answer is memory of its own. No conditions. -/
import Derived.Conc.Holds
import Derived.Leaving
import Derived.Test.YtaiedpblfnaooabPaY
import Derived.Test.YtaiedpblfnaooabMark
import Derived.Test.YtaiedpblfnaooabDeck3
import Derived.Deep.DeepCutAuto
namespace Go.Proofs.Ytaiedpblfnaooab
open Go.ChangeShapes Go.WideShapes Go.ChangeAt Go.RowKit

theorem cardsIn_up {B : Nat} {w w' : World} {a : Option Addr} {cs : List Cd} (h : CardsIn w a cs) (hB : w.heap.size ≤ B) (hb : Below B w w') : CardsIn w' a cs := cardsIn_below h (hb.mono hB)
theorem wr_cards {w : World} {g : Nat} {cs : List Cd} (h : CardsIn w (some ⟨g, 0, none⟩) cs) (hf : ∀ j, w.frozen? ⟨g, j, none⟩ = false) : Wb w g (cs.length * 3) := by
  refine ⟨fun j hj => ?_, fun j _ => hf j⟩
  obtain ⟨_, b, off, he, _, h0, h1, h2⟩ := h (j / 3) (by omega)
  cases he
  rcases (show j % 3 = 0 ∨ j % 3 = 1 ∨ j % 3 = 2 by omega) with e | e | e
  · exact ⟨.string (cdAt cs (j / 3)).s, by rw [show (⟨g, j, none⟩ : Addr) = ⟨g, 0 + j / 3 * 3, none⟩ from by congr 1; omega]; exact h0⟩
  · exact ⟨.int .u64 (cdAt cs (j / 3)).a, by rw [show (⟨g, j, none⟩ : Addr) = ⟨g, 0 + j / 3 * 3 + 1, none⟩ from by congr 1; omega]; exact h1⟩
  · exact ⟨.int .u64 (cdAt cs (j / 3)).b, by rw [show (⟨g, j, none⟩ : Addr) = ⟨g, 0 + j / 3 * 3 + 2, none⟩ from by congr 1; omega]; exact h2⟩

/-- One step behind a world whose own things stay. -/
theorem ch_next {B : Nat} {w a b : World} (h : Below B w a) (hB : B ≤ w.heap.size) (k : Below a.heap.size a b) : Below B w b := h.trans (Below.mono k (Nat.le_trans hB h.size))


theorem open_intS {H : Type} {enc : TypeId × Value → H} {P : Program} {W : World} {t e : TypeId} {v : Value} {d : DataW H} {p : List MemPlace} {r : Reach} {b : Nat} (ht : P.underlying t = some (.slice e)) (he : P.underlying e = some (.int .i64)) (hc : P.cellsOf e = 1)
    (hv : Value.okWide P W r b t v) (h : DataW.Trod enc P W 0 (fun _ => true) true t v d p) : ∃ a zs cap, v = .slice a zs.length cap ∧ IntsIn W a zs := by
  obtain ⟨a0, len, cap, rfl⟩ := okWide_slice ht hv
  obtain ⟨fuel, hf⟩ := h
  rcases open_ints ht he hc hf with ⟨hcs, hx⟩ | ⟨a, len', cap', zs, hcs, _, hl, hm, hz, hx, hcell, hwz⟩
  · simp [Value.cells] at hcs
    obtain ⟨rfl, rfl, rfl⟩ := hcs
    exact ⟨none, [], 0, rfl, fun i hi => by simp at hi⟩
  · simp [Value.cells] at hcs
    obtain ⟨rfl, rfl, rfl⟩ := hcs
    simp at hz
    refine ⟨some a, zs.take len, cap, ?_, ?_⟩
    · rw [List.length_take, Nat.min_eq_left (by omega)]
    · intro i hi
      rw [List.length_take] at hi
      obtain ⟨b, off, rfl, hcc⟩ := ints_at hcell (by omega)
      have h2 := hcc i (by omega)
      refine ⟨b, off, rfl, World.block_lt_of_cell? _ _ h2, ?_⟩
      rw [h2]
      simp [List.getD, List.getElem?_take, show i < len by omega]

set_option maxRecDepth 100000 in
set_option maxHeartbeats 6400000 in
theorem fnExactPassMany_walk (a1 : Option Addr) (cs : List Cd) (c1 : Nat) (a2 : Option Addr) (zs : List Int) (c2 : Nat) (w : World) (h1 : CardsIn w a1 cs) (l1 : cs.length ≤ maxLen) (h2 : IntsIn w a2 zs) :
    Calls Try.prog 4 #[.slice a1 cs.length c1, .slice a2 zs.length c2] w fun e w' => e = .returned (.bool true) ∧ Below w.heap.size w w' := by
  unfold maxLen at l1
  by_cases hL : 1048576 < zs.length
  · have d0 : decide ((1048576 : Int) < (zs.length : Int)) = true := by simp; omega
    clear h1 h2 l1
    go_enter Try.func4, Try.ntmps4
    go_wp2
    go_returns
    exact ⟨rfl, Below.refl _ _⟩
  have d0 : decide ((1048576 : Int) < (zs.length : Int)) = false := by simp; omega
  have nz : zs.length ≤ 1048576 := by omega
  have H0 := Lib.hid h1
  have J0 := Lib.hid h2
  have Z1 := Lib.hid fun W hs => szCardS_any a1 cs c1 1048576 W hs (by decide) (by decide) (by omega)
  have FT := Lib.hid (pmL_fits zs h1)
  clear h1 h2 l1 hL
  go_enter Try.func4, Try.ntmps4
  go_upto_region 5 with (go_at_call 19; refine (Z1.out _ H0.out).mono ?_; rintro e w1 ⟨z, rfl, z0, z1, z2, hB⟩; have B1 := Lib.hid (show Below w.heap.size w w1 from hB); clear hB)
  by_cases hz0 : z < 0
  · have d1 : decide (z < 0) = true := decide_eq_true hz0
    go_wp2
    go_returns
    exact ⟨rfl, B1.out⟩
  have d1 : decide (z < 0) = false := decide_eq_false hz0
  have n1 : cs.length ≤ 1048576 := z2 (by omega)
  clear z0 z1 z2 hz0
  have T1 := Lib.hid fun W hs => toCardS_any a1 cs c1 W hs (by omega)
  have T2 := Lib.hid fun W hs => toInts_any a2 zs c2 W hs (by omega)
  have E1 := Lib.hid fun a b c d W ha hb => eqCardS_same a b cs c d W ha hb (by omega)
  have EI := Lib.hid fun a b c d W ha hb => eqInts_same a b zs c d W ha hb (by omega)
  have S := fun g c d a W hc hh => sPassMany_any g cs zs c d a W hc hh nz
  have I := fun g c d a W hg hc hh hl => iPassMany_any g cs zs c d a W hg hc hh hl nz
  have al := pmL_len cs zs
  have FT := FT.out
  generalize pmL cs zs = xs at *
  generalize pmC cs zs = cd at *
  have E3 := Lib.hid fun a b c d W ha hb => eqCardS_same a b xs c d W ha hb (by omega)
  have S := Lib.hid S
  have I := Lib.hid I
  have FX := Lib.hid FT
  have hk1 : 1 + 3 * cs.length ≤ 4000000 := by omega
  have hk2 : (1 + 3 * cs.length) + zs.length ≤ 5000000 := by omega
  have hk3 : 1 + 3 * xs.length ≤ 4000000 := by omega
  have MA := fun g W hW hg => markCards_any cs.length g 1 cs.length W hW hg hk1
  have MI := fun g W hW hg => markIntsO_any zs.length g (1 + 3 * cs.length) zs.length W hW hg hk2
  have MO := fun B v W hO => markCardsOwn_any B xs v 1 W hO hk3
  have HC := fun a (es : List Cd) c W (hl : es.length = xs.length) hC hM => (hl ▸ heldCards_any a es c 1 W hC hM (by rw [hl]; exact hk3) : Calls Try.prog 28 #[.slice a xs.length c, .int .i64 ((1 : Nat) : Int)] W fun e w' => e = .returned (.int .i64 ((1 + 3 * xs.length : Nat) : Int)) ∧ Below W.heap.size W w')
  generalize 1 + 3 * cs.length + zs.length = kb at *
  generalize 1 + 3 * cs.length = ka at *
  generalize 1 + 3 * xs.length = kx at *
  have MA := Lib.hid MA
  have MI := Lib.hid MI
  have MO := Lib.hid MO
  have HC := Lib.hid HC
  have q0 : decide ((ka : Int) < 0) = false := by simp
  have q1 : decide ((kb : Int) < 0) = false := by simp
  have q2 : decide ((kx : Int) < 0) = false := by simp
  have q3 : ((kx : Int) != (kx : Int)) = false := by simp
  have q4 : (cd != cd) = false := by simp
  clear hk1 hk2 hk3 al FT n1 nz
  have tk1 : True := trivial
  have tk2 : True := trivial
  have tk3 : True := trivial
  have tk4 : True := trivial
  have tk5 : True := trivial
  have tk6 : True := trivial
  have tk7 : True := trivial
  have tk8 : True := trivial
  have tk9 : True := trivial
  have tk10 : True := trivial
  have tk11 : True := trivial
  have tk12 : True := trivial
  have tk13 : True := trivial
  have tk14 : True := trivial
  have tk15 : True := trivial
  have tk16 : True := trivial
  have tk17 : True := trivial
  have tk18 : True := trivial
  have tk19 : True := trivial
  have tk20 : True := trivial
  have tk21 : True := trivial
  go_wp2_with (first
    | (go_at_call 21; have _t := tk1; clear _t tk1; refine (T1.out _ (cardsIn_below H0.out B1.out)).mono ?_; rintro e w3 ⟨v, rfl, ⟨g3, rfl, _, _, hs, _⟩, hB⟩; have B3 := Lib.hid (ch_next B1.out (Nat.le_refl _) hB); have X3 := Lib.hid hs; clear hB hs)
    | (go_at_call 22; have _t := tk2; clear _t tk2; refine (T2.out _ (intsIn_below J0.out B3.out)).mono ?_; rintro e w4 ⟨v, rfl, hN, hB⟩; obtain ⟨y4, rfl, hy⟩ := newInts_in hN; have B4 := Lib.hid (ch_next B3.out (Nat.le_refl _) hB); have X4 := Lib.hid (cardsIn_below X3.out hB); have Y4 := Lib.hid hy; clear hB hN hy)
    | (go_at_call 20; have _t := tk3; clear _t tk3; refine (S.out _ _ _ _ _ X4.out Y4.out).mono ?_; rintro e w5 ⟨v5, rfl, hO, hB⟩; obtain ⟨a5, c5, rfl, hi⟩ := ownCards_in hO; have B5 := Lib.hid (ch_next B4.out (Nat.le_refl _) hB); have S5 := Lib.hid (cardsIn_of hi FX.out); clear hB hi hO)
    | (go_at_call 21; have _t := tk4; clear _t tk4; refine (T1.out _ (cardsIn_below H0.out B5.out)).mono ?_; rintro e w6 ⟨v, rfl, ⟨g6, rfl, hg, hl, hs, hf⟩, hB⟩; have C6 := Lib.hid (show Below w5.heap.size w5 w6 from hB); have G6 := Lib.hid hg; have L6 := Lib.hid hl; have X6 := Lib.hid hs; have W6 := Lib.hid (wr_cards hs hf); clear hB hs hf hg hl)
    | (go_at_call 22; have _t := tk5; clear _t tk5; refine (T2.out _ (intsIn_below J0.out (ch_next B5.out (Nat.le_refl _) C6.out))).mono ?_; rintro e w7 ⟨v, rfl, hN, hB⟩; obtain ⟨g7, rfl, hg, hl, hc⟩ := hN; have C7 := Lib.hid (ch_next C6.out (Nat.le_refl _) hB); have X7 := Lib.hid (cardsIn_below X6.out hB); have W7 := Lib.hid (W6.out.below hB L6.out); have N7 := Lib.hid (Nat.lt_of_lt_of_le L6.out hB.size); have G7 := Lib.hid hg; have L7 := Lib.hid hl; have Y7 := Lib.hid (show IntsIn w7 (some ⟨g7, 0, none⟩) zs from fun i hi => ⟨g7, 0, rfl, hl, by rw [Nat.zero_add]; exact (hc i hi).1⟩); have V7 := Lib.hid (show Wb w7 g7 zs.length from ⟨fun j hj => ⟨_, (hc j hj).1⟩, fun j hj => (hc j hj).2⟩); clear hB hg hl hc)
    | (go_at_call 23; have _t := tk6; clear _t tk6; refine (I.out _ _ _ _ _ N7.out X7.out Y7.out (fun k o e => by cases e; exact L7.out)).mono ?_; rintro e w8 ⟨v8, rfl, hO, hB⟩; obtain ⟨a8, c8, rfl, hi⟩ := ownCards_in hO; have O8 := Lib.hid hO; have I8 := Lib.hid (cardsIn_of hi FX.out); have D8 := Lib.hid hB; have C8 := Lib.hid (ch_next C7.out (Nat.le_refl _) hB); have X8 := Lib.hid (cardsIn_below X7.out hB); have Y8 := Lib.hid (intsIn_below Y7.out hB); clear hB hO hi)
    | (go_at_call 24; have _t := tk7; clear _t tk7; refine (E3.out _ _ _ _ _ I8.out (cardsIn_up S5.out (Nat.le_refl _) C8.out)).mono ?_; rintro e w9 ⟨rfl, hB⟩; have C9 := Lib.hid (ch_next C8.out (Nat.le_refl _) hB); have D9 := Lib.hid (ch_next D8.out (Nat.le_refl _) hB); have X9 := Lib.hid (cardsIn_below X8.out hB); have Y9 := Lib.hid (intsIn_below Y8.out hB); have O9 := Lib.hid (ownCards_kept O8.out hB); clear hB)
    | (go_at_call 21; have _t := tk8; clear _t tk8; refine (T1.out _ (cardsIn_below H0.out (ch_next B5.out (Nat.le_refl _) C9.out))).mono ?_; rintro e w10 ⟨v, rfl, ⟨g10, rfl, _, _, hs, _⟩, hB⟩; have Z10 := Lib.hid hs; have C10 := Lib.hid (ch_next C9.out (Nat.le_refl _) hB); have D10 := Lib.hid (ch_next D9.out (Nat.le_refl _) hB); have X10 := Lib.hid (cardsIn_below X9.out hB); have Y10 := Lib.hid (intsIn_below Y9.out hB); have O10 := Lib.hid (ownCards_kept O9.out hB); clear hB hs)
    | (go_at_call 24; have _t := tk9; clear _t tk9; refine (E1.out _ _ _ _ _ X10.out Z10.out).mono ?_; rintro e w11 ⟨rfl, hB⟩; have C11 := Lib.hid (ch_next C10.out (Nat.le_refl _) hB); have D11 := Lib.hid (ch_next D10.out (Nat.le_refl _) hB); have Y11 := Lib.hid (intsIn_below Y10.out hB); have O11 := Lib.hid (ownCards_kept O10.out hB); clear hB)
    | (go_at_call 22; have _t := tk10; clear _t tk10; refine (T2.out _ (intsIn_below J0.out (ch_next B5.out (Nat.le_refl _) C11.out))).mono ?_; rintro e w12 ⟨v, rfl, hN, hB⟩; obtain ⟨y12, rfl, hy⟩ := newInts_in hN; have U12 := Lib.hid hy; have C12 := Lib.hid (ch_next C11.out (Nat.le_refl _) hB); have D12 := Lib.hid (ch_next D11.out (Nat.le_refl _) hB); have Y12 := Lib.hid (intsIn_below Y11.out hB); have O12 := Lib.hid (ownCards_kept O11.out hB); clear hB hN hy)
    | (go_at_call 25; have _t := tk11; clear _t tk11; refine (EI.out _ _ _ _ _ Y12.out U12.out).mono ?_; rintro e w13 ⟨rfl, hB⟩; have C13 := Lib.hid (ch_next C12.out (Nat.le_refl _) hB); have D13 := Lib.hid (ch_next D12.out (Nat.le_refl _) hB); have O13 := Lib.hid (ownCards_kept O12.out hB); clear hB)
    | (go_at_call 26; have _t := tk12; clear _t tk12; refine (MA.out _ _ (W7.out.below D13.out N7.out) (Nat.lt_of_lt_of_le N7.out D13.out.size)).mono ?_; rintro e w14 ⟨rfl, hO⟩; have O14 := Lib.hid (ownCards_oth O13.out hO N7.out); have V14 := Lib.hid (wb_oth (V7.out.below D13.out L7.out) hO (Nat.ne_of_gt (Nat.lt_of_lt_of_le L6.out G7.out)) (Nat.lt_of_lt_of_le L7.out D13.out.size)); have Q14 := Lib.hid (Nat.lt_of_lt_of_le L7.out (Nat.le_trans D13.out.size hO.size)); have C14 := Lib.hid (C13.out.trans (Below.mono (hO.below (Nat.le_of_lt (Nat.lt_of_lt_of_le N7.out D13.out.size))) G6.out)); clear hO)
    | (go_at_call 27; have _t := tk13; clear _t tk13; refine (MI.out _ _ V14.out Q14.out).mono ?_; rintro e w15 ⟨rfl, hO⟩; have O15 := Lib.hid (ownCards_oth O14.out hO L7.out); have C15 := Lib.hid (C14.out.trans (Below.mono (hO.below (Nat.le_of_lt Q14.out)) (Nat.le_trans C6.out.size G7.out))); clear hO)
    | (go_at_call 24; have _t := tk14; clear _t tk14; have hx := O15.out; obtain ⟨_, _, hv, hi⟩ := ownCards_in hx; cases hv; refine (E3.out _ _ _ _ _ (cardsIn_of hi FX.out) (cardsIn_up S5.out (Nat.le_refl _) C15.out)).mono ?_; rintro e w16 ⟨rfl, hB⟩; have C16 := Lib.hid (ch_next C15.out (Nat.le_refl _) hB); have O16 := Lib.hid (ownCards_kept O15.out hB); clear hB hx hi)
    | (go_at_call 26; have _t := tk15; clear _t tk15; refine (MO.out _ _ _ O16.out).mono ?_; rintro e w17 ⟨rfl, ⟨es, hdl, hdm, hO⟩, hB⟩; obtain ⟨am, cm, hv, hi⟩ := ownCards_in hO; rw [hdl] at hv; cases hv; have M17 := Lib.hid hi; have DL := Lib.hid hdl; have DM := Lib.hid hdm; have C17 := Lib.hid (C16.out.trans (hB.mono C7.out.size)); clear hO hB hi hdl hdm)
    | (go_at_call 28; have _t := tk16; clear _t tk16; refine (HC.out _ _ _ _ DL.out M17.out DM.out).mono ?_; rintro e w18 ⟨rfl, hB⟩; have M18 := Lib.hid (cellsC_below M17.out hB); have C18 := Lib.hid (ch_next C17.out (Nat.le_refl _) hB); clear hB)
    | (go_at_call 21; have _t := tk17; clear _t tk17; refine (T1.out _ (cardsIn_below H0.out (ch_next B5.out (Nat.le_refl _) C18.out))).mono ?_; rintro e w19 ⟨v, rfl, ⟨g19, rfl, _, hl, hs, _⟩, hB⟩; have X19 := Lib.hid hs; have L19 := Lib.hid hl; have M19 := Lib.hid (cellsC_below M18.out hB); have C19 := Lib.hid (ch_next C18.out (Nat.le_refl _) hB); clear hB hs hl)
    | (go_at_call 22; have _t := tk18; clear _t tk18; refine (T2.out _ (intsIn_below J0.out (ch_next B5.out (Nat.le_refl _) C19.out))).mono ?_; rintro e w20 ⟨v, rfl, hN, hB⟩; obtain ⟨g20, rfl, _, hl, hc⟩ := hN; have X20 := Lib.hid (cardsIn_below X19.out hB); have N20 := Lib.hid (Nat.lt_of_lt_of_le L19.out hB.size); have L20 := Lib.hid hl; have Y20 := Lib.hid (show IntsIn w20 (some ⟨g20, 0, none⟩) zs from fun i hi => ⟨g20, 0, rfl, hl, by rw [Nat.zero_add]; exact (hc i hi).1⟩); have M20 := Lib.hid (cellsC_below M19.out hB); have C20 := Lib.hid (ch_next C19.out (Nat.le_refl _) hB); clear hB hl hc)
    | (go_at_call 23; have _t := tk19; clear _t tk19; refine (I.out _ _ _ _ _ N20.out X20.out Y20.out (fun k o e => by cases e; exact L20.out)).mono ?_; rintro e w21 ⟨v21, rfl, hO, hB⟩; obtain ⟨a21, c21, rfl, hi⟩ := ownCards_in hO; have I21 := Lib.hid (cardsIn_of hi FX.out); have M21 := Lib.hid (cellsC_below M20.out hB); have C21 := Lib.hid (ch_next C20.out (Nat.le_refl _) hB); clear hB hO hi)
    | (go_at_call 24; have _t := tk20; clear _t tk20; refine (E3.out _ _ _ _ _ I21.out (cardsIn_up S5.out (Nat.le_refl _) C21.out)).mono ?_; rintro e w22 ⟨rfl, hB⟩; have M22 := Lib.hid (cellsC_below M21.out hB); have C22 := Lib.hid (ch_next C21.out (Nat.le_refl _) hB); clear hB)
    | (go_at_call 28; have _t := tk21; clear _t tk21; refine (HC.out _ _ _ _ DL.out M22.out DM.out).mono ?_; rintro e w23 ⟨rfl, hB⟩; have C23 := Lib.hid (ch_next C22.out (Nat.le_refl _) hB); clear hB))
  all_goals go_returns
  all_goals exact ⟨rfl, ch_next B5.out (Nat.le_refl _) C23.out⟩
/-! ### The frame round the walk -/
section
set_option maxRecDepth 100000 in
theorem fnExactPassMany_lifted (os : Os) (started : os.Started) (H : Type) (enc : TypeId × Value → H) :
    ReturnsInHanded {} Try.checked os 4 .any (Rows.fnExactPassManySpec.pre6 enc Try.prog Try.f4 Rows.fnExactPassManyRow.domain false) (Rows.fnExactPassManySpec.post enc Try.prog Try.f4 false true false false) := by
  refine returnsInHanded_of_change_sized (C := Try.checked) own started (by kernel_rfl) Try.func4
    (ChangeSpec.witness6 (enc := enc) (C := Try.checked) false ⟨#[], #[.slice none 0 0, .slice none 0 0], []⟩ 8 (by kernel_rfl) (by kernel_rfl) (by kernel_rfl) (by kernel_rfl)) ?_
  intro W base args ds gs before hval hW _ hsz _
  have hW' := hW
  obtain ⟨p, q, hA, hV, rfl, _, _⟩ := hW
  obtain ⟨rfl, rfl⟩ := trodVars_none hV
  have hlt : ∀ x ∈ p, x.block < W.heap.size := fun x hx => by simpa using hW'.lt x (by simpa using hx)
  rw [Try.params4] at hA hval hsz
  obtain ⟨v0, vs0, d0, ds0, p0, q0, hargs, rfl, rfl, h0, r0⟩ := trodAll_cons hA
  obtain ⟨v1, vs1, d1, ds1, p1, q1, rfl, rfl, rfl, h1, r1⟩ := trodAll_cons r0
  obtain ⟨rfl, rfl, rfl⟩ := trodAll_nil r1
  obtain rfl : args = #[v0, v1] := by cases args; simp_all
  obtain ⟨a0, cs0, c0, rfl, hz0, hl0⟩ := open_cards (u := 47) (e := 111) (by kernel_rfl) Try.underlying111 (by kernel_rfl) (by kernel_rfl) (by kernel_rfl) (by kernel_rfl) (by kernel_rfl) (by kernel_rfl) (by kernel_rfl) (by kernel_rfl) (by kernel_rfl) (hval 0 32 v0 rfl rfl) h0
  obtain ⟨a1, z1, c1, rfl, hz1⟩ := open_intS (e := 2) (by kernel_rfl) (by kernel_rfl) (by kernel_rfl) (hval 1 33 v1 rfl rfl) h1
  refine (fnExactPassMany_walk a0 cs0 c0 a1 z1 c1 W hz0 hl0 hz1).mono fun e W' ⟨he, hb⟩ => ?_
  subst he
  exact ⟨_, rfl, law_post laidOut rfl Try.underlying4 (of_all (by kernel_rfl)) rfl hW' rfl rfl rfl hb⟩

theorem fnExactPassMany_over : Rows.fnExactPassManyRow.holds Try.pinned (OpenSpec.ofChange Rows.fnExactPassManySpec) :=
  OpenClaim.holds_of_wide_leaving 4 Try.f4 rfl rfl rfl rfl rfl rfl rfl ⟨rfl, rfl, rfl, rfl, rfl⟩ rfl rfl rfl rfl rfl (by kernel_rfl) Try.func4 (by kernel_rfl)
    (of_decide_eq_true (by kernel_rfl)) (by unfold Func.isWrapper; rw [if_neg (of_decide_eq_false (by kernel_rfl))]; exact ⟨rfl, rfl⟩)
    (fun os started H enc _ enter => ReturnsInOpen.mono (fun _ _ _ x => ⟨x.2.1, onlyLeaving_of_quiet x.1, x.2.2⟩) (fun _ x => x) (fnExactPassMany_lifted os started H enc enter))

/-- The statement. -/
theorem fnExactPassMany_holds : Rows.FnExactPassManySaid := fnExactPassMany_over
end
end Go.Proofs.Ytaiedpblfnaooab
