/- SortDeck answers, for every deck and every field, as its model does; its answer is memory of its own. No conditions. -/
import Derived.Conc.Holds
import Derived.Leaving
import Derived.Test.YtaiedpblfnaooabPaZ
import Derived.Test.YtaiedpblfnaooabMake1
import Derived.Test.YtaiedpblfnaooabMark
import Derived.Test.YtaiedpblfnaooabDeck3
import Derived.Deep.DeepCutAuto
namespace Go.Proofs.Ytaiedpblfnaooab
open Go.ChangeShapes Go.WideShapes Go.ChangeAt Go.RowKit

theorem cardsIn_up {B : Nat} {w w' : World} {a : Option Addr} {cs : List Cd} (h : CardsIn w a cs) (hB : w.heap.size ≤ B) (hb : Below B w w') : CardsIn w' a cs := cardsIn_below h (hb.mono hB)
theorem wr_cards {w : World} {g : Nat} {cs : List Cd} (h : CardsIn w (some ⟨g, 0, none⟩) cs) (hf : ∀ j, w.frozen? ⟨g, j, none⟩ = false) : Wb w g (cs.length * 3) := by
  refine ⟨fun j hj => ?_, fun j _ => hf j⟩
  obtain ⟨_, b, off, he, _, h0, h1, h2⟩ := h (j / 3) (by omega)
  cases he
  rcases (show j % 3 = 0 ∨ j % 3 = 1 ∨ j % 3 = 2 by omega) with e | e | e
  · exact ⟨.string (cdAt cs (j / 3)).s, by rw [show (⟨g, j, none⟩ : Addr) = ⟨g, 0 + j / 3 * 3, none⟩ from by congr 1; omega]; exact h0⟩
  · exact ⟨.int .u64 (cdAt cs (j / 3)).a, by rw [show (⟨g, j, none⟩ : Addr) = ⟨g, 0 + j / 3 * 3 + 1, none⟩ from by congr 1; omega]; exact h1⟩
  · exact ⟨.int .u64 (cdAt cs (j / 3)).b, by rw [show (⟨g, j, none⟩ : Addr) = ⟨g, 0 + j / 3 * 3 + 2, none⟩ from by congr 1; omega]; exact h2⟩

/-- One step behind a world whose own things stay. -/
theorem ch_next {B : Nat} {w a b : World} (h : Below B w a) (hB : B ≤ w.heap.size) (k : Below a.heap.size a b) : Below B w b := h.trans (Below.mono k (Nat.le_trans hB h.size))

/-- The field's box of the law's own. -/
def LBox (w W : World) (s : ByteArray) (k st sz : Int) : Prop := W.heap[w.heap.size]? = some (.cells #[.string s, .int .i8 k, .int .i16 st, .int .i16 sz] 25 (0, 0)) ∧ Below w.heap.size w W
theorem lBox_start (w : World) (s : ByteArray) (k st sz : Int) : LBox w (w.alloc (.cells #[.string s, .int .i8 k, .int .i16 st, .int .i16 sz] 25)) s k st sz := ⟨block_alloc _ _, below_new (Below.refl _ _) _⟩
theorem lBox_ab {w W W' : World} {s : ByteArray} {k st sz : Int} (h : LBox w W s k st sz) (hb : Ab W W') : LBox w W' s k st sz := ⟨hb.block h.1, h.2.trans (Below.mono hb h.2.size)⟩

/-- A deck of the law's own. -/
def DkIn (cs : List Cd) (x : Option Addr) (W : World) : Prop := ∃ g, x = some ⟨g, 0, none⟩ ∧ g < W.heap.size ∧ CardsIn W (some ⟨g, 0, none⟩) cs
theorem DkIn.ab {cs : List Cd} {x : Option Addr} {W W' : World} (h : DkIn cs x W) (hb : Ab W W') : DkIn cs x W' := by
  obtain ⟨g, e, hl, hc⟩ := h
  exact ⟨g, e, Nat.lt_of_lt_of_le hl hb.size, cardsIn_below hc hb⟩

set_option maxRecDepth 100000 in
set_option maxHeartbeats 6400000 in
theorem fnExactSortDeck_walk (a1 : Option Addr) (cs : List Cd) (c1 : Nat) (s : ByteArray) (k st sz : Int) (hs : s.size ≤ maxLen) (hk : I8 k) (ht : I16 st) (hz : I16 sz) (w : World) (h1 : CardsIn w a1 cs) (l1 : cs.length ≤ maxLen) :
    Calls Try.prog 7 #[.slice a1 cs.length c1, .agg #[.string s, .int .i8 k, .int .i16 st, .int .i16 sz]] w fun e w' => e = .returned (.bool true) ∧ Below w.heap.size w w' := by
  unfold maxLen at l1
  have B0 := Lib.hid (lBox_start w s k st sz)
  have H0 := Lib.hid h1
  have Z1 := Lib.hid fun W hs => szCardS_any a1 cs c1 1048576 W hs (by decide) (by decide) (by omega)
  have FT := Lib.hid (sdL_fits s k st sz h1)
  clear h1 l1
  go_enter Try.func7, Try.ntmps7
  go_upto_region 3 with (go_at_call 19; refine (Z1.out _ (cardsIn_below H0.out B0.out.2)).mono ?_; rintro e w1 ⟨z, rfl, z0, z1, z2, hB⟩; have B1 := Lib.hid (lBox_ab B0.out hB); have c0 := cell_of_block B1.out.1; clear hB)
  by_cases hz0 : z < 0
  · have d1 : decide (z < 0) = true := decide_eq_true hz0
    go_wp2
    go_returns
    exact ⟨rfl, B1.out.2⟩
  have d1 : decide (z < 0) = false := decide_eq_false hz0
  have n1 : cs.length ≤ 1048576 := z2 (by omega)
  have Z3 := Lib.hid fun W => szField_any s k st sz z hs (by omega) z1 W
  clear z0 z1 z2 hz0
  by_cases hx0 : szf z s.size < 0
  · have d3 : decide (szf z s.size < 0) = true := decide_eq_true hx0
    go_wp2_with (go_at_call 15; refine (Z3.out _).mono ?_; rintro e w3 ⟨rfl, hB⟩; have B3 := Lib.hid (lBox_ab B1.out hB); clear hB)
    go_returns
    exact ⟨rfl, B3.out.2⟩
  have d3 : decide (szf z s.size < 0) = false := decide_eq_false hx0
  have T1 := Lib.hid fun W hs => toCardS_any a1 cs c1 W hs (by omega)
  have TF := Lib.hid fun W => toField_b s k st sz W
  have E1 := Lib.hid fun a b c d W ha hb => eqCardS_same a b cs c d W ha hb (by omega)
  have S := fun g c W (_ : g < W.heap.size) hc => sSortDeck_any s k st sz hs ht hz g cs c W hc
  have I := fun g c W hg hc => iSortDeck_any s k st sz hs hk ht hz g cs c W hg hc
  have al := sdL_len s k st sz cs
  have FT := FT.out
  generalize sdL s k st sz cs = xs at *
  generalize sdC s k st sz cs = cd at *
  generalize szf z s.size = zz at *
  have E3 := Lib.hid fun a b c d W ha hb => eqCardS_same a b xs c d W ha hb (by omega)
  have S := Lib.hid S
  have I := Lib.hid I
  have FX := Lib.hid FT
  have hk1 : 1 + 3 * cs.length ≤ 4000000 := by omega
  have hk3 : 1 + 3 * xs.length ≤ 4000000 := by omega
  have MA := fun g W hW hg => markCards_any cs.length g 1 cs.length W hW hg hk1
  have MO := fun B v W hO => markCardsOwn_any B xs v 1 W hO hk3
  have HC := fun a (es : List Cd) c W (hl : es.length = xs.length) hC hM => (hl ▸ heldCards_any a es c 1 W hC hM (by rw [hl]; exact hk3) : Calls Try.prog 28 #[.slice a xs.length c, .int .i64 ((1 : Nat) : Int)] W fun e w' => e = .returned (.int .i64 ((1 + 3 * xs.length : Nat) : Int)) ∧ Below W.heap.size W w')
  generalize 1 + 3 * cs.length = ka at *
  generalize 1 + 3 * xs.length = kx at *
  have MA := Lib.hid MA
  have MO := Lib.hid MO
  have HC := Lib.hid HC
  have q0 : decide ((ka : Int) < 0) = false := by simp
  have q2 : decide ((kx : Int) < 0) = false := by simp
  have q3 : ((kx : Int) != (kx : Int)) = false := by simp
  have q4 : (cd != cd) = false := by simp
  clear hs hk ht hz hx0 hk1 hk3 al FT n1
  go_upto_region 8 with (go_at_call 15; refine (Z3.out _).mono ?_; rintro e w3 ⟨rfl, hB⟩; have B3 := Lib.hid (lBox_ab B1.out hB); clear hB)
  clear c0
  have hbw := cell_bw
  refine wp_region_make1_at (Y := Option Addr × Nat) 1 2 (DkIn cs) (fun y W => OwnCards w3.heap.size xs (.slice y.1 xs.length y.2) W) (fun _ _ _ h hb => h.ab hb) (fun _ _ _ h hb => ownCards_kept h hb) (fun x => .slice x cs.length cs.length) (fun y => .tuple #[.slice y.1 xs.length y.2, .int .i64 cd]) (by kernel_rfl) rfl rfl rfl (by kernel_rfl) rfl rfl (none, 0) ?_
  simp only [Nat.reduceAdd, List.take_succ_cons, List.take_zero, List.drop_succ_cons, List.drop_zero]
  intro v1 hv1
  repeat (go_big_quiet_step (fail))
  refine wpQuiet_nil ?_
  refine ⟨?_, ?_⟩
  · intro u2 hu2
    go_simp
    simp only [Yld]
    refine ⟨trivial, (T1.out u2 (cardsIn_below H0.out (lBox_ab B3.out hu2).2)).mono ?_⟩
    rintro e u3 ⟨v, rfl, ⟨g, rfl, _, hl, hc, _⟩, hb⟩
    exact ⟨_, rfl, _, rfl, hb, g, rfl, hl, hc⟩
  intro x v2 hv2
  simp only [Act.put, List.setIfInBounds_toArray, List.set_cons_succ, List.set_cons_zero]
  have c0 := cell_of_block (lBox_ab B3.out hv2).1
  have z0 := lt_of_block (lBox_ab B3.out hv2).1
  repeat (go_big_quiet_step (first | (go_at_call 17; exact calls_bw (TF.out _))))
  refine wpQuiet_nil ?_
  clear c0 z0
  refine ⟨?_, ?_⟩
  · rintro u3 hu3 ⟨g, rfl, hl, hc⟩
    go_simp
    simp only [Yld]
    refine ⟨trivial, (S.out g cs.length u3 hl hc).mono ?_⟩
    rintro e u4 ⟨v, rfl, hO, hb⟩
    obtain ⟨ai, ci, rfl, _⟩ := ownCards_in hO
    exact ⟨_, rfl, ai, ci, rfl, hb, ownCards_weaken hO hu3.size⟩
  rintro ⟨a9, c9⟩
  simp only [List.setIfInBounds_toArray, List.set_cons_succ, List.set_cons_zero]
  refine ⟨rfl, _, fun _ => rfl, ?_⟩
  simp only [Act.put, List.setIfInBounds_toArray, List.set_cons_succ, List.set_cons_zero]
  refine ⟨rfl, _, fun _ => rfl, ?_⟩
  simp only [Act.put, List.setIfInBounds_toArray, List.set_cons_succ, List.set_cons_zero]
  refine ⟨rfl, _, fun _ => rfl, ?_⟩
  simp only [Act.put, List.setIfInBounds_toArray, List.set_cons_succ, List.set_cons_zero]
  refine ⟨rfl, _, fun _ => rfl, ?_⟩
  simp only [Act.put, List.setIfInBounds_toArray, List.set_cons_succ, List.set_cons_zero]
  refine ⟨rfl, _, fun _ => rfl, ?_⟩
  simp only [Act.put, List.setIfInBounds_toArray, List.set_cons_succ, List.set_cons_zero]
  intro w8 hw8 _ hy
  have B8 := Lib.hid (lBox_ab B3.out hw8)
  have S8 := Lib.hid (cardsIn_of (show CellsC w8 _ xs from (by obtain ⟨_, _, hv, hc⟩ := ownCards_in hy; cases hv; exact hc)) FX.out)
  have c0 := cell_of_block B8.out.1
  clear hw8 hy hv1 hv2 hbw
  have tk1 : True := trivial
  have tk3 : True := trivial
  have tk4 : True := trivial
  have tk5 : True := trivial
  have tk6 : True := trivial
  have tk7 : True := trivial
  have tk10 : True := trivial
  have tk12 : True := trivial
  have tk13 : True := trivial
  have tk14 : True := trivial
  have tk15 : True := trivial
  have tk16 : True := trivial
  go_upto_region 27 with (first
    | (go_at_call 21; have _t := tk1; clear _t tk1; refine (T1.out _ (cardsIn_below H0.out B8.out.2)).mono ?_; rintro e w10 ⟨v, rfl, ⟨g10, rfl, hg, hl, hs, hf⟩, hB⟩; have C10 := Lib.hid (show Below w8.heap.size w8 w10 from hB); have G10 := Lib.hid hg; have L10 := Lib.hid hl; have X10 := Lib.hid hs; have W10 := Lib.hid (wr_cards hs hf); clear c0; have c0 := cell_of_block (lBox_ab B8.out C10.out).1; clear hB hs hf hg hl)
    | (go_at_call 17; have _t := tk3; clear _t tk3; refine (TF.out _).mono ?_; rintro e w12 ⟨rfl, hB⟩; have C12 := Lib.hid (ch_next C10.out (Nat.le_refl _) hB); have X12 := Lib.hid (cardsIn_below X10.out hB); have W12 := Lib.hid (W10.out.below hB L10.out); have N12 := Lib.hid (Nat.lt_of_lt_of_le L10.out hB.size); clear hB)
    | (go_at_call 36; have _t := tk4; clear _t tk4; refine (I.out _ _ _ N12.out X12.out).mono ?_; rintro e w13 ⟨v13, rfl, hO, hB⟩; obtain ⟨a13, c13, rfl, hi⟩ := ownCards_in hO; have O13 := Lib.hid hO; have I13 := Lib.hid (cardsIn_of hi FX.out); have D13 := Lib.hid hB; have C13 := Lib.hid (ch_next C12.out (Nat.le_refl _) hB); have X13 := Lib.hid (cardsIn_below X12.out hB); clear hB hO hi)
    | (go_at_call 24; have _t := tk5; clear _t tk5; refine (E3.out _ _ _ _ _ I13.out (cardsIn_up S8.out (Nat.le_refl _) C13.out)).mono ?_; rintro e w14 ⟨rfl, hB⟩; have C14 := Lib.hid (ch_next C13.out (Nat.le_refl _) hB); have D14 := Lib.hid (ch_next D13.out (Nat.le_refl _) hB); have X14 := Lib.hid (cardsIn_below X13.out hB); have O14 := Lib.hid (ownCards_kept O13.out hB); clear hB)
    | (go_at_call 21; have _t := tk6; clear _t tk6; refine (T1.out _ (cardsIn_below H0.out (lBox_ab B8.out C14.out).2)).mono ?_; rintro e w15 ⟨v, rfl, ⟨g15, rfl, _, _, hs, _⟩, hB⟩; have Z15 := Lib.hid hs; have C15 := Lib.hid (ch_next C14.out (Nat.le_refl _) hB); have D15 := Lib.hid (ch_next D14.out (Nat.le_refl _) hB); have X15 := Lib.hid (cardsIn_below X14.out hB); have O15 := Lib.hid (ownCards_kept O14.out hB); clear hB hs)
    | (go_at_call 24; have _t := tk7; clear _t tk7; refine (E1.out _ _ _ _ _ X15.out Z15.out).mono ?_; rintro e w18 ⟨rfl, hB⟩; have C18 := Lib.hid (ch_next C15.out (Nat.le_refl _) hB); have D18 := Lib.hid (ch_next D15.out (Nat.le_refl _) hB); have O18 := Lib.hid (ownCards_kept O15.out hB); clear hB)
    | (go_at_call 26; have _t := tk10; clear _t tk10; refine (MA.out _ _ (W12.out.below D18.out N12.out) (Nat.lt_of_lt_of_le N12.out D18.out.size)).mono ?_; rintro e w20 ⟨rfl, hO⟩; have O20 := Lib.hid (ownCards_oth O18.out hO N12.out); have C20 := Lib.hid (C18.out.trans (Below.mono (hO.below (Nat.le_of_lt (Nat.lt_of_lt_of_le N12.out D18.out.size))) G10.out)); clear hO)
    | (go_at_call 24; have _t := tk12; clear _t tk12; have hx := O20.out; obtain ⟨_, _, hv, hi⟩ := ownCards_in hx; cases hv; refine (E3.out _ _ _ _ _ (cardsIn_of hi FX.out) (cardsIn_up S8.out (Nat.le_refl _) C20.out)).mono ?_; rintro e w21 ⟨rfl, hB⟩; have C21 := Lib.hid (ch_next C20.out (Nat.le_refl _) hB); have O21 := Lib.hid (ownCards_kept O20.out hB); clear hB hx hi)
    | (go_at_call 26; have _t := tk13; clear _t tk13; refine (MO.out _ _ _ O21.out).mono ?_; rintro e w22 ⟨rfl, ⟨es, hdl, hdm, hO⟩, hB⟩; obtain ⟨am, cm, hv, hi⟩ := ownCards_in hO; rw [hdl] at hv; cases hv; have M22 := Lib.hid hi; have DL := Lib.hid hdl; have DM := Lib.hid hdm; have C22 := Lib.hid (C21.out.trans (hB.mono C12.out.size)); clear hO hB hi hdl hdm)
    | (go_at_call 28; have _t := tk14; clear _t tk14; refine (HC.out _ _ _ _ DL.out M22.out DM.out).mono ?_; rintro e w23 ⟨rfl, hB⟩; have M23 := Lib.hid (cellsC_below M22.out hB); have C23 := Lib.hid (ch_next C22.out (Nat.le_refl _) hB); clear hB))
  have B23 := Lib.hid (lBox_ab B8.out C23.out)
  clear c0
  have hbw := cell_bw
  refine wp_region_make1_at (Y := Option Addr × Nat) 1 2 (DkIn cs) (fun y W => OwnCards w23.heap.size xs (.slice y.1 xs.length y.2) W) (fun _ _ _ h hb => h.ab hb) (fun _ _ _ h hb => ownCards_kept h hb) (fun x => .slice x cs.length cs.length) (fun y => .tuple #[.slice y.1 xs.length y.2, .int .i64 cd]) (by kernel_rfl) rfl rfl rfl (by kernel_rfl) rfl rfl (none, 0) ?_
  simp only [Nat.reduceAdd, List.take_succ_cons, List.take_zero, List.drop_succ_cons, List.drop_zero]
  intro v1 hv1
  repeat (go_big_quiet_step (fail))
  refine wpQuiet_nil ?_
  refine ⟨?_, ?_⟩
  · intro u2 hu2
    go_simp
    simp only [Yld]
    refine ⟨trivial, (T1.out u2 (cardsIn_below H0.out (lBox_ab B23.out hu2).2)).mono ?_⟩
    rintro e u3 ⟨v, rfl, ⟨g, rfl, _, hl, hc, _⟩, hb⟩
    exact ⟨_, rfl, _, rfl, hb, g, rfl, hl, hc⟩
  intro x v2 hv2
  simp only [Act.put, List.setIfInBounds_toArray, List.set_cons_succ, List.set_cons_zero]
  have c0 := cell_of_block (lBox_ab B23.out hv2).1
  have z0 := lt_of_block (lBox_ab B23.out hv2).1
  repeat (go_big_quiet_step (first | (go_at_call 17; exact calls_bw (TF.out _))))
  refine wpQuiet_nil ?_
  clear c0 z0
  refine ⟨?_, ?_⟩
  · rintro u3 hu3 ⟨g, rfl, hl, hc⟩
    go_simp
    simp only [Yld]
    refine ⟨trivial, (I.out g cs.length u3 hl hc).mono ?_⟩
    rintro e u4 ⟨v, rfl, hO, hb⟩
    obtain ⟨ai, ci, rfl, _⟩ := ownCards_in hO
    exact ⟨_, rfl, ai, ci, rfl, hb, ownCards_weaken hO hu3.size⟩
  rintro ⟨a9, c9⟩
  simp only [List.setIfInBounds_toArray, List.set_cons_succ, List.set_cons_zero]
  refine ⟨rfl, _, fun _ => rfl, ?_⟩
  simp only [Act.put, List.setIfInBounds_toArray, List.set_cons_succ, List.set_cons_zero]
  refine ⟨rfl, _, fun _ => rfl, ?_⟩
  simp only [Act.put, List.setIfInBounds_toArray, List.set_cons_succ, List.set_cons_zero]
  refine ⟨rfl, _, fun _ => rfl, ?_⟩
  simp only [Act.put, List.setIfInBounds_toArray, List.set_cons_succ, List.set_cons_zero]
  refine ⟨rfl, _, fun _ => rfl, ?_⟩
  simp only [Act.put, List.setIfInBounds_toArray, List.set_cons_succ, List.set_cons_zero]
  refine ⟨rfl, _, fun _ => rfl, ?_⟩
  simp only [Act.put, List.setIfInBounds_toArray, List.set_cons_succ, List.set_cons_zero]
  intro w30 hw30 _ hy
  have M30 := Lib.hid (cellsC_below M23.out hw30)
  have C30 := Lib.hid (ch_next C23.out (Nat.le_refl _) hw30)
  have I30 := Lib.hid (cardsIn_of (show CellsC w30 _ xs from (by obtain ⟨_, _, hv, hc⟩ := ownCards_in hy; cases hv; exact hc)) FX.out)
  clear hw30 hy hv1 hv2 hbw
  go_wp2_with (first
    | (go_at_call 24; have _t := tk15; clear _t tk15; refine (E3.out _ _ _ _ _ I30.out (cardsIn_up S8.out (Nat.le_refl _) C30.out)).mono ?_; rintro e w31 ⟨rfl, hB⟩; have M31 := Lib.hid (cellsC_below M30.out hB); have C31 := Lib.hid (ch_next C30.out (Nat.le_refl _) hB); clear hB)
    | (go_at_call 28; have _t := tk16; clear _t tk16; refine (HC.out _ _ _ _ DL.out M31.out DM.out).mono ?_; rintro e w32 ⟨rfl, hB⟩; have C32 := Lib.hid (ch_next C31.out (Nat.le_refl _) hB); clear hB))
  all_goals go_returns
  all_goals exact ⟨rfl, (lBox_ab B8.out C32.out).2⟩
/-! ### The frame round the walk -/
section
set_option maxRecDepth 100000 in
theorem fnExactSortDeck_lifted (os : Os) (started : os.Started) (H : Type) (enc : TypeId × Value → H) :
    ReturnsInHanded {} Try.checked os 7 .any (Rows.fnExactSortDeckSpec.pre6 enc Try.prog Try.f7 Rows.fnExactSortDeckRow.domain false) (Rows.fnExactSortDeckSpec.post enc Try.prog Try.f7 false true false false) := by
  refine returnsInHanded_of_change_sized (C := Try.checked) own started (by kernel_rfl) Try.func7
    (ChangeSpec.witness6 (enc := enc) (C := Try.checked) false ⟨#[], #[.slice none 0 0, .agg #[.string ByteArray.empty, .int .i8 0, .int .i16 0, .int .i16 0]], []⟩ 8 (by kernel_rfl) (by kernel_rfl) (by kernel_rfl) (by kernel_rfl)) ?_
  intro W base args ds gs before hval hW _ hsz _
  have hW' := hW
  obtain ⟨p, q, hA, hV, rfl, _, _⟩ := hW
  obtain ⟨rfl, rfl⟩ := trodVars_none hV
  have hlt : ∀ x ∈ p, x.block < W.heap.size := fun x hx => by simpa using hW'.lt x (by simpa using hx)
  rw [Try.params7] at hA hval hsz
  obtain ⟨v0, vs0, d0, ds0, p0, q0, hargs, rfl, rfl, h0, r0⟩ := trodAll_cons hA
  obtain ⟨v1, vs1, d1, ds1, p1, q1, rfl, rfl, rfl, h1, r1⟩ := trodAll_cons r0
  obtain ⟨rfl, rfl, rfl⟩ := trodAll_nil r1
  obtain rfl : args = #[v0, v1] := by cases args; simp_all
  obtain ⟨a0, cs0, c0, rfl, hz0, hl0⟩ := open_cards (u := 47) (e := 111) (by kernel_rfl) Try.underlying111 (by kernel_rfl) (by kernel_rfl) (by kernel_rfl) (by kernel_rfl) (by kernel_rfl) (by kernel_rfl) (by kernel_rfl) (by kernel_rfl) (by kernel_rfl) (hval 0 32 v0 rfl rfl) h0
  obtain ⟨s1, k1, st1, sz1, rfl, hs1, hk1, hst1, hsz1⟩ := open_field (s := 9) (k := 22) (e := 23) Try.underlying25 (by kernel_rfl) (by kernel_rfl) (by kernel_rfl) (by kernel_rfl) (by kernel_rfl) (hval 1 25 v1 rfl rfl)
  refine (fnExactSortDeck_walk a0 cs0 c0 s1 k1 st1 sz1 hs1 hk1 hst1 hsz1 W hz0 hl0).mono fun e W' ⟨he, hb⟩ => ?_
  subst he
  exact ⟨_, rfl, law_post laidOut rfl Try.underlying4 (of_all (by kernel_rfl)) rfl hW' rfl rfl rfl hb⟩

theorem fnExactSortDeck_over : Rows.fnExactSortDeckRow.holds Try.pinned (OpenSpec.ofChange Rows.fnExactSortDeckSpec) :=
  OpenClaim.holds_of_wide_leaving 7 Try.f7 rfl rfl rfl rfl rfl rfl rfl ⟨rfl, rfl, rfl, rfl, rfl⟩ rfl rfl rfl rfl rfl (by kernel_rfl) Try.func7 (by kernel_rfl)
    (of_decide_eq_true (by kernel_rfl)) (by unfold Func.isWrapper; rw [if_neg (of_decide_eq_false (by kernel_rfl))]; exact ⟨rfl, rfl⟩)
    (fun os started H enc _ enter => ReturnsInOpen.mono (fun _ _ _ x => ⟨x.2.1, onlyLeaving_of_quiet x.1, x.2.2⟩) (fun _ x => x) (fnExactSortDeck_lifted os started H enc enter))

/-- The statement. -/
theorem fnExactSortDeck_holds : Rows.FnExactSortDeckSaid := fnExactSortDeck_over
end
end Go.Proofs.Ytaiedpblfnaooab
