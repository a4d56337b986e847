/- ApplyEdit answers, for every deck and every edit, as its model does; its answer is memory of its own. No conditions but what the library's errorType reads as. -/
import Derived.Test.YtpgonfeobfefaaaDoorApZ
import Derived.Test.YtpgonfeobfefaaaDoorDoor
import Derived.Test.YtpgonfeobfefaaaDoorEdL
import Derived.Test.YtpgonfeobfefaaaDoorEds2
import Derived.Test.YtpgonfeobfefaaaDoorDeck3
import Derived.Test.YtpgonfeobfefaaaDoorMark
import Derived.Test.YtpgonfeobfefaaaDoorHeldC
import Derived.Test.YtpgonfeobfefaaaDoorMake1Y
import Derived.Deep.DeepCutAuto
namespace Go.Proofs.YtpgonfeobfefaaaDoor
open Go.ChangeShapes Go.WideShapes Go.ChangeAt Go.RowKit

/-- The edit's box of the law's own. -/
def EBox (w W : World) (x : Ed) : Prop := W.heap[w.heap.size]? = some (.cells #[.int .i8 x.k, .string x.s, .int .i16 x.h, .int .u64 x.a, .int .u64 x.b] 28 (0, 0)) ∧ Below w.heap.size w W
theorem eBox_start (w : World) (x : Ed) : EBox w (w.alloc (.cells #[.int .i8 x.k, .string x.s, .int .i16 x.h, .int .u64 x.a, .int .u64 x.b] 28)) x := ⟨block_alloc _ _, below_new (Below.refl _ _) _⟩
theorem eBox_ab {w W W' : World} {x : Ed} (h : EBox w W x) (hb : Ab W W') : EBox w W' x := ⟨hb.block h.1, h.2.trans (Below.mono hb h.2.size)⟩
theorem edV_parts {k : Int} {s : ByteArray} {h a b : Int} : edV ⟨k, s, h, a, b⟩ = .agg #[.int .i8 k, .string s, .int .i16 h, .int .u64 a, .int .u64 b] := rfl

theorem wr_cardsA {w : World} {g : Nat} {cs : List Cd} (h : CardsIn w (some ⟨g, 0, none⟩) cs) (hf : ∀ j, w.frozen? ⟨g, j, none⟩ = false) : Wb w g (cs.length * 3) := by
  refine ⟨fun j hj => ?_, fun j _ => hf j⟩
  obtain ⟨_, b, off, he, _, h0, h1, h2⟩ := h (j / 3) (by omega)
  cases he
  rcases (show j % 3 = 0 ∨ j % 3 = 1 ∨ j % 3 = 2 by omega) with e | e | e
  · exact ⟨.string (cdAt cs (j / 3)).s, by rw [show (⟨g, j, none⟩ : Addr) = ⟨g, 0 + j / 3 * 3, none⟩ from by congr 1; omega]; exact h0⟩
  · exact ⟨.int .u64 (cdAt cs (j / 3)).a, by rw [show (⟨g, j, none⟩ : Addr) = ⟨g, 0 + j / 3 * 3 + 1, none⟩ from by congr 1; omega]; exact h1⟩
  · exact ⟨.int .u64 (cdAt cs (j / 3)).b, by rw [show (⟨g, j, none⟩ : Addr) = ⟨g, 0 + j / 3 * 3 + 2, none⟩ from by congr 1; omega]; exact h2⟩
/-- A deck of the law's own. -/
def DkA (cs : List Cd) (g : Nat) (W : World) : Prop := CardsIn W (some ⟨g, 0, none⟩) cs ∧ Wb W g (cs.length * 3) ∧ g < W.heap.size
theorem DkA.ab {cs : List Cd} {g : Nat} {W W' : World} (h : DkA cs g W) (k : Ab W W') : DkA cs g W' := ⟨cardsIn_below h.1 k, h.2.1.below k h.2.2, Nat.lt_of_lt_of_le h.2.2 k.size⟩
theorem aeL_len {cs : List Cd} {x : Ed} : (aeL (deckOk cs && edOk x) cs x).length ≤ 80 := by
  cases hd : deckOk cs
  · exact Nat.zero_le _
  · cases ho : edOk x
    · exact Nat.zero_le _
    · exact apA_len hd
theorem aeL_fits {cs : List Cd} {x : Ed} (hc : ∀ i, i < cs.length → (cdAt cs i).fits) (hx : x.fits) : ∀ i, i < (aeL (deckOk cs && edOk x) cs x).length → (cdAt (aeL (deckOk cs && edOk x) cs x) i).fits := by
  cases hd : deckOk cs
  · exact fun i hi => absurd hi (Nat.not_lt_zero _)
  · cases ho : edOk x
    · exact fun i hi => absurd hi (Nat.not_lt_zero _)
    · exact apA_fits hc hx ho

set_option maxRecDepth 100000 in
set_option maxHeartbeats 6400000 in
theorem fnExactApplyEdit_walk (a1 : Option Addr) (cs : List Cd) (c1 : Nat) (x : Ed) (hx : x.fits) (w : World) (hE : EtIn w) (h1 : CardsIn w a1 cs) (l1 : cs.length ≤ maxLen) :
    Calls Tryd.prog 4 #[.slice a1 cs.length c1, .agg #[.int .i8 x.k, .string x.s, .int .i16 x.h, .int .u64 x.a, .int .u64 x.b]] w fun e w' => e = .returned (.bool true) ∧ Below w.heap.size w w' := by
  unfold maxLen at l1
  have B0 := Lib.hid (eBox_start w x)
  have H1 := Lib.hid (cardsIn_below h1 B0.out.2)
  have Z1 := Lib.hid fun W hs => szCardS_any a1 cs c1 1048576 W hs (by decide) (by decide) (by omega)
  have S := fun g W hs => sApply_any x hx g cs cs.length W hs (Nat.le_refl _)
  have I := fun g W hs hE => iApply_any x hx (some ⟨g, 0, none⟩) cs cs.length W hs hE
  have EE := Lib.hid fun (W : World) (hB : Below w.heap.size w W) => hE.below hB
  have FT := Lib.hid (aeL_fits (fun i hi => (h1 i hi).1) hx)
  have xl := aeL_len (cs := cs) (x := x)
  clear l1 hE
  have H0 := Lib.hid h1
  clear h1
  generalize aeL (deckOk cs && edOk x) cs x = xs at *
  generalize aeK (deckOk cs && edOk x) cs x = q at *
  obtain ⟨k, s, h, a, b⟩ := x
  rw [edV_parts] at S I
  have S := Lib.hid S
  have I := Lib.hid I
  obtain ⟨_, hs, _⟩ := hx
  simp only at B0 hs ⊢
  go_enter Tryd.func4, Tryd.ntmps4
  go_upto_region 3 with (go_at_call 8; refine (Z1.out _ H1.out).mono ?_; rintro e w1 ⟨z, rfl, z0, z1, z2, hB⟩; have B1 := Lib.hid (eBox_ab B0.out hB); have c0 := cell_of_block B1.out.1; clear hB)
  by_cases hz0 : z < 0
  · have d1 : decide (z < 0) = true := decide_eq_true hz0
    go_wp2
    go_returns
    exact ⟨rfl, B1.out.2⟩
  have d1 : decide (z < 0) = false := decide_eq_false hz0
  have n1 : cs.length ≤ 1048576 := z2 (by omega)
  have Z2 := Lib.hid fun W => szEdit_any k s h a b z hs (by omega) (by omega) W
  clear z0 z2 hz0
  by_cases hy0 : edz z s.size < 0
  · have d2 : decide (edz z s.size < 0) = true := decide_eq_true hy0
    go_wp2_with (go_at_call 9; refine (Z2.out _).mono ?_; rintro e w2 ⟨rfl, hB⟩; have B2 := Lib.hid (eBox_ab B1.out hB); clear hB)
    go_returns
    exact ⟨rfl, B2.out.2⟩
  have d2 : decide (edz z s.size < 0) = false := decide_eq_false hy0
  have T1 := Lib.hid fun W hs => toCardS_any a1 cs c1 W hs n1
  have TF := Lib.hid fun W => toEdit_b k s h a b W
  have E1 := Lib.hid fun a b c d W ha hb => eqCardS_same a b cs c d W ha hb n1
  have EQ := Lib.hid fun a b c d W ha hb => eqCardS_same a b xs c d W ha hb (by omega)
  have MO := Lib.hid fun B v W h => markCardsOwn_any B xs v 1 W h (by omega)
  have HD := fun (a : Option Addr) (ds : List Cd) (c : Nat) (hds : ds.length = xs.length) W h hm => heldCards_any a ds c 1 W h hm (by omega)
  have HD := Lib.hid (fun (a : Option Addr) (ds : List Cd) (c : Nat) (hds : ds.length = xs.length) W h hm => (show Calls Tryd.prog 18 #[.slice a xs.length c, .int .i64 ((1 : Nat) : Int)] W fun e w' => e = .returned (.int .i64 ((1 + 3 * xs.length : Nat) : Int)) ∧ Below W.heap.size W w' by rw [← hds]; exact HD a ds c hds W h hm))
  obtain ⟨kk, hkk⟩ : ∃ kk : Nat, kk = 1 + 3 * cs.length := ⟨_, rfl⟩
  have M1 := fun g W hW hg => markCards_any cs.length g 1 cs.length W hW hg (by omega)
  rw [← hkk] at M1
  have M1 := Lib.hid M1
  have k0 : decide ((kk : Int) < 0) = false := by simp
  generalize 1 + 3 * xs.length = mm at *
  have n0 : decide ((mm : Int) < 0) = false := by simp
  have n3 : ((mm : Int) != (mm : Int)) = false := by simp
  have nq : (q != q) = false := by simp
  clear hs n1 z1 hy0 hkk xl
  generalize edz z s.size = zz at *
  go_upto_region 8 with (go_at_call 9; refine (Z2.out _).mono ?_; rintro e w2 ⟨rfl, hB⟩; have B2 := Lib.hid (eBox_ab B1.out hB); clear hB)
  clear c0
  refine wp_region_make1Y_at (XX := Nat) (Y := Nat × Nat) 1 2 (fun g W => CardsIn W (some ⟨g, 0, none⟩) cs) (fun p W => CardsIn W (some ⟨p.1, 0, none⟩) xs) (fun _ _ _ h hb => cardsIn_below h hb) (fun _ _ _ h hb => cardsIn_below h hb) (fun g => .slice (some ⟨g, 0, none⟩) cs.length cs.length) (fun p => .tuple #[.slice (some ⟨p.1, 0, none⟩) xs.length p.2, .int .i64 q]) (by kernel_rfl) rfl rfl rfl (by kernel_rfl) rfl rfl 0 (0, 0) ?_
  simp only [Nat.reduceAdd, List.take_succ_cons, List.take_zero, List.drop_succ_cons, List.drop_zero]
  have hbw := cell_bw
  intro v1 hv1
  repeat (go_big_quiet_step (fail))
  refine wpQuiet_nil ?_
  refine ⟨?_, ?_⟩
  · intro v2 hv2
    go_simp
    simp only [Yld]
    refine ⟨trivial, (T1.out v2 (cardsIn_below H0.out (B2.out.2.trans (Below.mono hv2 B2.out.2.size)))).mono ?_⟩
    rintro e v3 ⟨v, rfl, ⟨g, rfl, _, _, hc, _⟩, hb⟩
    exact ⟨_, rfl, g, rfl, hb, hc⟩
  intro g v2 hv2
  simp only [Act.put, List.setIfInBounds_toArray, List.set_cons_succ, List.set_cons_zero]
  have c0 := cell_of_block (eBox_ab B2.out hv2).1
  have z0 := lt_of_block (eBox_ab B2.out hv2).1
  repeat (go_big_quiet_step (first | (go_at_call 12; exact calls_bw (TF.out _))))
  refine wpQuiet_nil ?_
  clear c0 z0
  refine ⟨?_, ?_⟩
  · intro v3 hv3 hx
    go_simp
    simp only [Yld]
    refine ⟨trivial, (S.out g v3 hx).mono ?_⟩
    rintro e v4 ⟨g5, c5, rfl, hO, hb⟩
    obtain ⟨_, _, hv, hi⟩ := ownCards_in hO
    cases hv
    exact ⟨_, rfl, g5, ⟨c5, rfl⟩, hb, cardsIn_of hi FT.out⟩
  rintro ⟨gs, cS⟩
  simp only [List.setIfInBounds_toArray, List.set_cons_succ, List.set_cons_zero]
  refine ⟨rfl, _, fun _ => rfl, ?_⟩
  simp only [Act.put, List.setIfInBounds_toArray, List.set_cons_succ, List.set_cons_zero]
  refine ⟨rfl, _, fun _ => rfl, ?_⟩
  simp only [Act.put, List.setIfInBounds_toArray, List.set_cons_succ, List.set_cons_zero]
  refine ⟨rfl, _, fun _ => rfl, ?_⟩
  simp only [Act.put, List.setIfInBounds_toArray, List.set_cons_succ, List.set_cons_zero]
  refine ⟨rfl, _, fun _ => rfl, ?_⟩
  simp only [Act.put, List.setIfInBounds_toArray, List.set_cons_succ, List.set_cons_zero]
  refine ⟨rfl, _, fun _ => rfl, ?_⟩
  simp only [Act.put, List.setIfInBounds_toArray, List.set_cons_succ, List.set_cons_zero]
  intro w3 hw3 _ hS3
  have S3 := Lib.hid hS3
  have B3 := Lib.hid (eBox_ab B2.out hw3)
  have c0 := cell_of_block B3.out.1
  clear hw3 hv1 hv2 hbw hS3
  have tok1 : True := trivial
  have tok2 : True := trivial
  have tok3 : True := trivial
  have tok4 : True := trivial
  have tok5 : True := trivial
  have tok6 : True := trivial
  have tok7 : True := trivial
  go_upto_region 11 with (first
    | (go_at_call 11; refine (T1.out _ (cardsIn_below H0.out B3.out.2)).mono ?_; rintro e w4 ⟨v, rfl, ⟨g4, rfl, hg4, hl4, hs4, hf4⟩, hB⟩; have C4 := Lib.hid (show Ab w3 w4 from hB); have G4 := Lib.hid hg4; have D4 := Lib.hid (show DkA cs g4 w4 from ⟨hs4, wr_cardsA hs4 hf4, hl4⟩); clear c0; have c0 := cell_of_block (eBox_ab B3.out hB).1; clear hB hs4 hf4 hg4 hl4)
    | (go_at_call 12; refine (TF.out _).mono ?_; rintro e w5 ⟨rfl, hB⟩; have C5 := Lib.hid (Ab.trans C4.out hB); have D5 := Lib.hid (D4.out.ab hB); clear hB c0)
    | (go_at_call 16; refine (I.out _ _ D5.out.1 (EE.out _ (eBox_ab B3.out C5.out).2)).mono ?_; rintro e w6 ⟨v6, rfl, hO, hB⟩; obtain ⟨a6, c6, rfl, hi⟩ := ownCards_in hO; have O6 := Lib.hid hO; have I6 := Lib.hid (cardsIn_of hi FT.out); have C6 := Lib.hid (Ab.trans C5.out hB); have D6 := Lib.hid (D5.out.ab hB); clear hB hO hi))
  go_upto_region 17 with (first
    | (go_at_call 14; have _t := tok1; clear _t tok1; refine (EQ.out _ _ _ _ _ I6.out (cardsIn_below S3.out C6.out)).mono ?_; rintro e w7 ⟨rfl, hB⟩; have C7 := Lib.hid (Ab.trans C6.out hB); have D7 := Lib.hid (D6.out.ab hB); have O7 := Lib.hid (ownCards_kept O6.out hB); clear hB)
    | (go_at_call 11; refine (T1.out _ (cardsIn_below H0.out (eBox_ab B3.out C7.out).2)).mono ?_; rintro e w8 ⟨v, rfl, ⟨g8, rfl, _, _, hs8, _⟩, hB⟩; have C8 := Lib.hid (Ab.trans C7.out hB); have D8 := Lib.hid (D7.out.ab hB); have O8 := Lib.hid (ownCards_kept O7.out hB); have r8 := Lib.hid hs8; clear hB hs8)
    | (go_at_call 14; refine (E1.out _ _ _ _ _ D8.out.1 r8.out).mono ?_; rintro e w9 ⟨rfl, hB⟩; have C9 := Lib.hid (Ab.trans C8.out hB); have D9 := Lib.hid (D8.out.ab hB); have O9 := Lib.hid (ownCards_kept O8.out hB); clear hB)
    | (go_at_call 17; refine (M1.out _ _ D9.out.2.1 D9.out.2.2).mono ?_; rintro e w10 ⟨rfl, hO⟩; have O10 := Lib.hid (ownCards_oth O9.out hO D5.out.2.2); have C10 := Lib.hid (Below.trans C9.out (Below.mono (hO.below (Nat.le_of_lt D9.out.2.2)) G4.out)); clear hO))
  go_upto_region 27 with (first
    | (go_at_call 14; have hx := O10.out; obtain ⟨_, _, hv, hi⟩ := ownCards_in hx; cases hv; refine (EQ.out _ _ _ _ _ (cardsIn_of hi FT.out) (cardsIn_below S3.out C10.out)).mono ?_; rintro e w11 ⟨rfl, hB⟩; have C11 := Lib.hid (Ab.trans C10.out hB); have O11 := Lib.hid (ownCards_kept hx hB); clear hB hx hi)
    | (go_at_call 17; refine (MO.out _ _ _ O11.out).mono ?_; rintro e w12 ⟨rfl, ⟨ds, hds, hm, hO⟩, hB⟩; obtain ⟨am, cm, hv, hi⟩ := ownCards_in hO; rw [hds] at hv; cases hv; have HDS := Lib.hid hds; have MI := Lib.hid hi; have MM := Lib.hid hm; have C12 := Lib.hid (Below.trans C11.out (hB.mono C5.out.size)); clear hO hB hi hm hds)
    | (go_at_call 18; refine (HD.out _ _ _ HDS.out _ MI.out MM.out).mono ?_; rintro e w13 ⟨rfl, hB⟩; have C13 := Lib.hid (Ab.trans C12.out hB); have I13 := Lib.hid (cellsC_below MI.out hB); clear hB))
  have B13 := Lib.hid (eBox_ab B3.out C13.out)
  refine wp_region_make1Y_at (XX := Nat) (Y := Option Addr × Nat) 1 2 (fun g W => CardsIn W (some ⟨g, 0, none⟩) cs) (fun p W => CardsIn W p.1 xs) (fun _ _ _ h hb => cardsIn_below h hb) (fun _ _ _ h hb => cardsIn_below h hb) (fun g => .slice (some ⟨g, 0, none⟩) cs.length cs.length) (fun p => .tuple #[.slice p.1 xs.length p.2, .int .i64 q]) (by kernel_rfl) rfl rfl rfl (by kernel_rfl) rfl rfl 0 (none, 0) ?_
  simp only [Nat.reduceAdd, List.take_succ_cons, List.take_zero, List.drop_succ_cons, List.drop_zero]
  have hbw := cell_bw
  intro v1 hv1
  repeat (go_big_quiet_step (fail))
  refine wpQuiet_nil ?_
  refine ⟨?_, ?_⟩
  · intro v2 hv2
    go_simp
    simp only [Yld]
    refine ⟨trivial, (T1.out v2 (cardsIn_below H0.out (B13.out.2.trans (Below.mono hv2 B13.out.2.size)))).mono ?_⟩
    rintro e v3 ⟨v, rfl, ⟨g, rfl, _, _, hc, _⟩, hb⟩
    exact ⟨_, rfl, g, rfl, hb, hc⟩
  intro g v2 hv2
  simp only [Act.put, List.setIfInBounds_toArray, List.set_cons_succ, List.set_cons_zero]
  have c0 := cell_of_block (eBox_ab B13.out hv2).1
  have z0 := lt_of_block (eBox_ab B13.out hv2).1
  repeat (go_big_quiet_step (first | (go_at_call 12; exact calls_bw (TF.out _))))
  refine wpQuiet_nil ?_
  clear c0 z0
  refine ⟨?_, ?_⟩
  · intro v3 hv3 hx
    go_simp
    simp only [Yld]
    refine ⟨trivial, (I.out g v3 hx (EE.out _ (eBox_ab B13.out hv3).2)).mono ?_⟩
    rintro e v4 ⟨v, rfl, hO, hb⟩
    obtain ⟨a5, c5, rfl, hi⟩ := ownCards_in hO
    exact ⟨_, rfl, a5, ⟨c5, rfl⟩, hb, cardsIn_of hi FT.out⟩
  rintro ⟨ah, ch⟩
  simp only [List.setIfInBounds_toArray, List.set_cons_succ, List.set_cons_zero]
  refine ⟨rfl, _, fun _ => rfl, ?_⟩
  simp only [Act.put, List.setIfInBounds_toArray, List.set_cons_succ, List.set_cons_zero]
  refine ⟨rfl, _, fun _ => rfl, ?_⟩
  simp only [Act.put, List.setIfInBounds_toArray, List.set_cons_succ, List.set_cons_zero]
  refine ⟨rfl, _, fun _ => rfl, ?_⟩
  simp only [Act.put, List.setIfInBounds_toArray, List.set_cons_succ, List.set_cons_zero]
  refine ⟨rfl, _, fun _ => rfl, ?_⟩
  simp only [Act.put, List.setIfInBounds_toArray, List.set_cons_succ, List.set_cons_zero]
  refine ⟨rfl, _, fun _ => rfl, ?_⟩
  simp only [Act.put, List.setIfInBounds_toArray, List.set_cons_succ, List.set_cons_zero]
  intro w14 hw14 _ hJ14
  have J14 := Lib.hid hJ14
  have C14 := Lib.hid (Ab.trans C13.out hw14)
  have I14 := Lib.hid (cellsC_below I13.out hw14)
  clear hw14 hv1 hv2 hbw hJ14
  go_wp2_with (first
    | (go_at_call 14; refine (EQ.out _ _ _ _ _ J14.out (cardsIn_below S3.out C14.out)).mono ?_; rintro e w15 ⟨rfl, hB⟩; have C15 := Lib.hid (Ab.trans C14.out hB); have I15 := Lib.hid (cellsC_below I14.out hB); clear hB)
    | (go_at_call 18; refine (HD.out _ _ _ HDS.out _ I15.out MM.out).mono ?_; rintro e w16 ⟨rfl, hB⟩; have C16 := Lib.hid (Ab.trans C15.out hB); clear hB))
  all_goals go_returns
  all_goals exact ⟨rfl, (eBox_ab B3.out C16.out).2⟩
/-! ### The frame round the walk -/
section
set_option maxRecDepth 100000 in
theorem fnExactApplyEdit_lifted (os : Os) (started : os.Started) (H : Type) (enc : TypeId × Value → H) :
    ReturnsInHanded {} Tryd.checked os 4 .any (fun w args => (Rows.fnExactApplyEditSpec.pre enc Tryd.prog Tryd.f4 Rows.fnExactApplyEditRow.domain false w args ∧ laidMetH Tryd.prog Rows.fnExactApplyEditRow.laid w) ∧ sizedMet enc Tryd.prog Tryd.f4 (OpenSpec.ofChange Rows.fnExactApplyEditSpec) false w args) (Rows.fnExactApplyEditSpec.post enc Tryd.prog Tryd.f4 false true false false) := by
  refine returnsInHanded_of_change_and (C := Tryd.checked) (X := fun w _ => laidMetH Tryd.prog Rows.fnExactApplyEditRow.laid w) (fun _ _ _ hh h => h.of_heap hh) own started (by kernel_rfl) Tryd.func4
    (ChangeSpec.witness_at (enc := enc) (C := Tryd.checked) (os := os) (X := fun w _ => laidMetH Tryd.prog Rows.fnExactApplyEditRow.laid w) false (etWorld os) #[.slice none 0 0, .agg #[.int .i8 0, .string ByteArray.empty, .int .i16 0, .int .u64 0, .int .u64 0]] 8 rfl (by kernel_rfl) (by kernel_rfl) (by kernel_rfl) (by kernel_rfl) (by kernel_rfl) (etWorld_met os _)) ?_
  intro W base args ds gs before hval0 hW _ _ hL _
  have hEt := et_of_laid hL
  have hval : ∀ (j : Nat) t v, Tryd.f4.params[j]? = some t → args[j]? = some v → Value.okWide Tryd.prog W .any base t v := hval0
  have hW' := hW
  obtain ⟨p, q, hA0, hV, rfl, _, _⟩ := hW
  have hA : DataW.TrodAll enc Tryd.prog W 0 (fun _ => true) true Tryd.f4.params.toList args.toList ds p := hA0
  obtain ⟨rfl, rfl⟩ := trodVars_none hV
  have hlt : ∀ x ∈ p, x.block < W.heap.size := fun x hx => by simpa using hW'.lt x (by simpa using hx)
  rw [Tryd.params4] at hA hval
  obtain ⟨v0, vs0, d0, ds0, p0, q0, hargs, rfl, rfl, h0, r0⟩ := trodAll_cons hA
  obtain ⟨v1, vs1, d1, ds1, p1, q1, rfl, rfl, rfl, h1, r1⟩ := trodAll_cons r0
  obtain ⟨rfl, rfl, rfl⟩ := trodAll_nil r1
  obtain rfl : args = #[v0, v1] := by cases args; simp_all
  obtain ⟨a0, cs0, c0, rfl, hz0, hl0⟩ := open_cards (u := 22) (e := 61) (by kernel_rfl) Tryd.underlying61 (by kernel_rfl) (by kernel_rfl) (by kernel_rfl) (by kernel_rfl) (by kernel_rfl) (by kernel_rfl) (by kernel_rfl) (by kernel_rfl) (by kernel_rfl) (hval 0 23 v0 rfl rfl) h0
  obtain ⟨x1, rfl, hx1⟩ := open_edit (k := 24) (s := 9) (e := 25) (u := 22) Tryd.underlying28 (by kernel_rfl) (by kernel_rfl) (by kernel_rfl) (by kernel_rfl) (by kernel_rfl) (by kernel_rfl) (hval 1 28 v1 rfl rfl)
  refine (fnExactApplyEdit_walk a0 cs0 c0 x1 hx1 W hEt hz0 hl0).mono fun e W' ⟨he, hb⟩ => ?_
  subst he
  exact ⟨_, rfl, law_post laidOut rfl Tryd.underlying4 (of_all (by kernel_rfl)) rfl hW' rfl rfl rfl hb⟩

theorem fnExactApplyEdit_over : Rows.fnExactApplyEditRow.holds Tryd.pinned (OpenSpec.ofChange Rows.fnExactApplyEditSpec) :=
  OpenClaim.holds_of_wide 4 Tryd.f4 rfl rfl rfl rfl rfl rfl rfl ⟨rfl, rfl, rfl, rfl, rfl⟩ rfl rfl rfl rfl rfl (by kernel_rfl) Tryd.func4 (by kernel_rfl)
    (of_decide_eq_true (by kernel_rfl)) (by unfold Func.isWrapper; rw [if_neg (of_decide_eq_false (by kernel_rfl))]; exact ⟨rfl, rfl⟩)
    (fun os started H enc _ => fnExactApplyEdit_lifted os started H enc)

/-- The card. -/
theorem fnExactApplyEdit_holds : Rows.FnExactApplyEditCardSaid :=
  Claim7.holds_tied_plain_at .later [] [.handle] true _ true fnExactApplyEdit_over (fun _ h => by cases h) (by kernel_rfl) (fun _ h => by cases h) fnExactApplyEdit_row_tie rfl ⟨rfl, rfl⟩ (by kernel_rfl) rfl
    (fun f fn hf hfn => by
      obtain rfl : f = 4 := Option.some.inj ((show Tryd.prog.funcNamed Tryd.f4.name = some 4 by kernel_rfl).symm.trans hf) |>.symm
      obtain rfl : fn = Tryd.f4 := (Option.some.inj (Tryd.func4.symm.trans hfn)).symm
      exact ⟨by kernel_rfl, fun j t ht => by
        rw [Tryd.params4] at ht
        have hm : t ∈ [23, 28] := by simpa using Array.mem_of_getElem? ht
        have hall : ([23, 28].all fun u => !Tryd.prog.wantsStandIn u) = true := by kernel_rfl
        exact (show Tryd.prog.wantsStandIn t = false by simpa using List.all_eq_true.1 hall t hm)⟩)
    (by kernel_rfl)
end
end Go.Proofs.YtpgonfeobfefaaaDoor


