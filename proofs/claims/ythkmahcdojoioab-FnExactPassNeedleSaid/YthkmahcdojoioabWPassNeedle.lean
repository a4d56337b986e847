/- PassNeedle answers, for every deck and every hole, as its model does; its answer is memory of its own. No conditions. -/
import Derived.Test.YthkmahcdojoioabPassI
import Derived.Test.YthkmahcdojoioabMark
import Derived.Test.YthkmahcdojoioabHeldC
import Derived.Test.YthkmahcdojoioabDeck3
import Derived.Deep.DeepCutAuto
namespace Go.Proofs.Ythkmahcdojoioab
open Go.ChangeShapes Go.WideShapes Go.ChangeAt Go.RowKit

theorem cardsIn_up {B : Nat} {w w' : World} {a : Option Addr} {cs : List Cd} (h : CardsIn w a cs) (hB : w.heap.size ≤ B) (hb : Below B w w') : CardsIn w' a cs := cardsIn_below h (hb.mono hB)
theorem wr_cards {w : World} {g : Nat} {cs : List Cd} (h : CardsIn w (some ⟨g, 0, none⟩) cs) (hf : ∀ j, w.frozen? ⟨g, j, none⟩ = false) : Wb w g (cs.length * 3) := by
  refine ⟨fun j hj => ?_, fun j _ => hf j⟩
  obtain ⟨_, b, off, he, _, h0, h1, h2⟩ := h (j / 3) (by omega)
  cases he
  rcases (show j % 3 = 0 ∨ j % 3 = 1 ∨ j % 3 = 2 by omega) with e | e | e
  · exact ⟨.string (cdAt cs (j / 3)).s, by rw [show (⟨g, j, none⟩ : Addr) = ⟨g, 0 + j / 3 * 3, none⟩ from by congr 1; omega]; exact h0⟩
  · exact ⟨.int .u64 (cdAt cs (j / 3)).a, by rw [show (⟨g, j, none⟩ : Addr) = ⟨g, 0 + j / 3 * 3 + 1, none⟩ from by congr 1; omega]; exact h1⟩
  · exact ⟨.int .u64 (cdAt cs (j / 3)).b, by rw [show (⟨g, j, none⟩ : Addr) = ⟨g, 0 + j / 3 * 3 + 2, none⟩ from by congr 1; omega]; exact h2⟩

/-- One step behind a world whose own things stay. -/
theorem ch_next {B : Nat} {w a b : World} (h : Below B w a) (hB : B ≤ w.heap.size) (k : Below a.heap.size a b) : Below B w b := h.trans (Below.mono k (Nat.le_trans hB h.size))

theorem cdAt_mem {cs : List Cd} {i : Nat} (h : i < cs.length) : cdAt cs i ∈ cs := by
  unfold cdAt; rw [List.getD, List.getElem?_eq_getElem h]; exact List.getElem_mem h
theorem psL_mem {h c : Int} {cs : List Cd} {x : Cd} (hx : x ∈ psL h cs c) : x ∈ cs := by
  unfold psL at hx
  split at hx
  · rcases List.mem_append.1 hx with hx | hx
    · exact List.mem_of_mem_take (List.mem_filter.1 hx).1
    · exact List.mem_of_mem_take (List.mem_filter.1 hx).1
  · cases hx
theorem psL_len (h c : Int) (cs : List Cd) : (psL h cs c).length ≤ cs.length := by
  unfold psL
  split
  · rw [List.length_append, len_both h cs cs.length (Nat.le_refl _)]; exact Nat.le_refl _
  · simp

set_option maxRecDepth 100000 in
set_option maxHeartbeats 3200000 in
theorem fnExactPassNeedle_walk (a1 : Option Addr) (cs : List Cd) (c1 : Nat) (h : Int) (_hh : I64 h) (w : World) (h1 : CardsIn w a1 cs) (l1 : cs.length ≤ maxLen) :
    Calls Try.prog 7 #[.slice a1 cs.length c1, .int .i64 h] w fun e w' => e = .returned (.bool true) ∧ Below w.heap.size w w' := by
  clear _hh
  unfold maxLen at l1
  have Z1 := Lib.hid fun W hs => szCardS_any a1 cs c1 1048576 W hs (by decide) (by decide) (by omega)
  have H1 := Lib.hid h1
  have fits : ∀ c : Int, ∀ i, i < (psL h cs c).length → (cdAt (psL h cs c) i).fits := fun c i hi => by
    obtain ⟨k, hk, e⟩ := List.mem_iff_getElem.1 (psL_mem (cdAt_mem hi))
    have := (h1 k hk).1
    unfold cdAt at this
    rw [List.getD, List.getElem?_eq_getElem hk] at this
    rw [← e]
    exact this
  clear h1 l1
  go_enter Try.func7, Try.ntmps7
  go_upto_region 3 with (go_at_call 15; refine (Z1.out _ H1.out).mono ?_; rintro e w1 ⟨z, rfl, z0, z1, z2, hB⟩; have B1 := Lib.hid hB; clear hB)
  by_cases hz0 : z < 0
  · have d1 : decide (z < 0) = true := decide_eq_true hz0
    go_wp2
    go_returns
    exact ⟨rfl, B1.out⟩
  have d1 : decide (z < 0) = false := decide_eq_false hz0
  have n1 : cs.length ≤ 1048576 := z2 (by omega)
  clear z0 z1 z2 hz0
  have T1 := Lib.hid fun W hs => toCardS_any a1 cs c1 W hs n1
  have E1 := Lib.hid fun a b c d W ha hb => eqCardS_same a b cs c d W ha hb n1
  have S := fun x c1 W hx => sPass_any x cs c1 h W hx
  have I := fun x c1 W hx => iPass_any x cs c1 h W hx
  have al := psL_len h (psC (deckOk cs) h) cs
  have fits := fits (psC (deckOk cs) h)
  generalize psL h cs (psC (deckOk cs) h) = xs at *
  generalize psN h cs (psC (deckOk cs) h) = nn at *
  generalize psC (deckOk cs) h = cd at *
  have hm : xs.length ≤ 1048576 := by omega
  have E2 := Lib.hid fun a b c d W ha hb => eqCardS_same a b xs c d W ha hb hm
  have S := Lib.hid S
  have I := Lib.hid I
  have FITS := Lib.hid fits
  have hk : 1 + 3 * cs.length ≤ 4000000 := by omega
  have hk2 : 1 + 3 * xs.length ≤ 4000000 := by omega
  have MK := fun g W hW hg => markCards_any cs.length g 1 cs.length W hW hg hk
  have MO := fun B v W hO => markCardsOwn_any B xs v 1 W hO hk2
  have HC := fun a (ds : List Cd) c W (hl : ds.length = xs.length) hC hM => (hl ▸ heldCards_any a ds c 1 W hC hM (by rw [hl]; exact hk2) : Calls Try.prog 39 #[.slice a xs.length c, .int .i64 ((1 : Nat) : Int)] W fun e w' => e = .returned (.int .i64 ((1 + 3 * xs.length : Nat) : Int)) ∧ Below W.heap.size W w')
  generalize 1 + 3 * xs.length = kx at *
  generalize 1 + 3 * cs.length = kk at *
  have MK := Lib.hid MK
  have MO := Lib.hid MO
  have HC := Lib.hid HC
  have k0 : decide ((kk : Int) < 0) = false := by simp
  have k1 : decide ((kx : Int) < 0) = false := by simp
  have n3 : ((kx : Int) != (kx : Int)) = false := by simp
  have n4 : (cd != cd) = false := by simp
  have n5 : (nn != nn) = false := by simp
  clear hk hk2 al fits n1 hm
  have tk1 : True := trivial
  have tk2 : True := trivial
  have tk3 : True := trivial
  have tk4 : True := trivial
  have tk5 : True := trivial
  have tk6 : True := trivial
  have tk7 : True := trivial
  have tk8 : True := trivial
  have tk9 : True := trivial
  have tk10 : True := trivial
  have tk11 : True := trivial
  have tk12 : True := trivial
  have tk13 : True := trivial
  have tk14 : True := trivial
  have tk15 : True := trivial
  go_wp2_with (first
    | (go_at_call 18; have _t := tk1; clear _t tk1; refine (T1.out _ (cardsIn_below H1.out B1.out)).mono ?_; rintro e w3 ⟨v, rfl, ⟨g3, rfl, _, _, hs, _⟩, hB⟩; have B3 := Lib.hid (ch_next B1.out (Nat.le_refl _) hB); have X3 := Lib.hid hs; clear hB hs)
    | (go_at_call 37; have _t := tk2; clear _t tk2; refine (S.out _ _ _ X3.out).mono ?_; rintro e w5 ⟨v5, rfl, hO, hB⟩; obtain ⟨a5, c5, rfl, hi⟩ := ownCards_in hO; have B5 := Lib.hid (ch_next B3.out (Nat.le_refl _) hB); have S5 := Lib.hid (cardsIn_of hi FITS.out); clear hB hi hO X3 B3)
    | (go_at_call 18; have _t := tk3; clear _t tk3; refine (T1.out _ (cardsIn_below H1.out B5.out)).mono ?_; rintro e w6 ⟨v, rfl, ⟨g6, rfl, hg, hl, hs, hf⟩, hB⟩; have C6 := Lib.hid hB; have G6 := Lib.hid hg; have L6 := Lib.hid hl; have X6 := Lib.hid hs; have W6 := Lib.hid (wr_cards hs hf); clear hB hs hf hg hl)
    | (go_at_call 38; have _t := tk4; clear _t tk4; refine (I.out _ _ _ X6.out).mono ?_; rintro e w8 ⟨v8, rfl, hO, hB⟩; obtain ⟨a8, c8, rfl, hi⟩ := ownCards_in hO; have O8 := Lib.hid hO; have I8 := Lib.hid (cardsIn_of hi FITS.out); have D8 := Lib.hid hB; have C8 := Lib.hid (ch_next C6.out (Nat.le_refl _) hB); have X8 := Lib.hid (cardsIn_below X6.out hB); clear hB hi hO)
    | (go_at_call 21; have _t := tk5; clear _t tk5; refine (E2.out _ _ _ _ _ I8.out (cardsIn_up S5.out (Nat.le_refl _) C8.out)).mono ?_; rintro e w9 ⟨rfl, hB⟩; have C9 := Lib.hid (ch_next C8.out (Nat.le_refl _) hB); have D9 := Lib.hid (ch_next D8.out (Nat.le_refl _) hB); have X9 := Lib.hid (cardsIn_below X8.out hB); have O9 := Lib.hid (ownCards_kept O8.out hB); clear hB)
    | (go_at_call 18; have _t := tk6; clear _t tk6; refine (T1.out _ (cardsIn_below H1.out (ch_next B5.out (Nat.le_refl _) C9.out))).mono ?_; rintro e w10 ⟨v, rfl, ⟨g10, rfl, _, _, hs, _⟩, hB⟩; have Z10 := Lib.hid hs; have C10 := Lib.hid (ch_next C9.out (Nat.le_refl _) hB); have D10 := Lib.hid (ch_next D9.out (Nat.le_refl _) hB); have X10 := Lib.hid (cardsIn_below X9.out hB); have O10 := Lib.hid (ownCards_kept O9.out hB); clear hB hs)
    | (go_at_call 21; have _t := tk7; clear _t tk7; refine (E1.out _ _ _ _ _ X10.out Z10.out).mono ?_; rintro e w11 ⟨rfl, hB⟩; have C11 := Lib.hid (ch_next C10.out (Nat.le_refl _) hB); have D11 := Lib.hid (ch_next D10.out (Nat.le_refl _) hB); have O11 := Lib.hid (ownCards_kept O10.out hB); clear hB)
    | (go_at_call 28; have _t := tk8; clear _t tk8; refine (MK.out _ _ (W6.out.below D11.out L6.out) (Nat.lt_of_lt_of_le L6.out D11.out.size)).mono ?_; rintro e w12 ⟨rfl, hO⟩; have O12 := Lib.hid (ownCards_oth O11.out hO L6.out); have C12 := Lib.hid (C11.out.trans (Below.mono (hO.below (Nat.le_of_lt (Nat.lt_of_lt_of_le L6.out D11.out.size))) G6.out)); clear hO)
    | (go_at_call 21; have _t := tk9; clear _t tk9; have hx := O12.out; obtain ⟨_, _, hv, hi⟩ := ownCards_in hx; cases hv; refine (E2.out _ _ _ _ _ (cardsIn_of hi FITS.out) (cardsIn_up S5.out (Nat.le_refl _) C12.out)).mono ?_; rintro e w13 ⟨rfl, hB⟩; have C13 := Lib.hid (ch_next C12.out (Nat.le_refl _) hB); have O13 := Lib.hid (ownCards_kept O12.out hB); clear hB hx hi)
    | (go_at_call 28; have _t := tk10; clear _t tk10; refine (MO.out _ _ _ O13.out).mono ?_; rintro e w14 ⟨rfl, ⟨ds, hdl, hdm, hO⟩, hB⟩; obtain ⟨am, cm, hv, hi⟩ := ownCards_in hO; rw [hdl] at hv; cases hv; have M14 := Lib.hid hi; have DL := Lib.hid hdl; have DM := Lib.hid hdm; have C14 := Lib.hid (C13.out.trans (hB.mono C6.out.size)); clear hO hB hi hdl hdm)
    | (go_at_call 39; have _t := tk11; clear _t tk11; refine (HC.out _ _ _ _ DL.out M14.out DM.out).mono ?_; rintro e w15 ⟨rfl, hB⟩; have M15 := Lib.hid (cellsC_below M14.out hB); have C15 := Lib.hid (ch_next C14.out (Nat.le_refl _) hB); clear hB)
    | (go_at_call 18; have _t := tk12; clear _t tk12; refine (T1.out _ (cardsIn_below H1.out (ch_next B5.out (Nat.le_refl _) C15.out))).mono ?_; rintro e w16 ⟨v, rfl, ⟨g16, rfl, _, _, hs, _⟩, hB⟩; have X16 := Lib.hid hs; have M16 := Lib.hid (cellsC_below M15.out hB); have C16 := Lib.hid (ch_next C15.out (Nat.le_refl _) hB); clear hB hs)
    | (go_at_call 38; have _t := tk13; clear _t tk13; refine (I.out _ _ _ X16.out).mono ?_; rintro e w17 ⟨v17, rfl, hO, hB⟩; obtain ⟨a17, c17, rfl, hi⟩ := ownCards_in hO; have I17 := Lib.hid (cardsIn_of hi FITS.out); have M17 := Lib.hid (cellsC_below M16.out hB); have C17 := Lib.hid (ch_next C16.out (Nat.le_refl _) hB); clear hB hi hO)
    | (go_at_call 21; have _t := tk14; clear _t tk14; refine (E2.out _ _ _ _ _ I17.out (cardsIn_up S5.out (Nat.le_refl _) C17.out)).mono ?_; rintro e w18 ⟨rfl, hB⟩; have M18 := Lib.hid (cellsC_below M17.out hB); have C18 := Lib.hid (ch_next C17.out (Nat.le_refl _) hB); clear hB)
    | (go_at_call 39; have _t := tk15; clear _t tk15; refine (HC.out _ _ _ _ DL.out M18.out DM.out).mono ?_; rintro e w19 ⟨rfl, hB⟩; have C19 := Lib.hid (ch_next C18.out (Nat.le_refl _) hB); clear hB))
  all_goals go_returns
  all_goals exact ⟨rfl, ch_next B5.out (Nat.le_refl _) C19.out⟩
/-! ### The frame round the walk -/
section
set_option maxRecDepth 100000 in
theorem fnExactPassNeedle_lifted (os : Os) (started : os.Started) (H : Type) (enc : TypeId × Value → H) :
    ReturnsInHanded {} Try.checked os 7 .any (Rows.fnExactPassNeedleSpec.pre6 enc Try.prog Try.f7 Rows.fnExactPassNeedleRow.domain false) (Rows.fnExactPassNeedleSpec.post enc Try.prog Try.f7 false true false false) := by
  refine returnsInHanded_of_change_sized (C := Try.checked) own started (by kernel_rfl) Try.func7
    (ChangeSpec.witness6 (enc := enc) (C := Try.checked) false ⟨#[], #[.slice none 0 0, .int .i64 0], []⟩ 8 (by kernel_rfl) (by kernel_rfl) (by kernel_rfl) (by kernel_rfl)) ?_
  intro W base args ds gs before hval hW _ hsz _
  have hW' := hW
  obtain ⟨p, q, hA, hV, rfl, _, _⟩ := hW
  obtain ⟨rfl, rfl⟩ := trodVars_none hV
  have hlt : ∀ x ∈ p, x.block < W.heap.size := fun x hx => by simpa using hW'.lt x (by simpa using hx)
  rw [Try.params7] at hA hval hsz
  obtain ⟨v0, vs0, d0, ds0, p0, q0, hargs, rfl, rfl, h0, r0⟩ := trodAll_cons hA
  obtain ⟨v1, vs1, d1, ds1, p1, q1, rfl, rfl, rfl, h1, r1⟩ := trodAll_cons r0
  obtain ⟨rfl, rfl, rfl⟩ := trodAll_nil r1
  obtain rfl : args = #[v0, v1] := by cases args; simp_all
  obtain ⟨a0, cs0, c0, rfl, hz0, hl0⟩ := open_cards (u := 40) (e := 89) (by kernel_rfl) Try.underlying89 (by kernel_rfl) (by kernel_rfl) (by kernel_rfl) (by kernel_rfl) (by kernel_rfl) (by kernel_rfl) (by kernel_rfl) (by kernel_rfl) (by kernel_rfl) (hval 0 22 v0 rfl rfl) h0
  obtain ⟨n1, rfl, hn1⟩ := open_i64 (by kernel_rfl) (hval 1 2 v1 rfl rfl)
  refine (fnExactPassNeedle_walk a0 cs0 c0 n1 hn1 W hz0 hl0).mono fun e W' ⟨he, hb⟩ => ?_
  subst he
  exact ⟨_, rfl, law_post laidOut rfl Try.underlying4 (of_all (by kernel_rfl)) rfl hW' rfl rfl rfl hb⟩

theorem fnExactPassNeedle_over : Rows.fnExactPassNeedleRow.holds Try.pinned (OpenSpec.ofChange Rows.fnExactPassNeedleSpec) :=
  OpenClaim.holds_of_wide 7 Try.f7 rfl rfl rfl rfl rfl rfl rfl ⟨rfl, rfl, rfl, rfl, rfl⟩ rfl rfl rfl rfl rfl (by kernel_rfl) Try.func7 (by kernel_rfl)
    (of_decide_eq_true (by kernel_rfl)) (by unfold Func.isWrapper; rw [if_neg (of_decide_eq_false (by kernel_rfl))]; exact ⟨rfl, rfl⟩)
    (fun os started H enc _ => fnExactPassNeedle_lifted os started H enc)

/-- The statement. -/
theorem fnExactPassNeedle_holds : Rows.FnExactPassNeedleSaid := fnExactPassNeedle_over
end
end Go.Proofs.Ythkmahcdojoioab
