/- DuplicatesOf answers, for every deck, as its model does; its answer is memory of its own. No conditions. -/
import Derived.Test.YtanocllpmjhblaaDupS
import Derived.Test.YtanocllpmjhblaaMark
import Derived.Deep.DeepCutAuto
namespace Go.Proofs.Ytanocllpmjhblaa
open Go.ChangeShapes Go.WideShapes Go.ChangeAt Go.RowKit

theorem wr_cards {w : World} {g : Nat} {cs : List Cd} (h : CardsIn w (some ⟨g, 0, none⟩) cs) (hf : ∀ j, w.frozen? ⟨g, j, none⟩ = false) : Wb w g (cs.length * 3) := by
  refine ⟨fun j hj => ?_, fun j _ => hf j⟩
  obtain ⟨_, b, off, he, _, h0, h1, h2⟩ := h (j / 3) (by omega)
  cases he
  rcases (show j % 3 = 0 ∨ j % 3 = 1 ∨ j % 3 = 2 by omega) with e | e | e
  · exact ⟨.string (cdAt cs (j / 3)).s, by rw [show (⟨g, j, none⟩ : Addr) = ⟨g, 0 + j / 3 * 3, none⟩ from by congr 1; omega]; exact h0⟩
  · exact ⟨.int .u64 (cdAt cs (j / 3)).a, by rw [show (⟨g, j, none⟩ : Addr) = ⟨g, 0 + j / 3 * 3 + 1, none⟩ from by congr 1; omega]; exact h1⟩
  · exact ⟨.int .u64 (cdAt cs (j / 3)).b, by rw [show (⟨g, j, none⟩ : Addr) = ⟨g, 0 + j / 3 * 3 + 2, none⟩ from by congr 1; omega]; exact h2⟩
theorem ssIn_up {B : Nat} {w w' : World} {a : Option Addr} {gs : List (List Int)} (h : SsIn w a gs) (hB : w.heap.size ≤ B) (hb : Below B w w') : SsIn w' a gs := ssIn_below h (Below.mono hb hB)
theorem ownSS_oth {B g : Nat} {gs : List (List Int)} {v : Value} {w w' : World} (h : OwnSS B gs v w) (hb : Oth g w w') (hg : g < B) : OwnSS B gs v w' := by
  obtain ⟨xs, h1, h2, h3, h4⟩ := h
  refine ⟨xs, ?_, h2, fun i hi => (h3 i hi).imp fun u hu => ⟨hu.1, own_oth hu.2 hb hg⟩, h4⟩
  obtain ⟨a1, a2⟩ := h1
  refine ⟨a1, ?_⟩
  rcases a2 with hn | ⟨b, cap, cur, rfl, hB, hh, rest⟩
  · exact .inl hn
  · exact .inr ⟨b, cap, cur, rfl, hB, (hb.block b (by omega) (Array.getElem?_eq_some_iff.1 hh).1).trans hh, rest⟩
theorem mkSS_bound {gs : List (List Int)} {m : Nat} (h : ∀ i, i < gs.length → (gs.getD i []).length ≤ m) : ∀ j, j ≤ gs.length → (mkSS 0 gs j).1 ≤ j * m
  | 0, _ => Nat.zero_le _
  | j + 1, hj => by
    have h1 := mkSS_bound h j (by omega)
    have h2 := h j (by omega)
    show (mkSS 0 gs j).1 + (gs.getD j []).length ≤ _
    rw [Nat.succ_mul]; omega
theorem ch_next {B : Nat} {w a b : World} (h : Below B w a) (hB : B ≤ w.heap.size) (k : Below a.heap.size a b) : Below B w b := h.trans (Below.mono k (Nat.le_trans hB h.size))
theorem du_len (cs : List Cd) : (duL cs).length ≤ 80 ∧ ∀ i, i < (duL cs).length → ((duL cs).getD i []).length ≤ 80 := by
  unfold duL
  by_cases h : deckOk cs = true
  · rw [if_pos h]
    have := deck_80 h
    exact ⟨Nat.le_trans (dup_len _) this, fun i hi => Nat.le_trans (dup_each _ i hi) this⟩
  · rw [if_neg h]; exact ⟨by simp, fun i hi => absurd hi (Nat.not_lt_zero _)⟩
theorem mk_in {a : Option Addr} {gs : List (List Int)} {n c : Nat} {B k : Nat} {w : World} (h : OwnSS B (mkSS k gs gs.length).2 (.slice a gs.length c) w) (hn : n = gs.length) : SsIn w a (mkSS k gs gs.length).2 := by
  obtain ⟨a2, c2, hv, hi⟩ := h.in
  injection hv with hv _ _
  rw [hv]; exact hi

set_option maxRecDepth 100000 in
set_option maxHeartbeats 3200000 in
theorem fnExactDuplicatesOf_walk (a1 : Option Addr) (cs : List Cd) (c1 : Nat) (w : World) (h1 : CardsIn w a1 cs) (l1 : cs.length ≤ maxLen) :
    Calls Try.prog 4 #[.slice a1 cs.length c1] w fun e w' => e = .returned (.bool true) ∧ Below w.heap.size w w' := by
  unfold maxLen at l1
  have H1 := Lib.hid h1
  have Z1 := Lib.hid fun W hs => szCardS_any a1 cs c1 1048576 W hs (by decide) (by decide) (by omega)
  clear l1 h1
  go_enter Try.func4, Try.ntmps4
  go_upto_region 3 with (go_at_call 19; refine (Z1.out _ H1.out).mono ?_; rintro e w1 ⟨z, rfl, z0, z1, z2, hB⟩; have B1 := Lib.hid hB; clear hB)
  by_cases hz0 : z < 0
  · have d1 : decide (z < 0) = true := decide_eq_true hz0
    go_wp2
    go_returns
    exact ⟨rfl, B1.out⟩
  have d1 : decide (z < 0) = false := decide_eq_false hz0
  have n1 : cs.length ≤ 1048576 := z2 (by omega)
  clear z0 z1 z2 hz0
  have T1 := Lib.hid fun W hs => toCardS_any a1 cs c1 W hs n1
  have E1 := Lib.hid fun a b c d W ha hb => eqCardS_same a b cs c d W ha hb n1
  have S := fun x c1 W hx => sDup_any x cs c1 W hx
  have I := fun x c1 W hx => iDup_any x cs c1 W hx
  obtain ⟨g1, g2⟩ := du_len cs
  generalize duL cs = gs at *
  generalize duC cs = cd at *
  have gt : 1 + totSS gs ≤ 1000000 := by
    have := mkSS_bound g2 gs.length (Nat.le_refl _)
    have h3 : gs.length * 80 ≤ 80 * 80 := Nat.mul_le_mul_right _ g1
    unfold totSS; omega
  have hg : gs.length ≤ 1048576 := by omega
  have hm : ∀ i, i < gs.length → (gs.getD i []).length ≤ 1048576 := fun i hi => Nat.le_trans (g2 i hi) (by omega)
  have EQ := Lib.hid fun a b c d W ha hb => eqSS_same a b gs c d W ha hb hg hm
  have MO := Lib.hid fun B v W h => markSS_any B gs v 1 W h hg hm gt
  have HD := Lib.hid fun a c W h => heldSS_any a gs 1 c gs.length rfl W h hg hm gt
  have hk : 1 + 3 * cs.length ≤ 4000000 := by omega
  have S := Lib.hid S
  have I := Lib.hid I
  obtain ⟨kk, hkk⟩ : ∃ kk : Nat, kk = 1 + 3 * cs.length := ⟨_, rfl⟩
  have MK := fun g W hW hg => markCards_any cs.length g 1 cs.length W hW hg hk
  rw [← hkk] at MK
  have MK := Lib.hid MK
  have k0 : decide ((kk : Int) < 0) = false := by simp
  generalize 1 + totSS gs = mm at *
  have n0 : decide ((mm : Int) < 0) = false := by simp
  have n3 : ((mm : Int) != (mm : Int)) = false := by simp
  have n2 : (cd != cd) = false := by simp
  clear hkk hk g1 g2 gt hg hm n1
  have tok1 : True := trivial
  have tok2 : True := trivial
  have tok3 : True := trivial
  have tok4 : True := trivial
  have tok5 : True := trivial
  have tok6 : True := trivial
  have tok7 : True := trivial
  go_wp2_with (first
    | (go_at_call 21; have _t := tok1; clear _t tok1; refine (T1.out _ (cardsIn_below H1.out B1.out)).mono ?_; rintro e w2 ⟨v, rfl, ⟨g2, rfl, _, _, hs, _⟩, hB⟩; have B2 := Lib.hid (ch_next B1.out (Nat.le_refl _) hB); have X2 := Lib.hid hs; clear hB hs)
    | (go_at_call 20; refine (S.out _ _ _ X2.out).mono ?_; rintro e w3 ⟨v3, rfl, hO, hB⟩; obtain ⟨a3, c3, rfl, hi⟩ := hO.in; have S3 := Lib.hid hi; have B3 := Lib.hid (ch_next B2.out (Nat.le_refl _) hB); clear hO hi hB)
    | (go_at_call 21; have _t := tok2; clear _t tok2; refine (T1.out _ (cardsIn_below H1.out B3.out)).mono ?_; rintro e w4 ⟨v, rfl, ⟨g4, rfl, hg4, hl4, hs4, hf4⟩, hB⟩; have C4 := Lib.hid hB; have G4 := Lib.hid hg4; have L4 := Lib.hid hl4; have X4 := Lib.hid hs4; have W4 := Lib.hid (wr_cards hs4 hf4); clear hB hs4 hf4 hg4 hl4)
    | (go_at_call 22; have _t := tok3; clear _t tok3; refine (I.out _ _ _ X4.out).mono ?_; rintro e w6 ⟨v6, rfl, hO, hB⟩; obtain ⟨a6, c6, rfl, hi⟩ := hO.in; have O6 := Lib.hid hO; have I6 := Lib.hid hi; have C6 := Lib.hid (ch_next C4.out (Nat.le_refl _) hB); have D6 := Lib.hid hB; have X6 := Lib.hid (cardsIn_below X4.out hB); clear hB hO hi)
    | (go_at_call 23; have _t := tok4; clear _t tok4; refine (EQ.out _ _ _ _ _ I6.out (ssIn_up S3.out (Nat.le_refl _) C6.out)).mono ?_; rintro e w7 ⟨rfl, hB⟩; have C7 := Lib.hid (ch_next C6.out (Nat.le_refl _) hB); have D7 := Lib.hid (ch_next D6.out (Nat.le_refl _) hB); have O7 := Lib.hid (O6.out.kept hB); have X7 := Lib.hid (cardsIn_below X6.out hB); clear hB)
    | (go_at_call 21; have _t := tok5; clear _t tok5; refine (T1.out _ (cardsIn_below H1.out (ch_next B3.out (Nat.le_refl _) (Below.mono C7.out (Nat.le_refl _))))).mono ?_; rintro e w8 ⟨v, rfl, ⟨g8, rfl, _, _, hs8, _⟩, hB⟩; have C8 := Lib.hid (ch_next C7.out (Nat.le_refl _) hB); have D8 := Lib.hid (ch_next D7.out (Nat.le_refl _) hB); have O8 := Lib.hid (O7.out.kept hB); have X8 := Lib.hid (cardsIn_below X7.out hB); have Y8 := Lib.hid hs8; clear hB hs8)
    | (go_at_call 24; refine (E1.out _ _ _ _ _ X8.out Y8.out).mono ?_; rintro e w9 ⟨rfl, hB⟩; have C9 := Lib.hid (ch_next C8.out (Nat.le_refl _) hB); have D9 := Lib.hid (ch_next D8.out (Nat.le_refl _) hB); have O9 := Lib.hid (O8.out.kept hB); clear hB)
    | (go_at_call 25; refine (MK.out _ _ (W4.out.below D9.out L4.out) (Nat.lt_of_lt_of_le L4.out D9.out.size)).mono ?_; rintro e w10 ⟨rfl, hO⟩; have O10 := Lib.hid (ownSS_oth O9.out hO L4.out); have C10 := Lib.hid (C9.out.trans (Below.mono (hO.below (Nat.le_of_lt (Nat.lt_of_lt_of_le L4.out D9.out.size))) G4.out)); clear hO)
    | (go_at_call 23; have _t := tok6; clear _t tok6; have hx := O10.out; obtain ⟨_, _, hv, hi⟩ := hx.in; cases hv; refine (EQ.out _ _ _ _ _ hi (ssIn_up S3.out (Nat.le_refl _) C10.out)).mono ?_; rintro e w11 ⟨rfl, hB⟩; have C11 := Lib.hid (ch_next C10.out (Nat.le_refl _) hB); have O11 := Lib.hid (hx.kept hB); clear hB hx hi)
    | (go_at_call 26; refine (MO.out _ _ _ O11.out).mono ?_; rintro e w12 ⟨rfl, hO, hB⟩; have MI := Lib.hid (mk_in hO rfl); have C12 := Lib.hid (C11.out.trans (hB.mono C4.out.size)); clear hO hB)
    | (go_at_call 27; have _t := tok7; clear _t tok7; refine (HD.out _ _ _ MI.out).mono ?_; rintro e wh ⟨rfl, rfl⟩)
    | (go_at_call 21; refine (T1.out _ (cardsIn_below H1.out (ch_next B3.out (Nat.le_refl _) (Below.mono C12.out (Nat.le_refl _))))).mono ?_; rintro e w13 ⟨v, rfl, ⟨g13, rfl, _, _, hs, _⟩, hB⟩; have C13 := Lib.hid (ch_next C12.out (Nat.le_refl _) hB); have X13 := Lib.hid hs; have M13 := Lib.hid (ssIn_below MI.out hB); clear hB hs)
    | (go_at_call 22; refine (I.out _ _ _ X13.out).mono ?_; rintro e w14 ⟨v14, rfl, hO, hB⟩; obtain ⟨a14, c14, rfl, hi⟩ := hO.in; have I14 := Lib.hid hi; have C14 := Lib.hid (ch_next C13.out (Nat.le_refl _) hB); have M14 := Lib.hid (ssIn_below M13.out hB); clear hB hO hi)
    | (go_at_call 23; refine (EQ.out _ _ _ _ _ I14.out (ssIn_up S3.out (Nat.le_refl _) C14.out)).mono ?_; rintro e w15 ⟨rfl, hB⟩; have C15 := Lib.hid (ch_next C14.out (Nat.le_refl _) hB); have M15 := Lib.hid (ssIn_below M14.out hB); clear hB)
    | (go_at_call 27; refine (HD.out _ _ _ M15.out).mono ?_; rintro e wh ⟨rfl, rfl⟩))
  all_goals go_returns
  all_goals exact ⟨rfl, ch_next B3.out (Nat.le_refl _) (Below.mono C15.out (Nat.le_refl _))⟩
/-! ### The frame round the walk -/
section
set_option maxRecDepth 100000 in
theorem fnExactDuplicatesOf_lifted (os : Os) (started : os.Started) (H : Type) (enc : TypeId × Value → H) :
    ReturnsInHanded {} Try.checked os 4 .any (Rows.fnExactDuplicatesOfSpec.pre6 enc Try.prog Try.f4 Rows.fnExactDuplicatesOfRow.domain false) (Rows.fnExactDuplicatesOfSpec.post enc Try.prog Try.f4 false true false false) := by
  refine returnsInHanded_of_change_sized (C := Try.checked) own started (by kernel_rfl) Try.func4
    (ChangeSpec.witness6 (enc := enc) (C := Try.checked) false ⟨#[], #[.slice none 0 0], []⟩ 8 (by kernel_rfl) (by kernel_rfl) (by kernel_rfl) (by kernel_rfl)) ?_
  intro W base args ds gs before hval hW _ hsz _
  have hW' := hW
  obtain ⟨p, q, hA, hV, rfl, _, _⟩ := hW
  obtain ⟨rfl, rfl⟩ := trodVars_none hV
  have hlt : ∀ x ∈ p, x.block < W.heap.size := fun x hx => by simpa using hW'.lt x (by simpa using hx)
  rw [Try.params4] at hA hval hsz
  obtain ⟨v0, vs0, d0, ds0, p0, q0, hargs, rfl, rfl, h0, r0⟩ := trodAll_cons hA
  obtain ⟨rfl, rfl, rfl⟩ := trodAll_nil r0
  obtain rfl : args = #[v0] := by cases args; simp_all
  obtain ⟨a0, cs0, c0, rfl, hz0, hl0⟩ := open_cards (u := 49) (e := 104) (by kernel_rfl) Try.underlying104 (by kernel_rfl) (by kernel_rfl) (by kernel_rfl) (by kernel_rfl) (by kernel_rfl) (by kernel_rfl) (by kernel_rfl) (by kernel_rfl) (by kernel_rfl) (hval 0 37 v0 rfl rfl) h0
  refine (fnExactDuplicatesOf_walk a0 cs0 c0 W hz0 hl0).mono fun e W' ⟨he, hb⟩ => ?_
  subst he
  exact ⟨_, rfl, law_post laidOut rfl Try.underlying4 (of_all (by kernel_rfl)) rfl hW' rfl rfl rfl hb⟩

theorem fnExactDuplicatesOf_over : Rows.fnExactDuplicatesOfRow.holds Try.pinned (OpenSpec.ofChange Rows.fnExactDuplicatesOfSpec) :=
  OpenClaim.holds_of_wide 4 Try.f4 rfl rfl rfl rfl rfl rfl rfl ⟨rfl, rfl, rfl, rfl, rfl⟩ rfl rfl rfl rfl rfl (by kernel_rfl) Try.func4 (by kernel_rfl)
    (of_decide_eq_true (by kernel_rfl)) (by unfold Func.isWrapper; rw [if_neg (of_decide_eq_false (by kernel_rfl))]; exact ⟨rfl, rfl⟩)
    (fun os started H enc _ => fnExactDuplicatesOf_lifted os started H enc)

/-- The statement. -/
theorem fnExactDuplicatesOf_holds : Rows.FnExactDuplicatesOfSaid := fnExactDuplicatesOf_over
end
end Go.Proofs.Ytanocllpmjhblaa
