/- AnyOf answers, for every deck and every list of queries, as its model does; its answer is memory of its own. No conditions. -/
import Derived.Test.YthkmahcdojoioabAnsC
import Derived.Test.YthkmahcdojoioabMark
import Derived.Test.YthkmahcdojoioabDeck3
import Derived.Test.YthkmahcdojoioabQrs
import Derived.Deep.DeepCutAuto
namespace Go.Proofs.Ythkmahcdojoioab
open Go.ChangeShapes Go.WideShapes Go.ChangeAt Go.RowKit

theorem intsIn_up {B : Nat} {w w' : World} {a : Option Addr} {zs : List Int} (h : IntsIn w a zs) (hB : w.heap.size ≤ B) (hb : Below B w w') : IntsIn w' a zs := fun i hi => by
  obtain ⟨b, off, ha, hlt, hc⟩ := h i hi
  exact ⟨b, off, ha, Nat.lt_of_lt_of_le hlt hb.size, (hb.cell (Nat.lt_of_lt_of_le hlt hB)).trans hc⟩
theorem wr_cards {w : World} {g : Nat} {cs : List Cd} (h : CardsIn w (some ⟨g, 0, none⟩) cs) (hf : ∀ j, w.frozen? ⟨g, j, none⟩ = false) : Wr w g (cs.length * 3) := by
  refine ⟨fun j hj => ?_, hf⟩
  obtain ⟨_, b, off, he, _, h0, h1, h2⟩ := h (j / 3) (by omega)
  cases he
  rcases (show j % 3 = 0 ∨ j % 3 = 1 ∨ j % 3 = 2 by omega) with e | e | e
  · exact ⟨.string (cdAt cs (j / 3)).s, by rw [show (⟨g, j, none⟩ : Addr) = ⟨g, 0 + j / 3 * 3, none⟩ from by congr 1; omega]; exact h0⟩
  · exact ⟨.int .u64 (cdAt cs (j / 3)).a, by rw [show (⟨g, j, none⟩ : Addr) = ⟨g, 0 + j / 3 * 3 + 1, none⟩ from by congr 1; omega]; exact h1⟩
  · exact ⟨.int .u64 (cdAt cs (j / 3)).b, by rw [show (⟨g, j, none⟩ : Addr) = ⟨g, 0 + j / 3 * 3 + 2, none⟩ from by congr 1; omega]; exact h2⟩

/-- What the call answers: numbers of its own, and a code. -/
def AR (zs : List Int) (cd : Int) (w : World) (e : Ending) (w' : World) : Prop := ∃ v, e = .returned (.tuple #[v, .int .i64 cd]) ∧ OwnInts w.heap.size zs v w' ∧ Below w.heap.size w w'
theorem anR_parts (ok : Bool) (zs : List Int) : ∃ xs cd, xs.length ≤ zs.length ∧ AnR ok zs = AR xs cd := by
  cases ok
  · exact ⟨[], 1, by simp, rfl⟩
  · exact ⟨zs, 0, Nat.le_refl _, rfl⟩

theorem wr_qs {w : World} {g : Nat} {cs : List Qy} (h : QsIn w (some ⟨g, 0, none⟩) cs) (hf : ∀ j, w.frozen? ⟨g, j, none⟩ = false) : Wr w g (cs.length * 4) := by
  refine ⟨fun j hj => ?_, hf⟩
  obtain ⟨_, b, off, he, _, h0, h1, h2, h3⟩ := h (j / 4) (by omega)
  cases he
  rcases (show j % 4 = 0 ∨ j % 4 = 1 ∨ j % 4 = 2 ∨ j % 4 = 3 by omega) with e | e | e | e
  · exact ⟨.int .u64 (qyAt cs (j / 4)).a, by rw [show (⟨g, j, none⟩ : Addr) = ⟨g, 0 + j / 4 * 4, none⟩ from by congr 1; omega]; exact h0⟩
  · exact ⟨.int .u64 (qyAt cs (j / 4)).b, by rw [show (⟨g, j, none⟩ : Addr) = ⟨g, 0 + j / 4 * 4 + 1, none⟩ from by congr 1; omega]; exact h1⟩
  · exact ⟨.int .u64 (qyAt cs (j / 4)).c, by rw [show (⟨g, j, none⟩ : Addr) = ⟨g, 0 + j / 4 * 4 + 2, none⟩ from by congr 1; omega]; exact h2⟩
  · exact ⟨.int .u64 (qyAt cs (j / 4)).d, by rw [show (⟨g, j, none⟩ : Addr) = ⟨g, 0 + j / 4 * 4 + 3, none⟩ from by congr 1; omega]; exact h3⟩
theorem Wr.oth {w w' : World} {g f m : Nat} (h : Wr w g m) (hb : Oth f w w') (hne : g ≠ f) (hg : g < w.heap.size) : Wr w' g m :=
  ⟨fun j hj => (h.1 j hj).imp fun _ hv => (World.cell?_of_block (w := w) (a := ⟨g, j, none⟩) (hb.block g hne hg)).trans hv, fun j => (World.frozen?_of_block (w := w) (a := ⟨g, j, none⟩) (hb.block g hne hg)).trans (h.2 j)⟩

/-- One step behind a world whose own things stay. -/
theorem ch_next {B : Nat} {w a b : World} (h : Below B w a) (hB : B ≤ w.heap.size) (k : Below a.heap.size a b) : Below B w b := h.trans (Below.mono k (Nat.le_trans hB h.size))

set_option maxRecDepth 100000 in
set_option maxHeartbeats 3200000 in
theorem fnExactAnyOf_walk (a1 : Option Addr) (cs : List Cd) (c1 : Nat) (a2 : Option Addr) (qs : List Qy) (c2 : Nat) (w : World) (h1 : CardsIn w a1 cs) (l1 : cs.length ≤ maxLen) (h2 : QsIn w a2 qs) (l2 : qs.length ≤ maxLen) :
    Calls Try.prog 6 #[.slice a1 cs.length c1, .slice a2 qs.length c2] w fun e w' => e = .returned (.bool true) ∧ Below w.heap.size w w' := by
  unfold maxLen at l1 l2
  have Z1 := Lib.hid fun W hs => szCardS_any a1 cs c1 1048576 W hs (by decide) (by decide) (by omega)
  have H1 := Lib.hid h1
  have H2 := Lib.hid h2
  clear h1 h2 l1
  go_enter Try.func6, Try.ntmps6
  go_upto_region 3 with (go_at_call 15; refine (Z1.out _ H1.out).mono ?_; rintro e w1 ⟨z, rfl, z0, z1, z2, hB⟩; have B1 := Lib.hid hB; clear hB)
  by_cases hz0 : z < 0
  · have d1 : decide (z < 0) = true := decide_eq_true hz0
    go_wp2
    go_returns
    exact ⟨rfl, B1.out⟩
  have d1 : decide (z < 0) = false := decide_eq_false hz0
  have n1 : cs.length ≤ 1048576 := z2 (by omega)
  have Z2 := Lib.hid fun W => szQueryS_any a2 qs.length c2 z (by omega) z1 (by omega) W
  clear z0 z1 z2 hz0 l2
  go_upto_region 6 with (go_at_call 31; refine (Z2.out _).mono ?_; rintro e w2 ⟨y, rfl, y2, rfl⟩)
  by_cases hy0 : y < 0
  · have d2 : decide (y < 0) = true := decide_eq_true hy0
    go_wp2
    go_returns
    exact ⟨rfl, B1.out⟩
  have d2 : decide (y < 0) = false := decide_eq_false hy0
  have n2 : qs.length ≤ 1048576 := y2 (by omega)
  clear y2 hy0
  have T1 := Lib.hid fun W hs => toCardS_any a1 cs c1 W hs n1
  have T2 := Lib.hid fun W hs => toQueryS_any a2 qs c2 W hs n2
  have E1 := Lib.hid fun a b c d W ha hb => eqCardS_same a b cs c d W ha hb n1
  have E2 := Lib.hid fun a b c d W ha hb => eqQueryS_same a b qs c d W ha hb n2
  have S := fun x c1 y c2 W hx hy => sAnyOf_any x cs c1 y qs c2 W hx hy (by omega)
  have I := fun x c1 y c2 W hx hy => iAnyOf_any x cs c1 y qs c2 W hx hy (by omega)
  have al := ans_len cs qs cs.length
  obtain ⟨zs, cd, hzl, hAR⟩ := anR_parts (deckOk cs && qsOk qs) (ansTo cs qs cs.length)
  rw [hAR] at S I
  have hn : zs.length ≤ 17592186044404 := by omega
  have hk : 1 + 3 * cs.length ≤ 4000000 := by omega
  have hk2 : (1 + 3 * cs.length) + 4 * qs.length ≤ 12000000 := by omega
  have S := Lib.hid S
  have I := Lib.hid I
  clear al hzl hAR n1 n2
  have MK := fun g W hW hg => markCards_any cs.length g 1 cs.length W hW hg hk
  have MQ := fun g W hW hg => markQs_any qs.length g (1 + 3 * cs.length) qs.length W hW hg hk2
  generalize (1 + 3 * cs.length) + 4 * qs.length = kq at *
  generalize 1 + 3 * cs.length = kk at *
  have MK := Lib.hid MK
  have MQ := Lib.hid MQ
  have k0 : decide ((kq : Int) < 0) = false := by simp
  have n0 : decide ((1 : Int) + (zs.length : Int) < 0) = false := by simp; omega
  have n3 : ((1 : Int) + (zs.length : Int) != (1 : Int) + (zs.length : Int)) = false := by simp
  have n4 : (cd != cd) = false := by simp
  clear hk hk2
  have tk1 : True := trivial
  have tk2 : True := trivial
  have tk3 : True := trivial
  have tk4 : True := trivial
  have tk5 : True := trivial
  have tk6 : True := trivial
  have tk7 : True := trivial
  have tk8 : True := trivial
  have tk9 : True := trivial
  have tk10 : True := trivial
  have tk11 : True := trivial
  have tk12 : True := trivial
  have tk13 : True := trivial
  have tk14 : True := trivial
  have tk15 : True := trivial
  have tk16 : True := trivial
  have tk17 : True := trivial
  have tk18 : True := trivial
  have tk19 : True := trivial
  have tk20 : True := trivial
  have tk21 : True := trivial
  go_wp2_with (first
    | (go_at_call 18; have _t := tk1; clear _t tk1; refine (T1.out _ (cardsIn_below H1.out B1.out)).mono ?_; rintro e w3 ⟨v, rfl, ⟨g3, rfl, _, _, hs, _⟩, hB⟩; have B3 := Lib.hid (ch_next B1.out (Nat.le_refl _) hB); have X3 := Lib.hid hs; clear hB hs)
    | (go_at_call 33; have _t := tk2; clear _t tk2; refine (T2.out _ (qsIn_below H2.out B3.out)).mono ?_; rintro e w4 ⟨v, rfl, ⟨g4, rfl, _, _, hs, _⟩, hB⟩; have B4 := Lib.hid (ch_next B3.out (Nat.le_refl _) hB); have X4 := Lib.hid (cardsIn_below X3.out hB); have Y4 := Lib.hid hs; clear hB hs)
    | (go_at_call 32; have _t := tk3; clear _t tk3; refine (S.out _ _ _ _ _ X4.out Y4.out).mono ?_; rintro e w5 ⟨v5, rfl, hO, hB⟩; obtain ⟨a5, c5, rfl, hi⟩ := ownInts_in hO; have B5 := Lib.hid (ch_next B4.out (Nat.le_refl _) hB); have S5 := Lib.hid hi; clear hB hi hO X3 X4 Y4 B3 B4)
    | (go_at_call 18; have _t := tk4; clear _t tk4; refine (T1.out _ (cardsIn_below H1.out B5.out)).mono ?_; rintro e w6 ⟨v, rfl, ⟨g6, rfl, hg, hl, hs, hf⟩, hB⟩; have C6 := Lib.hid hB; have G6 := Lib.hid hg; have L6 := Lib.hid hl; have X6 := Lib.hid hs; have W6 := Lib.hid (wr_cards hs hf); clear hB hs hf hg hl)
    | (go_at_call 33; have _t := tk5; clear _t tk5; refine (T2.out _ (qsIn_below H2.out (ch_next B5.out (Nat.le_refl _) C6.out))).mono ?_; rintro e w7 ⟨v, rfl, ⟨g7, rfl, hg, hl, hs, hf⟩, hB⟩; have G7 := Lib.hid hg; have L7 := Lib.hid hl; have Y7 := Lib.hid hs; have V7 := Lib.hid (wr_qs hs hf); have D7 := Lib.hid hB; have C7 := Lib.hid (ch_next C6.out (Nat.le_refl _) hB); have X7 := Lib.hid (cardsIn_below X6.out hB); clear hB hs hf hg hl)
    | (go_at_call 34; have _t := tk6; clear _t tk6; refine (I.out _ _ _ _ _ X7.out Y7.out).mono ?_; rintro e w8 ⟨v8, rfl, hO, hB⟩; obtain ⟨a8, c8, rfl, hi⟩ := ownInts_in hO; have O8 := Lib.hid hO; have I8 := Lib.hid hi; have F8 := Lib.hid hB; have C8 := Lib.hid (ch_next C7.out (Nat.le_refl _) hB); have D8 := Lib.hid (ch_next D7.out (Nat.le_refl _) hB); have X8 := Lib.hid (cardsIn_below X7.out hB); have Y8 := Lib.hid (qsIn_below Y7.out hB); clear hB hi hO)
    | (go_at_call 27; have _t := tk7; clear _t tk7; refine (eqInts_same _ _ _ _ _ _ I8.out (intsIn_up S5.out (Nat.le_refl _) C8.out) hn).mono ?_; rintro e w9 ⟨rfl, hB⟩; have P9 := Lib.hid hB; have C9 := Lib.hid (ch_next C8.out (Nat.le_refl _) hB); have D9 := Lib.hid (ch_next D8.out (Nat.le_refl _) hB); have F9 := Lib.hid (ch_next F8.out (Nat.le_refl _) hB); have X9 := Lib.hid (cardsIn_below X8.out hB); have Y9 := Lib.hid (qsIn_below Y8.out hB); clear hB)
    | (go_at_call 18; have _t := tk8; clear _t tk8; refine (T1.out _ (cardsIn_below H1.out (ch_next B5.out (Nat.le_refl _) C9.out))).mono ?_; rintro e w10 ⟨v, rfl, ⟨g10, rfl, _, _, hs, _⟩, hB⟩; have Z10 := Lib.hid hs; have C10 := Lib.hid (ch_next C9.out (Nat.le_refl _) hB); have D10 := Lib.hid (ch_next D9.out (Nat.le_refl _) hB); have F10 := Lib.hid (ch_next F9.out (Nat.le_refl _) hB); have P10 := Lib.hid (ch_next P9.out (Nat.le_refl _) hB); have X10 := Lib.hid (cardsIn_below X9.out hB); have Y10 := Lib.hid (qsIn_below Y9.out hB); clear hB hs)
    | (go_at_call 21; have _t := tk9; clear _t tk9; refine (E1.out _ _ _ _ _ X10.out Z10.out).mono ?_; rintro e w11 ⟨rfl, hB⟩; have C11 := Lib.hid (ch_next C10.out (Nat.le_refl _) hB); have D11 := Lib.hid (ch_next D10.out (Nat.le_refl _) hB); have F11 := Lib.hid (ch_next F10.out (Nat.le_refl _) hB); have P11 := Lib.hid (ch_next P10.out (Nat.le_refl _) hB); have Y11 := Lib.hid (qsIn_below Y10.out hB); clear hB)
    | (go_at_call 33; have _t := tk10; clear _t tk10; refine (T2.out _ (qsIn_below H2.out (ch_next B5.out (Nat.le_refl _) C11.out))).mono ?_; rintro e w12 ⟨v, rfl, ⟨g12, rfl, _, _, hs, _⟩, hB⟩; have Z12 := Lib.hid hs; have C12 := Lib.hid (ch_next C11.out (Nat.le_refl _) hB); have D12 := Lib.hid (ch_next D11.out (Nat.le_refl _) hB); have F12 := Lib.hid (ch_next F11.out (Nat.le_refl _) hB); have P12 := Lib.hid (ch_next P11.out (Nat.le_refl _) hB); have Y12 := Lib.hid (qsIn_below Y11.out hB); clear hB hs)
    | (go_at_call 35; have _t := tk11; clear _t tk11; refine (E2.out _ _ _ _ _ Y12.out Z12.out).mono ?_; rintro e w13 ⟨rfl, hB⟩; have C13 := Lib.hid (ch_next C12.out (Nat.le_refl _) hB); have D13 := Lib.hid (ch_next D12.out (Nat.le_refl _) hB); have F13 := Lib.hid (ch_next F12.out (Nat.le_refl _) hB); have P13 := Lib.hid (ch_next P12.out (Nat.le_refl _) hB); clear hB)
    | (go_at_call 28; have _t := tk12; clear _t tk12; refine (MK.out _ _ (W6.out.below D13.out L6.out) (Nat.lt_of_lt_of_le L6.out D13.out.size)).mono ?_; rintro e w14 ⟨rfl, hO⟩; have O14 := Lib.hid (own_oth (ownInts_kept O8.out P13.out) hO (Nat.lt_of_lt_of_le L6.out D7.out.size)); have C14 := Lib.hid (C13.out.trans (Below.mono (hO.below (Nat.le_of_lt (Nat.lt_of_lt_of_le L6.out D13.out.size))) G6.out)); have U14 := Lib.hid (Nat.lt_of_lt_of_le (Nat.lt_of_lt_of_le L7.out F13.out.size) hO.size); have V14 := Lib.hid (Wr.oth (V7.out.below F13.out L7.out) hO (Nat.ne_of_gt (Nat.lt_of_lt_of_le L6.out G7.out)) (Nat.lt_of_lt_of_le L7.out F13.out.size)); clear hO)
    | (go_at_call 36; have _t := tk13; clear _t tk13; refine (MQ.out _ _ V14.out U14.out).mono ?_; rintro e w15 ⟨rfl, hO⟩; have O15 := Lib.hid (own_oth O14.out hO L7.out); have C15 := Lib.hid (C14.out.trans (Below.mono (hO.below (Nat.le_of_lt U14.out)) (Nat.le_trans C6.out.size G7.out))); clear hO)
    | (go_at_call 27; have _t := tk14; clear _t tk14; have hx := O15.out; obtain ⟨_, _, hv, hi⟩ := ownInts_in hx; cases hv; refine (eqInts_same _ _ _ _ _ _ hi (intsIn_up S5.out (Nat.le_refl _) C15.out) hn).mono ?_; rintro e w16 ⟨rfl, hB⟩; have O16 := Lib.hid (ownInts_kept hx hB); have C16 := Lib.hid (ch_next C15.out (Nat.le_refl _) hB); clear hB hx hi)
    | (go_at_call 29; have _t := tk15; clear _t tk15; refine (markInts_any _ _ _ _ _ O16.out hn (by omega) (by omega)).mono ?_; rintro e w17 ⟨rfl, hO, hB⟩; obtain ⟨am, cm, hv, hi⟩ := ownInts_in hO; rw [marks_len] at hv; cases hv; have M17 := Lib.hid hi; have C17 := Lib.hid (C16.out.trans (hB.mono C7.out.size)); clear hO hB hi)
    | (go_at_call 30; have _t := tk16; clear _t tk16; refine (heldInts_any _ _ _ _ _ M17.out hn (by omega) (by omega)).mono ?_; rintro e wh ⟨rfl, rfl⟩)
    | (go_at_call 18; have _t := tk17; clear _t tk17; refine (T1.out _ (cardsIn_below H1.out (ch_next B5.out (Nat.le_refl _) C17.out))).mono ?_; rintro e w18 ⟨v, rfl, ⟨g18, rfl, _, _, hs, _⟩, hB⟩; have X18 := Lib.hid hs; have M18 := Lib.hid (intsIn_below M17.out hB); have C18 := Lib.hid (ch_next C17.out (Nat.le_refl _) hB); clear hB hs)
    | (go_at_call 33; have _t := tk18; clear _t tk18; refine (T2.out _ (qsIn_below H2.out (ch_next B5.out (Nat.le_refl _) C18.out))).mono ?_; rintro e w19 ⟨v, rfl, ⟨g19, rfl, _, _, hs, _⟩, hB⟩; have Y19 := Lib.hid hs; have M19 := Lib.hid (intsIn_below M18.out hB); have C19 := Lib.hid (ch_next C18.out (Nat.le_refl _) hB); have X19 := Lib.hid (cardsIn_below X18.out hB); clear hB hs)
    | (go_at_call 34; have _t := tk19; clear _t tk19; refine (I.out _ _ _ _ _ X19.out Y19.out).mono ?_; rintro e w20 ⟨v20, rfl, hO, hB⟩; obtain ⟨a20, c20, rfl, hi⟩ := ownInts_in hO; have I20 := Lib.hid hi; have M20 := Lib.hid (intsIn_below M19.out hB); have C20 := Lib.hid (ch_next C19.out (Nat.le_refl _) hB); clear hB hi hO)
    | (go_at_call 27; have _t := tk20; clear _t tk20; refine (eqInts_same _ _ _ _ _ _ I20.out (intsIn_up S5.out (Nat.le_refl _) C20.out) hn).mono ?_; rintro e w21 ⟨rfl, hB⟩; have M21 := Lib.hid (intsIn_below M20.out hB); have C21 := Lib.hid (ch_next C20.out (Nat.le_refl _) hB); clear hB)
    | (go_at_call 30; have _t := tk21; clear _t tk21; refine (heldInts_any _ _ _ _ _ M21.out hn (by omega) (by omega)).mono ?_; rintro e wh ⟨rfl, rfl⟩))
  all_goals go_returns
  all_goals exact ⟨rfl, ch_next B5.out (Nat.le_refl _) C21.out⟩
/-! ### The frame round the walk -/
section
set_option maxRecDepth 100000 in
theorem fnExactAnyOf_lifted (os : Os) (started : os.Started) (H : Type) (enc : TypeId × Value → H) :
    ReturnsInHanded {} Try.checked os 6 .any (Rows.fnExactAnyOfSpec.pre6 enc Try.prog Try.f6 Rows.fnExactAnyOfRow.domain false) (Rows.fnExactAnyOfSpec.post enc Try.prog Try.f6 false true false false) := by
  refine returnsInHanded_of_change_sized (C := Try.checked) own started (by kernel_rfl) Try.func6
    (ChangeSpec.witness6 (enc := enc) (C := Try.checked) false ⟨#[], #[.slice none 0 0, .slice none 0 0], []⟩ 8 (by kernel_rfl) (by kernel_rfl) (by kernel_rfl) (by kernel_rfl)) ?_
  intro W base args ds gs before hval hW _ hsz _
  have hW' := hW
  obtain ⟨p, q, hA, hV, rfl, _, _⟩ := hW
  obtain ⟨rfl, rfl⟩ := trodVars_none hV
  have hlt : ∀ x ∈ p, x.block < W.heap.size := fun x hx => by simpa using hW'.lt x (by simpa using hx)
  rw [Try.params6] at hA hval hsz
  obtain ⟨v0, vs0, d0, ds0, p0, q0, hargs, rfl, rfl, h0, r0⟩ := trodAll_cons hA
  obtain ⟨v1, vs1, d1, ds1, p1, q1, rfl, rfl, rfl, h1, r1⟩ := trodAll_cons r0
  obtain ⟨rfl, rfl, rfl⟩ := trodAll_nil r1
  obtain rfl : args = #[v0, v1] := by cases args; simp_all
  obtain ⟨a0, cs0, c0, rfl, hz0, hl0⟩ := open_cards (u := 40) (e := 89) (by kernel_rfl) Try.underlying89 (by kernel_rfl) (by kernel_rfl) (by kernel_rfl) (by kernel_rfl) (by kernel_rfl) (by kernel_rfl) (by kernel_rfl) (by kernel_rfl) (by kernel_rfl) (hval 0 22 v0 rfl rfl) h0
  obtain ⟨a1, qs1, c1, rfl, hz1, hl1⟩ := open_queries (u := 40) (e := 43) (by kernel_rfl) Try.underlying43 (by kernel_rfl) (by kernel_rfl) (by kernel_rfl) (by kernel_rfl) (by kernel_rfl) (by kernel_rfl) (by kernel_rfl) (by kernel_rfl) (by kernel_rfl) (hval 1 55 v1 rfl rfl) h1
  refine (fnExactAnyOf_walk a0 cs0 c0 a1 qs1 c1 W hz0 hl0 hz1 hl1).mono fun e W' ⟨he, hb⟩ => ?_
  subst he
  exact ⟨_, rfl, law_post laidOut rfl Try.underlying4 (of_all (by kernel_rfl)) rfl hW' rfl rfl rfl hb⟩

theorem fnExactAnyOf_over : Rows.fnExactAnyOfRow.holds Try.pinned (OpenSpec.ofChange Rows.fnExactAnyOfSpec) :=
  OpenClaim.holds_of_wide 6 Try.f6 rfl rfl rfl rfl rfl rfl rfl ⟨rfl, rfl, rfl, rfl, rfl⟩ rfl rfl rfl rfl rfl (by kernel_rfl) Try.func6 (by kernel_rfl)
    (of_decide_eq_true (by kernel_rfl)) (by unfold Func.isWrapper; rw [if_neg (of_decide_eq_false (by kernel_rfl))]; exact ⟨rfl, rfl⟩)
    (fun os started H enc _ => fnExactAnyOf_lifted os started H enc)

/-- The statement. -/
theorem fnExactAnyOf_holds : Rows.FnExactAnyOfSaid := fnExactAnyOf_over
end
end Go.Proofs.Ythkmahcdojoioab
