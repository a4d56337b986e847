/- CheckOfDeck answers, for every deck, as its model does. No conditions. -/
import Derived.Test.YtaiedpblfnaooacChkD
import Derived.Deep.DeepCutAuto
namespace Go.Proofs.Ytaiedpblfnaooac
open Go.ChangeShapes Go.WideShapes Go.ChangeAt Go.RowKit

set_option maxHeartbeats 1600000 in
theorem fnExactCheckOfDeck_walk (a1 : Option Addr) (cs : List Cd) (c1 : Nat) (w : World) (h1 : CardsIn w a1 cs) (l1 : cs.length ≤ maxLen) :
    Calls Try.prog 5 #[.slice a1 cs.length c1] w fun e w' => e = .returned (.bool true) ∧ Below w.heap.size w w' := by
  unfold maxLen at l1
  have H1 := Lib.hid h1
  have Z1 := Lib.hid fun W hs => szCardS_any a1 cs c1 1048576 W hs (by decide) (by decide) (by omega)
  clear h1 l1
  go_enter Try.func5, Try.ntmps5
  go_upto_region 3 with (go_at_call 12; refine (Z1.out _ H1.out).mono ?_; rintro e w1 ⟨z, rfl, z0, z1, z2, hB⟩; have b1 := Lib.hid hB; clear hB)
  by_cases hz : z < 0
  · have d1 : decide (z < 0) = true := decide_eq_true hz
    go_wp2
    go_returns
    exact ⟨rfl, b1.out⟩
  have d1 : decide (z < 0) = false := decide_eq_false hz
  have n1 : cs.length ≤ 1048576 := z2 (by omega)
  have T1 := Lib.hid fun W hs => toCardS_any a1 cs c1 W hs n1
  have S := fun a c W ha => sCheckD_any a cs c W ha
  have I := fun a c W ha => iCheckD_any a cs c W ha
  have E1 := Lib.hid fun a b c d W ha hb => eqCardS_same a b cs c d W ha hb n1
  obtain ⟨q, cd, hx⟩ := hcV_parts (deckOk cs) (chkN cs cs.length)
  rw [hx] at S I
  clear hx
  have nb : (q != q) = false := by simp
  have nc : (cd != cd) = false := by simp
  have S := Lib.hid S
  have I := Lib.hid I
  clear z0 z1 z2 hz n1
  have tok1 : True := trivial
  have tok2 : True := trivial
  have tok3 : True := trivial
  go_wp2_with (first
    | (go_at_call 15; have _t := tok1; clear _t tok1; refine (T1.out _ (cardsIn_below H1.out b1.out)).mono ?_; rintro e w2 ⟨v, rfl, ⟨g2, rfl, _, _, hs, _⟩, hB⟩; have b2 := Lib.hid (b1.out.trans (Below.mono hB b1.out.size)); have s2 := Lib.hid hs; clear hB hs)
    | (go_at_call 24; refine (S.out _ _ _ s2.out).mono ?_; rintro e w3 ⟨rfl, hB⟩; have b3 := Lib.hid (b2.out.trans (Below.mono hB b2.out.size)); clear hB)
    | (go_at_call 15; have _t := tok2; clear _t tok2; refine (T1.out _ (cardsIn_below H1.out b3.out)).mono ?_; rintro e w4 ⟨v, rfl, ⟨g4, rfl, _, _, hs, _⟩, hB⟩; have b4 := Lib.hid (b3.out.trans (Below.mono hB b3.out.size)); have s4 := Lib.hid hs; clear hB hs)
    | (go_at_call 25; refine (I.out _ _ _ s4.out).mono ?_; rintro e w5 ⟨rfl, hB⟩; have b5 := Lib.hid (b4.out.trans (Below.mono hB b4.out.size)); have s4 := Lib.hid (cardsIn_below s4.out hB); clear hB)
    | (go_at_call 15; have _t := tok3; clear _t tok3; refine (T1.out _ (cardsIn_below H1.out b5.out)).mono ?_; rintro e w6 ⟨v, rfl, ⟨g6, rfl, _, _, hs, _⟩, hB⟩; have b6 := Lib.hid (b5.out.trans (Below.mono hB b5.out.size)); have s6 := Lib.hid hs; have s4 := Lib.hid (cardsIn_below s4.out hB); clear hB hs)
    | (go_at_call 18; refine (E1.out _ _ _ _ _ s4.out s6.out).mono ?_; rintro e w7 ⟨rfl, hB⟩; have b7 := Lib.hid (b6.out.trans (Below.mono hB b6.out.size)); clear hB))
  all_goals go_returns
  all_goals exact ⟨rfl, b7.out⟩
/-! ### The frame round the walk -/
section
set_option maxRecDepth 100000 in
theorem fnExactCheckOfDeck_lifted (os : Os) (started : os.Started) (H : Type) (enc : TypeId × Value → H) :
    ReturnsInHanded {} Try.checked os 5 .any (Rows.fnExactCheckOfDeckSpec.pre6 enc Try.prog Try.f5 Rows.fnExactCheckOfDeckRow.domain false) (Rows.fnExactCheckOfDeckSpec.post enc Try.prog Try.f5 false true false false) := by
  refine returnsInHanded_of_change_sized (C := Try.checked) own started (by kernel_rfl) Try.func5
    (ChangeSpec.witness6 (enc := enc) (C := Try.checked) false ⟨#[], #[.slice none 0 0], []⟩ 8 (by kernel_rfl) (by kernel_rfl) (by kernel_rfl) (by kernel_rfl)) ?_
  intro W base args ds gs before hval hW _ hsz _
  have hW' := hW
  obtain ⟨p, q, hA, hV, rfl, _, _⟩ := hW
  obtain ⟨rfl, rfl⟩ := trodVars_none hV
  have hlt : ∀ x ∈ p, x.block < W.heap.size := fun x hx => by simpa using hW'.lt x (by simpa using hx)
  rw [Try.params5] at hA hval hsz
  obtain ⟨v0, vs0, d0, ds0, p0, q0, hargs, rfl, rfl, h0, r0⟩ := trodAll_cons hA
  obtain ⟨rfl, rfl, rfl⟩ := trodAll_nil r0
  obtain rfl : args = #[v0] := by cases args; simp_all
  obtain ⟨a0, cs0, c0, rfl, hz0, hl0⟩ := open_cards (u := 23) (e := 48) (by kernel_rfl) Try.underlying48 (by kernel_rfl) (by kernel_rfl) (by kernel_rfl) (by kernel_rfl) (by kernel_rfl) (by kernel_rfl) (by kernel_rfl) (by kernel_rfl) (by kernel_rfl) (hval 0 22 v0 rfl rfl) h0
  refine (fnExactCheckOfDeck_walk a0 cs0 c0 W hz0 hl0).mono fun e W' ⟨he, hb⟩ => ?_
  subst he
  exact ⟨_, rfl, law_post laidOut rfl Try.underlying4 (of_all (by kernel_rfl)) rfl hW' rfl rfl rfl hb⟩

theorem fnExactCheckOfDeck_over : Rows.fnExactCheckOfDeckRow.holds Try.pinned (OpenSpec.ofChange Rows.fnExactCheckOfDeckSpec) :=
  OpenClaim.holds_of_wide 5 Try.f5 rfl rfl rfl rfl rfl rfl rfl ⟨rfl, rfl, rfl, rfl, rfl⟩ rfl rfl rfl rfl rfl (by kernel_rfl) Try.func5 (by kernel_rfl)
    (of_decide_eq_true (by kernel_rfl)) (by unfold Func.isWrapper; rw [if_neg (of_decide_eq_false (by kernel_rfl))]; exact ⟨rfl, rfl⟩)
    (fun os started H enc _ => fnExactCheckOfDeck_lifted os started H enc)

/-- The statement. -/
theorem fnExactCheckOfDeck_holds : Rows.FnExactCheckOfDeckSaid := fnExactCheckOfDeck_over
end
end Go.Proofs.Ytaiedpblfnaooac
