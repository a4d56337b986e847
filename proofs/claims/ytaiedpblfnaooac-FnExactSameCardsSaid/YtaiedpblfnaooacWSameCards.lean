/- SameCards answers, for every two decks, as its model does. No conditions. -/
import Derived.Test.YtaiedpblfnaooacSmI
import Derived.Deep.DeepCutAuto
namespace Go.Proofs.Ytaiedpblfnaooac
open Go.ChangeShapes Go.WideShapes Go.ChangeAt Go.RowKit

set_option maxHeartbeats 1600000 in
theorem fnExactSameCards_walk (a1 : Option Addr) (cs : List Cd) (c1 : Nat) (a2 : Option Addr) (ds : List Cd) (c2 : Nat) (w : World) (h1 : CardsIn w a1 cs) (l1 : cs.length ≤ maxLen) (h2 : CardsIn w a2 ds) (l2 : ds.length ≤ maxLen) :
    Calls Try.prog 6 #[.slice a1 cs.length c1, .slice a2 ds.length c2] w fun e w' => e = .returned (.bool true) ∧ Below w.heap.size w w' := by
  unfold maxLen at l1 l2
  have H1 := Lib.hid h1
  have H2 := Lib.hid h2
  have Z1 := Lib.hid fun W hs => szCardS_any a1 cs c1 1048576 W hs (by decide) (by decide) (by omega)
  have Z2 := Lib.hid fun l W hs m0 m1 => szCardS_any a2 ds c2 l W hs m0 m1 (by omega)
  clear h1 h2 l1 l2
  go_enter Try.func6, Try.ntmps6
  go_upto_region 3 with (go_at_call 12; refine (Z1.out _ H1.out).mono ?_; rintro e w1 ⟨z, rfl, z0, z1, z2, hB⟩; have b1 := Lib.hid hB; clear hB)
  by_cases hz : z < 0
  · have d1 : decide (z < 0) = true := decide_eq_true hz
    go_wp2
    go_returns
    exact ⟨rfl, b1.out⟩
  have d1 : decide (z < 0) = false := decide_eq_false hz
  have n1 : cs.length ≤ 1048576 := z2 (by omega)
  have zp : 0 ≤ z := by omega
  go_upto_region 6 with (go_at_call 12; refine (Z2.out z _ (cardsIn_below H2.out b1.out) zp z1).mono ?_; rintro e w2 ⟨y, rfl, y0, y1, y2, hB⟩; have b2 := Lib.hid (b1.out.trans (Below.mono hB b1.out.size)); clear hB)
  by_cases hy : y < 0
  · have d2 : decide (y < 0) = true := decide_eq_true hy
    go_wp2
    go_returns
    exact ⟨rfl, b2.out⟩
  have d2 : decide (y < 0) = false := decide_eq_false hy
  have n2 : ds.length ≤ 1048576 := y2 (by omega)
  have T1 := Lib.hid fun W hs => toCardS_any a1 cs c1 W hs n1
  have T2 := Lib.hid fun W hs => toCardS_any a2 ds c2 W hs n2
  have S := fun a b c d W ha hb => sSameCards_any a b cs ds c d W ha hb n1 n2
  have I := fun a b c d W ha hb => iSameCards_any a b cs ds c d W ha hb n1 n2
  have E1 := Lib.hid fun a b c d W ha hb => eqCardS_same a b cs c d W ha hb n1
  have E2 := Lib.hid fun a b c d W ha hb => eqCardS_same a b ds c d W ha hb n2
  obtain ⟨q, cd, hq⟩ : ∃ (q : Bool) (cd : Int), scV cs ds = .tuple #[.bool q, .int .i64 cd] := by
    cases o1 : deckOk cs
    · exact ⟨_, _, scV_1 o1⟩
    · cases o2 : deckOk ds
      · exact ⟨_, _, scV_2 o1 o2⟩
      · exact ⟨_, _, scV_3 o1 o2⟩
  rw [hq] at S I
  clear hq
  have nb : (q != q) = false := by simp
  have nc : (cd != cd) = false := by simp
  have S := Lib.hid S
  have I := Lib.hid I
  clear z0 z2 y0 y1 y2 hy hz zp n1 n2
  have tok1 : True := trivial
  have tok2 : True := trivial
  have tok3 : True := trivial
  have tok4 : True := trivial
  have tok5 : True := trivial
  have tok6 : True := trivial
  have tok7 : True := trivial
  have tok8 : True := trivial
  go_wp2_with (first
    | (go_at_call 15; have _t := tok1; clear _t tok1; refine (T1.out _ (cardsIn_below H1.out b2.out)).mono ?_; rintro e w3 ⟨v, rfl, ⟨g3, rfl, _, _, hs, _⟩, hB⟩; have b3 := Lib.hid (b2.out.trans (Below.mono hB b2.out.size)); have s3 := Lib.hid hs; clear hB hs)
    | (go_at_call 15; have _t := tok2; clear _t tok2; refine (T2.out _ (cardsIn_below H2.out b3.out)).mono ?_; rintro e w4 ⟨v, rfl, ⟨g4, rfl, _, _, hs, _⟩, hB⟩; have b4 := Lib.hid (b3.out.trans (Below.mono hB b3.out.size)); have s4 := Lib.hid hs; have s3 := Lib.hid (cardsIn_below s3.out hB); clear hB hs)
    | (go_at_call 26; refine (S.out _ _ _ _ _ s3.out s4.out).mono ?_; rintro e w5 ⟨rfl, hB⟩; have b5 := Lib.hid (b4.out.trans (Below.mono hB b4.out.size)); clear hB)
    | (go_at_call 15; have _t := tok3; clear _t tok3; refine (T1.out _ (cardsIn_below H1.out b5.out)).mono ?_; rintro e w6 ⟨v, rfl, ⟨g6, rfl, _, _, hs, _⟩, hB⟩; have b6 := Lib.hid (b5.out.trans (Below.mono hB b5.out.size)); have s6 := Lib.hid hs; clear hB hs)
    | (go_at_call 15; have _t := tok4; clear _t tok4; refine (T2.out _ (cardsIn_below H2.out b6.out)).mono ?_; rintro e w7 ⟨v, rfl, ⟨g7, rfl, _, _, hs, _⟩, hB⟩; have b7 := Lib.hid (b6.out.trans (Below.mono hB b6.out.size)); have s7 := Lib.hid hs; have s6 := Lib.hid (cardsIn_below s6.out hB); clear hB hs)
    | (go_at_call 27; refine (I.out _ _ _ _ _ s6.out s7.out).mono ?_; rintro e w8 ⟨rfl, hB⟩; have b8 := Lib.hid (b7.out.trans (Below.mono hB b7.out.size)); have s6 := Lib.hid (cardsIn_below s6.out hB); have s7 := Lib.hid (cardsIn_below s7.out hB); clear hB)
    | (go_at_call 15; have _t := tok5; clear _t tok5; refine (T1.out _ (cardsIn_below H1.out b8.out)).mono ?_; rintro e w9 ⟨v, rfl, ⟨g9, rfl, _, _, hs, _⟩, hB⟩; have b9 := Lib.hid (b8.out.trans (Below.mono hB b8.out.size)); have s9 := Lib.hid hs; have s6 := Lib.hid (cardsIn_below s6.out hB); have s7 := Lib.hid (cardsIn_below s7.out hB); clear hB hs)
    | (go_at_call 18; have _t := tok7; clear _t tok7; refine (E1.out _ _ _ _ _ s6.out s9.out).mono ?_; rintro e w10 ⟨rfl, hB⟩; have b10 := Lib.hid (b9.out.trans (Below.mono hB b9.out.size)); have s7 := Lib.hid (cardsIn_below s7.out hB); clear hB)
    | (go_at_call 15; have _t := tok6; clear _t tok6; refine (T2.out _ (cardsIn_below H2.out b10.out)).mono ?_; rintro e w11 ⟨v, rfl, ⟨g11, rfl, _, _, hs, _⟩, hB⟩; have b11 := Lib.hid (b10.out.trans (Below.mono hB b10.out.size)); have s11 := Lib.hid hs; have s7 := Lib.hid (cardsIn_below s7.out hB); clear hB hs)
    | (go_at_call 18; have _t := tok8; clear _t tok8; refine (E2.out _ _ _ _ _ s7.out s11.out).mono ?_; rintro e w12 ⟨rfl, hB⟩; have b12 := Lib.hid (b11.out.trans (Below.mono hB b11.out.size)); clear hB))
  all_goals go_returns
  all_goals exact ⟨rfl, b12.out⟩
/-! ### The frame round the walk -/
section
set_option maxRecDepth 100000 in
theorem fnExactSameCards_lifted (os : Os) (started : os.Started) (H : Type) (enc : TypeId × Value → H) :
    ReturnsInHanded {} Try.checked os 6 .any (Rows.fnExactSameCardsSpec.pre6 enc Try.prog Try.f6 Rows.fnExactSameCardsRow.domain false) (Rows.fnExactSameCardsSpec.post enc Try.prog Try.f6 false true false false) := by
  refine returnsInHanded_of_change_sized (C := Try.checked) own started (by kernel_rfl) Try.func6
    (ChangeSpec.witness6 (enc := enc) (C := Try.checked) false ⟨#[], #[.slice none 0 0, .slice none 0 0], []⟩ 8 (by kernel_rfl) (by kernel_rfl) (by kernel_rfl) (by kernel_rfl)) ?_
  intro W base args ds gs before hval hW _ hsz _
  have hW' := hW
  obtain ⟨p, q, hA, hV, rfl, _, _⟩ := hW
  obtain ⟨rfl, rfl⟩ := trodVars_none hV
  have hlt : ∀ x ∈ p, x.block < W.heap.size := fun x hx => by simpa using hW'.lt x (by simpa using hx)
  rw [Try.params6] at hA hval hsz
  obtain ⟨v0, vs0, d0, ds0, p0, q0, hargs, rfl, rfl, h0, r0⟩ := trodAll_cons hA
  obtain ⟨v1, vs1, d1, ds1, p1, q1, rfl, rfl, rfl, h1, r1⟩ := trodAll_cons r0
  obtain ⟨rfl, rfl, rfl⟩ := trodAll_nil r1
  obtain rfl : args = #[v0, v1] := by cases args; simp_all
  obtain ⟨a0, cs0, c0, rfl, hz0, hl0⟩ := open_cards (u := 23) (e := 48) (by kernel_rfl) Try.underlying48 (by kernel_rfl) (by kernel_rfl) (by kernel_rfl) (by kernel_rfl) (by kernel_rfl) (by kernel_rfl) (by kernel_rfl) (by kernel_rfl) (by kernel_rfl) (hval 0 22 v0 rfl rfl) h0
  obtain ⟨a1, cs1, c1, rfl, hz1, hl1⟩ := open_cards (u := 23) (e := 48) (by kernel_rfl) Try.underlying48 (by kernel_rfl) (by kernel_rfl) (by kernel_rfl) (by kernel_rfl) (by kernel_rfl) (by kernel_rfl) (by kernel_rfl) (by kernel_rfl) (by kernel_rfl) (hval 1 22 v1 rfl rfl) h1
  refine (fnExactSameCards_walk a0 cs0 c0 a1 cs1 c1 W hz0 hl0 hz1 hl1).mono fun e W' ⟨he, hb⟩ => ?_
  subst he
  exact ⟨_, rfl, law_post laidOut rfl Try.underlying4 (of_all (by kernel_rfl)) rfl hW' rfl rfl rfl hb⟩

theorem fnExactSameCards_over : Rows.fnExactSameCardsRow.holds Try.pinned (OpenSpec.ofChange Rows.fnExactSameCardsSpec) :=
  OpenClaim.holds_of_wide 6 Try.f6 rfl rfl rfl rfl rfl rfl rfl ⟨rfl, rfl, rfl, rfl, rfl⟩ rfl rfl rfl rfl rfl (by kernel_rfl) Try.func6 (by kernel_rfl)
    (of_decide_eq_true (by kernel_rfl)) (by unfold Func.isWrapper; rw [if_neg (of_decide_eq_false (by kernel_rfl))]; exact ⟨rfl, rfl⟩)
    (fun os started H enc _ => fnExactSameCards_lifted os started H enc)

/-- The statement. -/
theorem fnExactSameCards_holds : Rows.FnExactSameCardsSaid := fnExactSameCards_over
end
end Go.Proofs.Ytaiedpblfnaooac
