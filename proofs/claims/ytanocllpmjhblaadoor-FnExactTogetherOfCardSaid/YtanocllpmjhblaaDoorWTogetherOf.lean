/- TogetherOf answers, for every list of cards and every two numbers, as its model does. No conditions. -/
import Derived.Test.YtanocllpmjhblaaDoorTog
import Derived.Test.YtanocllpmjhblaaDoorSenL
import Derived.Test.YtanocllpmjhblaaDoorArr
import Derived.Test.YtanocllpmjhblaaDoorDeck3
import Derived.Deep.DeepCutAuto
namespace Go.Proofs.YtanocllpmjhblaaDoor
open Go.ChangeShapes Go.WideShapes Go.ChangeAt Go.RowKit

set_option maxHeartbeats 1600000 in
theorem fnExactTogetherOf_walk (a0 a1 a2 : Addr) (a9 : Option Addr) (cs : List Cd) (c1 : Nat) (n1 : Int) (hn1 : I64 n1) (n2 : Int) (hn2 : I64 n2) (w : World) (hS : Sen w a0 a1 a2) (h1 : CardsIn w a9 cs) (l1 : cs.length ≤ maxLen) :
    Calls Tryd.prog 4 #[.slice a9 cs.length c1, .int .i64 n1, .int .i64 n2] w fun e w' => e = .returned (.bool true) ∧ Below w.heap.size w w' := by
  unfold maxLen at l1
  have H1 := Lib.hid h1
  have SS := Lib.hid hS
  have Z1 := Lib.hid fun W hs => szCardS_any a9 cs c1 1048576 W hs (by decide) (by decide) (by omega)
  clear h1 l1 hS
  go_enter Tryd.func4, Tryd.ntmps4
  go_upto_region 3 with (go_at_call 8; refine (Z1.out _ H1.out).mono ?_; rintro e w1 ⟨z, rfl, z0, z1, z2, hB⟩; have b1 := Lib.hid hB; clear hB)
  by_cases hz : z < 0
  · have d1 : decide (z < 0) = true := decide_eq_true hz
    go_wp2
    go_returns
    exact ⟨rfl, b1.out⟩
  have d1 : decide (z < 0) = false := decide_eq_false hz
  have nn : cs.length ≤ 1048576 := z2 (by omega)
  have T1 := Lib.hid fun W hs => toCardS_any a9 cs c1 W hs nn
  have S := fun a c W ha => sTog_any a cs c n1 n2 W ha (by omega)
  have I := fun a c W hq ha => iTog_any a0 a1 a2 a cs c n1 n2 W hq ha (by omega)
  have E1 := Lib.hid fun a b c d W ha hb => eqCardS_same a b cs c d W ha hb nn
  obtain ⟨x, cd, hx⟩ : ∃ x cd : Int, tgV cs n1 n2 = .tuple #[.int .i64 x, .int .i64 cd] := by
    unfold tgV
    by_cases q : cdC cs = 0
    · rw [if_pos q]
      by_cases r : (isHT n1 && isHT n2) = true
      · rw [if_pos r]; exact ⟨_, _, rfl⟩
      · rw [if_neg r]; exact ⟨_, _, rfl⟩
    · rw [if_neg q]; exact ⟨_, _, rfl⟩
  rw [hx] at S I
  clear hx
  have nc : (cd != cd) = false := by simp
  have nx : (x != x) = false := by simp
  have S := Lib.hid S
  have I := Lib.hid I
  clear z0 z1 z2 hz nn hn1 hn2
  have tok1 : True := trivial
  have tok2 : True := trivial
  go_wp2_with (first
    | (go_at_call 10; have _t := tok1; clear _t tok1; refine (T1.out _ (cardsIn_below H1.out b1.out)).mono ?_; rintro e w2 ⟨v, rfl, ⟨g2, rfl, _, _, hs, _⟩, hB⟩; have b2 := Lib.hid (b1.out.trans (Below.mono hB b1.out.size)); have s2 := Lib.hid hs; clear hB hs)
    | (go_at_call 14; refine (S.out _ _ _ s2.out).mono ?_; rintro e w3 ⟨rfl, hB⟩; have b3 := Lib.hid (b2.out.trans (Below.mono hB b2.out.size)); clear hB)
    | (go_at_call 10; have _t := tok2; clear _t tok2; refine (T1.out _ (cardsIn_below H1.out b3.out)).mono ?_; rintro e w4 ⟨v, rfl, ⟨g4, rfl, _, _, hs, _⟩, hB⟩; have b4 := Lib.hid (b3.out.trans (Below.mono hB b3.out.size)); have s4 := Lib.hid hs; clear hB hs)
    | (go_at_call 15; refine (I.out _ _ _ (SS.out.below b4.out) s4.out).mono ?_; rintro e w5 ⟨rfl, hB⟩; have b5 := Lib.hid (b4.out.trans (Below.mono hB b4.out.size)); have s5 := Lib.hid (cardsIn_below s4.out hB); clear hB)
    | (go_at_call 10; refine (T1.out _ (cardsIn_below H1.out b5.out)).mono ?_; rintro e w7 ⟨v, rfl, ⟨g7, rfl, _, _, hs, _⟩, hB⟩; have b7 := Lib.hid (b5.out.trans (Below.mono hB b5.out.size)); have s7 := Lib.hid hs; have s8 := Lib.hid (cardsIn_below s5.out hB); clear hB hs)
    | (go_at_call 13; refine (E1.out _ _ _ _ _ s8.out s7.out).mono ?_; rintro e w8 ⟨rfl, hB⟩; have b8 := Lib.hid (b7.out.trans (Below.mono hB b7.out.size)); clear hB))
  all_goals go_returns
  all_goals exact ⟨rfl, b8.out⟩
/-! ### The frame round the walk -/
section
set_option maxRecDepth 100000 in
theorem fnExactTogetherOf_lifted (os : Os) (started : os.Started) (H : Type) (enc : TypeId × Value → H) :
    ReturnsInHanded {} Tryd.checked os 4 .any (fun w args => (Rows.fnExactTogetherOfSpec.pre enc Tryd.prog Tryd.f4 Rows.fnExactTogetherOfRow.domain false w args ∧ laidMetH Tryd.prog Rows.fnExactTogetherOfRow.laid w) ∧ sizedMet enc Tryd.prog Tryd.f4 (OpenSpec.ofChange Rows.fnExactTogetherOfSpec) false w args) (Rows.fnExactTogetherOfSpec.post enc Tryd.prog Tryd.f4 false true false false) := by
  refine returnsInHanded_of_change_and (C := Tryd.checked) (X := fun w _ => laidMetH Tryd.prog Rows.fnExactTogetherOfRow.laid w) (fun _ _ _ hh h => h.of_heap hh) own started (by kernel_rfl) Tryd.func4
    (ChangeSpec.witness_shaped (enc := enc) (C := Tryd.checked) (os := os) (X := fun w _ => laidMetH Tryd.prog Rows.fnExactTogetherOfRow.laid w) false (World.laidAll Tryd.prog os Rows.fnExactTogetherOfRow.laid) #[.slice none 0 0, .int .i64 0, .int .i64 0] 8 (World.laidAll_os _ _ _)
      (World.shaped_of_ZipB (by kernel_rfl) (by kernel_rfl)) (by kernel_rfl) (by kernel_rfl) (by kernel_rfl)
      (by rw [MakeChecks.laidMetH_plain _ _ _ (by kernel_rfl)]; exact laidMet_laidAll _ (by kernel_rfl) (by kernel_rfl))) ?_
  intro W base args ds gs before hval0 hW _ _ hX _
  rw [MakeChecks.laidMetH_plain _ _ _ (by kernel_rfl)] at hX
  obtain ⟨x0, x1, x2, hSen, hx0, hx1, hx2⟩ := sen_of hX
  have hval : ∀ (j : Nat) t v, Tryd.f4.params[j]? = some t → args[j]? = some v → Value.okWide Tryd.prog W .any base t v := hval0
  have hW' := hW
  obtain ⟨p, q, hA0, hV, rfl, _, _⟩ := hW
  have hA : DataW.TrodAll enc Tryd.prog W 0 (fun _ => true) true Tryd.f4.params.toList args.toList ds p := hA0
  obtain ⟨rfl, rfl⟩ := hV.unique (sen_vars enc hx0 hx1 hx2 _)
  have hlt : ∀ x ∈ p, x.block < W.heap.size := fun x hx => hW'.lt x (List.mem_append_left _ hx)
  rw [Tryd.params4] at hA hval
  obtain ⟨v0, vs0, d0, ds0, p0, q0, hargs, rfl, rfl, h0, r0⟩ := trodAll_cons hA
  obtain ⟨v1, vs1, d1, ds1, p1, q1, rfl, rfl, rfl, h1, r1⟩ := trodAll_cons r0
  obtain ⟨v2, vs2, d2, ds2, p2, q2, rfl, rfl, rfl, h2, r2⟩ := trodAll_cons r1
  obtain ⟨rfl, rfl, rfl⟩ := trodAll_nil r2
  obtain rfl : args = #[v0, v1, v2] := by cases args; simp_all
  obtain ⟨a0, cs0, c0, rfl, hz0, hl0⟩ := open_cards (u := 24) (e := 63) (by kernel_rfl) Tryd.underlying63 (by kernel_rfl) (by kernel_rfl) (by kernel_rfl) (by kernel_rfl) (by kernel_rfl) (by kernel_rfl) (by kernel_rfl) (by kernel_rfl) (by kernel_rfl) (hval 0 22 v0 rfl rfl) h0
  obtain ⟨n1, rfl, hn1⟩ := open_i64 (by kernel_rfl) (hval 1 2 v1 rfl rfl)
  obtain ⟨n2, rfl, hn2⟩ := open_i64 (by kernel_rfl) (hval 2 2 v2 rfl rfl)
  refine (fnExactTogetherOf_walk x0 x1 x2 a0 cs0 c0 n1 hn1 n2 hn2 W hSen hz0 hl0).mono fun e W' ⟨he, hb⟩ => ?_
  subst he
  exact ⟨_, rfl, law_postV laidOut rfl Tryd.underlying4 (of_all (by kernel_rfl)) hW' rfl rfl rfl (sen_vars enc (var_below hx0 hb) (var_below hx1 hb) (var_below hx2 hb) _) hb⟩

theorem fnExactTogetherOf_over : Rows.fnExactTogetherOfRow.holds Tryd.pinned (OpenSpec.ofChange Rows.fnExactTogetherOfSpec) :=
  OpenClaim.holds_of_wide 4 Tryd.f4 rfl rfl rfl rfl rfl rfl rfl ⟨rfl, rfl, rfl, rfl, rfl⟩ rfl rfl rfl rfl rfl (by kernel_rfl) Tryd.func4 (by kernel_rfl)
    (of_decide_eq_true (by kernel_rfl)) (by unfold Func.isWrapper; rw [if_neg (of_decide_eq_false (by kernel_rfl))]; exact ⟨rfl, rfl⟩)
    (fun os started H enc _ => fnExactTogetherOf_lifted os started H enc)

/-- The card. -/
theorem fnExactTogetherOf_holds : Rows.FnExactTogetherOfCardSaid :=
  Claim7.holds_tied_plain_at .later [] [.sentinel, .sentinel, .sentinel] true _ true fnExactTogetherOf_over (fun _ h => by cases h) (by kernel_rfl) (fun _ h => by cases h) fnExactTogetherOf_row_tie rfl ⟨rfl, rfl⟩ (by kernel_rfl) rfl
    (fun f fn hf hfn => by
      obtain rfl : f = 4 := Option.some.inj ((show Tryd.prog.funcNamed Tryd.f4.name = some 4 by kernel_rfl).symm.trans hf) |>.symm
      obtain rfl : fn = Tryd.f4 := (Option.some.inj (Tryd.func4.symm.trans hfn)).symm
      exact ⟨by kernel_rfl, fun j t ht => by
        rw [Tryd.params4] at ht
        have hm : t ∈ [22, 2, 2] := by simpa using Array.mem_of_getElem? ht
        have hall : ([22, 2, 2].all fun u => !Tryd.prog.wantsStandIn u) = true := by kernel_rfl
        exact (show Tryd.prog.wantsStandIn t = false by simpa using List.all_eq_true.1 hall t hm)⟩)
    (by kernel_rfl)
end
end Go.Proofs.YtanocllpmjhblaaDoor


