/- CommonBroader answers, for every catalogue and every two numbers, as its model does. No conditions. -/
import Derived.Test.YtcbcggnpbjcdfaaDoorCB4
import Derived.Test.YtcbcggnpbjcdfaaDoorDoor
import Derived.Deep.DeepCutAuto
namespace Go.Proofs.YtcbcggnpbjcdfaaDoor
open Go.ChangeShapes Go.WideShapes Go.ChangeAt Go.RowKit

set_option maxHeartbeats 1600000 in
theorem fnExactCommonBroader_walk (a1 : Option Addr) (cs : List Et) (c1 : Nat) (m : Int) (_hm : I64 m) (n : Int) (_hn : I64 n) (w : World) (h1 : EntsIn w a1 cs) (l1 : cs.length ≤ maxLen) :
    Calls Tryd.prog 11 #[.slice a1 cs.length c1, .int .i64 m, .int .i64 n] w fun e w' => e = .returned (.bool true) ∧ Below w.heap.size w w' := by
  unfold maxLen at l1
  have H1 := Lib.hid h1
  have Z1 := Lib.hid fun W hs => szEntryS_any a1 cs c1 1048576 W hs (by decide) (by decide) (by omega)
  clear h1 l1
  go_enter Tryd.func11, Tryd.ntmps11
  go_upto_region 3 with (go_at_call 16; refine (Z1.out _ H1.out).mono ?_; rintro e w1 ⟨z, rfl, z0, z1, z2, hB⟩; have b1 := Lib.hid hB; clear hB)
  by_cases hz : z < 0
  · have d1 : decide (z < 0) = true := decide_eq_true hz
    go_wp2
    go_returns
    exact ⟨rfl, b1.out⟩
  have d1 : decide (z < 0) = false := decide_eq_false hz
  have n1 : cs.length ≤ 1048576 := z2 (by omega)
  have T1 := Lib.hid fun W hs => toEntryS_any a1 cs c1 W hs n1
  obtain ⟨x, y, hV⟩ := cbv_some cs m n
  have S := fun a c W ha => sCommonBroader_any a cs c m n x y hV W ha
  have I := fun a c W ha => iCommonBroader_any a cs c m n x y hV W ha
  have E1 := Lib.hid fun a b c d W ha hb => eqEntryS_same a b cs c d W ha hb n1
  have nx : (x != x) = false := by simp
  have ny : (y != y) = false := by simp
  have S := Lib.hid S
  have I := Lib.hid I
  clear z0 z1 z2 hz n1 hV
  have tok1 : True := trivial
  have tok2 : True := trivial
  have tok3 : True := trivial
  go_wp2_with (first
    | (go_at_call 18; have _t := tok1; clear _t tok1; refine (T1.out _ (entsIn_below H1.out b1.out)).mono ?_; rintro e w2 ⟨v, rfl, ⟨g2, rfl, _, _, hs, _⟩, hB⟩; have b2 := Lib.hid (b1.out.trans (Below.mono hB b1.out.size)); have s2 := Lib.hid hs; clear hB hs)
    | (go_at_call 37; refine (S.out _ _ _ s2.out).mono ?_; rintro e w3 ⟨rfl, hB⟩; have b3 := Lib.hid (b2.out.trans (Below.mono hB b2.out.size)); clear hB)
    | (go_at_call 18; have _t := tok2; clear _t tok2; refine (T1.out _ (entsIn_below H1.out b3.out)).mono ?_; rintro e w4 ⟨v, rfl, ⟨g4, rfl, _, _, hs, _⟩, hB⟩; have b4 := Lib.hid (b3.out.trans (Below.mono hB b3.out.size)); have s4 := Lib.hid hs; clear hB hs)
    | (go_at_call 38; refine (I.out _ _ _ s4.out).mono ?_; rintro e w5 ⟨rfl, hB⟩; have b5 := Lib.hid (b4.out.trans (Below.mono hB b4.out.size)); have s4 := Lib.hid (entsIn_below s4.out hB); clear hB)
    | (go_at_call 18; have _t := tok3; clear _t tok3; refine (T1.out _ (entsIn_below H1.out b5.out)).mono ?_; rintro e w6 ⟨v, rfl, ⟨g6, rfl, _, _, hs, _⟩, hB⟩; have b6 := Lib.hid (b5.out.trans (Below.mono hB b5.out.size)); have s6 := Lib.hid hs; have s4 := Lib.hid (entsIn_below s4.out hB); clear hB hs)
    | (go_at_call 20; refine (E1.out _ _ _ _ _ s4.out s6.out).mono ?_; rintro e w7 ⟨rfl, hB⟩; have b7 := Lib.hid (b6.out.trans (Below.mono hB b6.out.size)); clear hB))
  all_goals go_returns
  all_goals exact ⟨rfl, b7.out⟩
/-! ### The frame round the walk -/
section
set_option maxRecDepth 100000 in
theorem fnExactCommonBroader_lifted (os : Os) (started : os.Started) (H : Type) (enc : TypeId × Value → H) :
    ReturnsInHanded {} Tryd.checked os 11 .any (fun w args => (Rows.fnExactCommonBroaderSpec.pre enc Tryd.prog Tryd.f11 Rows.fnExactCommonBroaderRow.domain false w args ∧ laidMetH Tryd.prog Rows.fnExactCommonBroaderRow.laid w) ∧ sizedMet enc Tryd.prog Tryd.f11 (OpenSpec.ofChange Rows.fnExactCommonBroaderSpec) false w args) (Rows.fnExactCommonBroaderSpec.post enc Tryd.prog Tryd.f11 false true false false) := by
  refine returnsInHanded_of_change_and (C := Tryd.checked) (X := fun w _ => laidMetH Tryd.prog Rows.fnExactCommonBroaderRow.laid w) (fun _ _ _ hh h => h.of_heap hh) own started (by kernel_rfl) Tryd.func11
    (ChangeSpec.witness_shaped (enc := enc) (C := Tryd.checked) (os := os) (X := fun w _ => laidMetH Tryd.prog Rows.fnExactCommonBroaderRow.laid w) false (World.laidAll Tryd.prog os Rows.fnExactCommonBroaderRow.laid) #[.slice none 0 0, .int .i64 0, .int .i64 0] 8 (World.laidAll_os _ _ _)
      (World.shaped_of_ZipB (by kernel_rfl) (by kernel_rfl)) (by kernel_rfl) (by kernel_rfl) (by kernel_rfl)
      (by rw [MakeChecks.laidMetH_plain _ _ _ (by kernel_rfl)]; exact laidMet_laidAll _ (by kernel_rfl) (by kernel_rfl))) ?_
  intro W base args ds gs before hval0 hW _ _ _ _
  have hval : ∀ (j : Nat) t v, Tryd.f11.params[j]? = some t → args[j]? = some v → Value.okWide Tryd.prog W .any base t v := hval0
  have hW' := hW
  obtain ⟨p, q, hA0, hV, rfl, _, _⟩ := hW
  have hA : DataW.TrodAll enc Tryd.prog W 0 (fun _ => true) true Tryd.f11.params.toList args.toList ds p := hA0
  obtain ⟨rfl, rfl⟩ := trodVars_none hV
  have hlt : ∀ x ∈ p, x.block < W.heap.size := fun x hx => by simpa using hW'.lt x (by simpa using hx)
  rw [Tryd.params11] at hA hval
  obtain ⟨v0, vs0, d0, ds0, p0, q0, hargs, rfl, rfl, h0, r0⟩ := trodAll_cons hA
  obtain ⟨v1, vs1, d1, ds1, p1, q1, rfl, rfl, rfl, h1, r1⟩ := trodAll_cons r0
  obtain ⟨v2, vs2, d2, ds2, p2, q2, rfl, rfl, rfl, h2, r2⟩ := trodAll_cons r1
  obtain ⟨rfl, rfl, rfl⟩ := trodAll_nil r2
  obtain rfl : args = #[v0, v1, v2] := by cases args; simp_all
  obtain ⟨a0, cs0, c0, rfl, hz0, hl0⟩ := open_ents (e := 45) (by kernel_rfl) Tryd.underlying45 (by kernel_rfl) (by kernel_rfl) (by kernel_rfl) (by kernel_rfl) (by kernel_rfl) (by kernel_rfl) (by kernel_rfl) (by kernel_rfl) (by kernel_rfl) (by kernel_rfl) (hval 0 23 v0 rfl rfl) h0
  obtain ⟨n1, rfl, hn1⟩ := open_i64 (by kernel_rfl) (hval 1 2 v1 rfl rfl)
  obtain ⟨n2, rfl, hn2⟩ := open_i64 (by kernel_rfl) (hval 2 2 v2 rfl rfl)
  refine (fnExactCommonBroader_walk a0 cs0 c0 n1 hn1 n2 hn2 W hz0 hl0).mono fun e W' ⟨he, hb⟩ => ?_
  subst he
  exact ⟨_, rfl, law_post laidOut rfl Tryd.underlying4 (of_all (by kernel_rfl)) rfl hW' rfl rfl rfl hb⟩

theorem fnExactCommonBroader_over : Rows.fnExactCommonBroaderRow.holds Tryd.pinned (OpenSpec.ofChange Rows.fnExactCommonBroaderSpec) :=
  OpenClaim.holds_of_wide 11 Tryd.f11 rfl rfl rfl rfl rfl rfl rfl ⟨rfl, rfl, rfl, rfl, rfl⟩ rfl rfl rfl rfl rfl (by kernel_rfl) Tryd.func11 (by kernel_rfl)
    (of_decide_eq_true (by kernel_rfl)) (by unfold Func.isWrapper; rw [if_neg (of_decide_eq_false (by kernel_rfl))]; exact ⟨rfl, rfl⟩)
    (fun os started H enc _ => fnExactCommonBroader_lifted os started H enc)

/-- The card. -/
theorem fnExactCommonBroader_holds : Rows.FnExactCommonBroaderCardSaid :=
  Claim7.holds_tied_plain_at .later [] [.data, .pinned] true _ true fnExactCommonBroader_over (fun _ h => by cases h) (by kernel_rfl) (fun _ h => by cases h) fnExactCommonBroader_row_tie rfl ⟨rfl, rfl⟩ (by kernel_rfl) rfl
    (fun f fn hf hfn => by
      obtain rfl : f = 11 := Option.some.inj ((show Tryd.prog.funcNamed Tryd.f11.name = some 11 by kernel_rfl).symm.trans hf) |>.symm
      obtain rfl : fn = Tryd.f11 := (Option.some.inj (Tryd.func11.symm.trans hfn)).symm
      exact ⟨by kernel_rfl, fun j t ht => by
        rw [Tryd.params11] at ht
        have hm : t ∈ [23, 2, 2] := by simpa using Array.mem_of_getElem? ht
        have hall : ([23, 2, 2].all fun u => !Tryd.prog.wantsStandIn u) = true := by kernel_rfl
        exact (show Tryd.prog.wantsStandIn t = false by simpa using List.all_eq_true.1 hall t hm)⟩)
    (by kernel_rfl)
end
end Go.Proofs.YtcbcggnpbjcdfaaDoor

