/- SchemeText answers, for every scheme, as its model does. No conditions but what the listed tables read as. -/
import Derived.Test.YtllhglakihfjmaaDoorSxY
import Derived.Test.YtllhglakihfjmaaDoorFlds2
import Derived.Test.YtllhglakihfjmaaDoorDoor
import Derived.Deep.DeepCutAuto
namespace Go.Proofs.YtllhglakihfjmaaDoor
open Go.ChangeShapes Go.WideShapes Go.ChangeAt Go.RowKit

set_option maxRecDepth 100000 in
set_option maxHeartbeats 3200000 in
theorem fnExactSchemeText_walk (a1 : Option Addr) (fs : List Fd) (c1 : Nat) (w : World) (hT : TxIs Tryd.prog w "loop.example/g01261/impl.kindWords" kdWd) (h1 : FieldsIn w a1 fs) (l1 : fs.length ≤ maxLen) :
    Calls Tryd.prog 5 #[.slice a1 fs.length c1] w fun e w' => e = .returned (.bool true) ∧ Below w.heap.size w w' := by
  unfold maxLen at l1
  have H1 := Lib.hid h1
  have TT := Lib.hid hT
  have Z1 := Lib.hid fun W hs => szFieldS_any a1 fs c1 1048576 W hs (by decide) (by decide) (by omega)
  clear l1 h1 hT
  go_enter Tryd.func5, Tryd.ntmps5
  go_upto_region 3 with (go_at_call 16; refine (Z1.out _ H1.out).mono ?_; rintro e w1 ⟨z, rfl, z0, z1, z2, hB⟩; have B1 := Lib.hid hB; clear hB)
  by_cases hz0 : z < 0
  · have d1 : decide (z < 0) = true := decide_eq_true hz0
    go_wp2
    go_returns
    exact ⟨rfl, B1.out⟩
  have d1 : decide (z < 0) = false := decide_eq_false hz0
  have n1 : fs.length ≤ 1048576 := z2 (by omega)
  clear z0 z1 z2 hz0
  have T1 := Lib.hid fun W hs => toFieldS_any a1 fs c1 W hs n1
  have E1 := Lib.hid fun a b c d W ha hb => eqFieldS_same a b fs c d W ha hb n1
  have S := Lib.hid fun a c W h => sSxText_any a fs c W h
  have I := Lib.hid fun a c W h ht => iSxText_any a fs c W h ht
  generalize (if schOk fs = true then fsN fs fs.length else ByteArray.empty) = t at *
  have n2 : (t.toList != t.toList) = false := by simp
  clear n1
  have tok1 : True := trivial
  have tok2 : True := trivial
  have tok3 : True := trivial
  go_wp2_with (first
    | (go_at_call 18; have _t := tok1; clear _t tok1; refine (T1.out _ (fieldsIn_below H1.out B1.out)).mono ?_; rintro e w2 ⟨v, rfl, ⟨g2, rfl, _, _, hs, _⟩, hB⟩; have B2 := Lib.hid (sx_next B1.out (Nat.le_refl _) hB); have X2 := Lib.hid hs; clear hB hs)
    | (go_at_call 17; refine (S.out _ _ _ X2.out).mono ?_; rintro e w3 ⟨rfl, hB⟩; have B3 := Lib.hid (sx_next B2.out (Nat.le_refl _) hB); clear hB)
    | (go_at_call 18; have _t := tok2; clear _t tok2; refine (T1.out _ (fieldsIn_below H1.out B3.out)).mono ?_; rintro e w4 ⟨v, rfl, ⟨g4, rfl, _, _, hs, _⟩, hB⟩; have B4 := Lib.hid (sx_next B3.out (Nat.le_refl _) hB); have X4 := Lib.hid hs; clear hB hs)
    | (go_at_call 19; refine (I.out _ _ _ X4.out (tx_below TT.out B4.out)).mono ?_; rintro e w5 ⟨rfl, hB⟩; have B5 := Lib.hid (sx_next B4.out (Nat.le_refl _) hB); have X5 := Lib.hid (fieldsIn_below X4.out hB); clear hB)
    | (go_at_call 18; have _t := tok3; clear _t tok3; refine (T1.out _ (fieldsIn_below H1.out B5.out)).mono ?_; rintro e w6 ⟨v, rfl, ⟨g6, rfl, _, _, hs, _⟩, hB⟩; have B6 := Lib.hid (sx_next B5.out (Nat.le_refl _) hB); have X6 := Lib.hid (fieldsIn_below X5.out hB); have Y6 := Lib.hid hs; clear hB hs)
    | (go_at_call 20; refine (E1.out _ _ _ _ _ X6.out Y6.out).mono ?_; rintro e w7 ⟨rfl, hB⟩; have B7 := Lib.hid (sx_next B6.out (Nat.le_refl _) hB); clear hB))
  all_goals go_returns
  all_goals exact ⟨rfl, B7.out⟩
/-! ### The frame round the walk -/
section
set_option maxRecDepth 100000 in
theorem fnExactSchemeText_lifted (os : Os) (started : os.Started) (H : Type) (enc : TypeId × Value → H) :
    ReturnsInHanded {} Tryd.checked os 5 .any (fun w args => (Rows.fnExactSchemeTextSpec.pre enc Tryd.prog Tryd.f5 Rows.fnExactSchemeTextRow.domain false w args ∧ laidMetH Tryd.prog Rows.fnExactSchemeTextRow.laid w) ∧ sizedMet enc Tryd.prog Tryd.f5 (OpenSpec.ofChange Rows.fnExactSchemeTextSpec) false w args) (Rows.fnExactSchemeTextSpec.post enc Tryd.prog Tryd.f5 false true false false) := by
  refine returnsInHanded_of_change_and (C := Tryd.checked) (X := fun w _ => laidMetH Tryd.prog Rows.fnExactSchemeTextRow.laid w) (fun _ _ _ hh h => h.of_heap hh) own started (by kernel_rfl) Tryd.func5
    (ChangeSpec.witness_shaped (enc := enc) (C := Tryd.checked) (os := os) (X := fun w _ => laidMetH Tryd.prog Rows.fnExactSchemeTextRow.laid w) false (World.laidAll Tryd.prog os Rows.fnExactSchemeTextRow.laid) #[.slice none 0 0] 8 (World.laidAll_os _ _ _)
      (World.shaped_of_ZipB (by kernel_rfl) (by kernel_rfl)) (by kernel_rfl) (by kernel_rfl) (by kernel_rfl)
      (by rw [MakeChecks.laidMetH_plain _ _ _ (by kernel_rfl)]; exact laidMet_laidAll _ (by kernel_rfl) (by kernel_rfl))) ?_
  intro W base args ds gs before hval0 hW _ _ hX _
  rw [MakeChecks.laidMetH_plain _ _ _ (by kernel_rfl)] at hX
  have hTx : TxIs Tryd.prog W "loop.example/g01261/impl.kindWords" kdWd := tx_of_laid (zs := kdWd) hX (g := 0) (t := 90) (e := 9) (n := 4) (by kernel_rfl) (by kernel_rfl) Tryd.underlying90 Tryd.underlying9 (by kernel_rfl) (by kernel_rfl)
  have hval : ∀ (j : Nat) t v, Tryd.f5.params[j]? = some t → args[j]? = some v → Value.okWide Tryd.prog W .any base t v := hval0
  have hW' := hW
  obtain ⟨p, q, hA0, hV, rfl, _, _⟩ := hW
  have hA : DataW.TrodAll enc Tryd.prog W 0 (fun _ => true) true Tryd.f5.params.toList args.toList ds p := hA0
  obtain ⟨pv, hpv⟩ := tx_vars enc (sp := fun _ => true) (w := W) hTx (g := 0) (t := 90) (e := 9) (n := 4) (by kernel_rfl) (by kernel_rfl) Tryd.underlying90 Tryd.underlying9 (by kernel_rfl) (by kernel_rfl) rfl (by decide)
  obtain ⟨rfl, rfl⟩ := hV.unique hpv
  have hlt : ∀ x ∈ p, x.block < W.heap.size := fun x hx => hW'.lt x (List.mem_append_left _ hx)
  rw [Tryd.params5] at hA hval
  obtain ⟨v0, vs0, d0, ds0, p0, q0, hargs, rfl, rfl, h0, r0⟩ := trodAll_cons hA
  obtain ⟨rfl, rfl, rfl⟩ := trodAll_nil r0
  obtain rfl : args = #[v0] := by cases args; simp_all
  obtain ⟨a0, fs0, c0, rfl, hz0, hl0⟩ := open_fields (e := 86) (by kernel_rfl) Tryd.underlying86 (by kernel_rfl) (by kernel_rfl) (by kernel_rfl) (by kernel_rfl) (by kernel_rfl) (by kernel_rfl) (by kernel_rfl) (by kernel_rfl) (by kernel_rfl) (by kernel_rfl) (by kernel_rfl) (by kernel_rfl) (by kernel_rfl) (hval 0 40 v0 rfl rfl) h0
  refine (fnExactSchemeText_walk a0 fs0 c0 W hTx hz0 hl0).mono fun e W' ⟨he, hb⟩ => ?_
  subst he
  obtain ⟨pv2, hpv2⟩ := tx_vars enc (sp := fun b => decide (b < W.heap.size)) (w := W') (tx_below hTx hb) (g := 0) (t := 90) (e := 9) (n := 4) (by kernel_rfl) (by kernel_rfl) Tryd.underlying90 Tryd.underlying9 (by kernel_rfl) (by kernel_rfl) rfl (by decide)
  exact ⟨_, rfl, law_postT laidOut rfl Tryd.underlying4 (of_all (by kernel_rfl)) hW' rfl rfl rfl hpv2 hb⟩

theorem fnExactSchemeText_over : Rows.fnExactSchemeTextRow.holds Tryd.pinned (OpenSpec.ofChange Rows.fnExactSchemeTextSpec) :=
  OpenClaim.holds_of_wide 5 Tryd.f5 rfl rfl rfl rfl rfl rfl rfl ⟨rfl, rfl, rfl, rfl, rfl⟩ rfl rfl rfl rfl rfl (by kernel_rfl) Tryd.func5 (by kernel_rfl)
    (of_decide_eq_true (by kernel_rfl)) (by unfold Func.isWrapper; rw [if_neg (of_decide_eq_false (by kernel_rfl))]; exact ⟨rfl, rfl⟩)
    (fun os started H enc _ => fnExactSchemeText_lifted os started H enc)

/-- The card. -/
theorem fnExactSchemeText_holds : Rows.FnExactSchemeTextCardSaid :=
  Claim7.holds_tied_plain_at .later [] [.data, .data, .data, .data] true _ true fnExactSchemeText_over (fun _ h => by cases h) (by kernel_rfl) (fun _ h => by cases h) fnExactSchemeText_row_tie rfl ⟨rfl, rfl⟩ (by kernel_rfl) rfl
    (fun f fn hf hfn => by
      obtain rfl : f = 5 := Option.some.inj ((show Tryd.prog.funcNamed Tryd.f5.name = some 5 by kernel_rfl).symm.trans hf) |>.symm
      obtain rfl : fn = Tryd.f5 := (Option.some.inj (Tryd.func5.symm.trans hfn)).symm
      exact ⟨by kernel_rfl, fun j t ht => by
        rw [Tryd.params5] at ht
        have hm : t ∈ [40] := by simpa using Array.mem_of_getElem? ht
        have hall : ([40].all fun u => !Tryd.prog.wantsStandIn u) = true := by kernel_rfl
        exact (show Tryd.prog.wantsStandIn t = false by simpa using List.all_eq_true.1 hall t hm)⟩)
    (by kernel_rfl)
end
end Go.Proofs.YtllhglakihfjmaaDoor


