/- CatalogueText answers, for every catalogue, as its model does. No conditions but what the library's tables read as. -/
import Derived.Test.YtllhglakihfjmaaDoorCgT
import Derived.Test.YtllhglakihfjmaaDoorEnt3
import Derived.Test.YtllhglakihfjmaaDoorDoor
import Derived.Deep.DeepCutAuto
namespace Go.Proofs.YtllhglakihfjmaaDoor
open Go.ChangeShapes Go.WideShapes Go.ChangeAt Go.RowKit

theorem cg_next {B : Nat} {w a b : World} (h : Below B w a) (hB : B ≤ w.heap.size) (k : Below a.heap.size a b) : Below B w b := h.trans (Below.mono k (Nat.le_trans hB h.size))

set_option maxRecDepth 100000 in
set_option maxHeartbeats 3200000 in
theorem fnExactCatalogueText_walk (a1 : Option Addr) (cs : List Et) (c1 : Nat) (w : World) (h1 : EntsIn w a1 cs) (l1 : cs.length ≤ maxLen) :
    Calls Tryd.prog 8 #[.slice a1 cs.length c1] w fun e w' => e = .returned (.bool true) ∧ Below w.heap.size w w' := by
  unfold maxLen at l1
  have H1 := Lib.hid h1
  have Z1 := Lib.hid fun W hs => szEntryS_any a1 cs c1 1048576 W hs (by decide) (by decide) (by omega)
  clear l1 h1
  go_enter Tryd.func8, Tryd.ntmps8
  go_upto_region 3 with (go_at_call 31; refine (Z1.out _ H1.out).mono ?_; rintro e w1 ⟨z, rfl, z0, z1, z2, hB⟩; have B1 := Lib.hid hB; clear hB)
  by_cases hz0 : z < 0
  · have d1 : decide (z < 0) = true := decide_eq_true hz0
    go_wp2
    go_returns
    exact ⟨rfl, B1.out⟩
  have d1 : decide (z < 0) = false := decide_eq_false hz0
  have n1 : cs.length ≤ 1048576 := z2 (by omega)
  clear z0 z1 z2 hz0
  have T1 := Lib.hid fun W hs => toEntryS_any a1 cs c1 W hs n1
  have E1 := Lib.hid fun a b c d W ha hb => eqEntryS_same a b cs c d W ha hb n1
  have S := Lib.hid fun a c W h => sCgText_any a cs c W h
  have I := Lib.hid fun a c W h => iCgText_any a cs c W h
  generalize cgT cs = t at *
  have n2 : (t.toList != t.toList) = false := by simp
  clear n1
  have tok1 : True := trivial
  have tok2 : True := trivial
  have tok3 : True := trivial
  go_wp2_with (first
    | (go_at_call 33; have _t := tok1; clear _t tok1; refine (T1.out _ (entsIn_below H1.out B1.out)).mono ?_; rintro e w2 ⟨v, rfl, ⟨g2, rfl, _, _, hs, _⟩, hB⟩; have B2 := Lib.hid (cg_next B1.out (Nat.le_refl _) hB); have X2 := Lib.hid hs; clear hB hs)
    | (go_at_call 32; refine (S.out _ _ _ X2.out).mono ?_; rintro e w3 ⟨rfl, hB⟩; have B3 := Lib.hid (cg_next B2.out (Nat.le_refl _) hB); clear hB)
    | (go_at_call 33; have _t := tok2; clear _t tok2; refine (T1.out _ (entsIn_below H1.out B3.out)).mono ?_; rintro e w4 ⟨v, rfl, ⟨g4, rfl, _, _, hs, _⟩, hB⟩; have B4 := Lib.hid (cg_next B3.out (Nat.le_refl _) hB); have X4 := Lib.hid hs; clear hB hs)
    | (go_at_call 34; refine (I.out _ _ _ X4.out).mono ?_; rintro e w5 ⟨rfl, hB⟩; have B5 := Lib.hid (cg_next B4.out (Nat.le_refl _) hB); have X5 := Lib.hid (entsIn_below X4.out hB); clear hB)
    | (go_at_call 33; have _t := tok3; clear _t tok3; refine (T1.out _ (entsIn_below H1.out B5.out)).mono ?_; rintro e w6 ⟨v, rfl, ⟨g6, rfl, _, _, hs, _⟩, hB⟩; have B6 := Lib.hid (cg_next B5.out (Nat.le_refl _) hB); have X6 := Lib.hid (entsIn_below X5.out hB); have Y6 := Lib.hid hs; clear hB hs)
    | (go_at_call 35; refine (E1.out _ _ _ _ _ X6.out Y6.out).mono ?_; rintro e w7 ⟨rfl, hB⟩; have B7 := Lib.hid (cg_next B6.out (Nat.le_refl _) hB); clear hB))
  all_goals go_returns
  all_goals exact ⟨rfl, B7.out⟩
/-! ### The frame round the walk -/
section
set_option maxRecDepth 100000 in
theorem fnExactCatalogueText_lifted (os : Os) (started : os.Started) (H : Type) (enc : TypeId × Value → H) :
    ReturnsInHanded {} Tryd.checked os 8 .any (fun w args => (Rows.fnExactCatalogueTextSpec.pre enc Tryd.prog Tryd.f8 Rows.fnExactCatalogueTextRow.domain false w args ∧ laidMetH Tryd.prog Rows.fnExactCatalogueTextRow.laid w) ∧ sizedMet enc Tryd.prog Tryd.f8 (OpenSpec.ofChange Rows.fnExactCatalogueTextSpec) false w args) (Rows.fnExactCatalogueTextSpec.post enc Tryd.prog Tryd.f8 false true false false) := by
  refine returnsInHanded_of_change_and (C := Tryd.checked) (X := fun w _ => laidMetH Tryd.prog Rows.fnExactCatalogueTextRow.laid w) (fun _ _ _ hh h => h.of_heap hh) own started (by kernel_rfl) Tryd.func8
    (ChangeSpec.witness_shaped (enc := enc) (C := Tryd.checked) (os := os) (X := fun w _ => laidMetH Tryd.prog Rows.fnExactCatalogueTextRow.laid w) false (World.laidAll Tryd.prog os Rows.fnExactCatalogueTextRow.laid) #[.slice none 0 0] 8 (World.laidAll_os _ _ _)
      (World.shaped_of_ZipB (by kernel_rfl) (by kernel_rfl)) (by kernel_rfl) (by kernel_rfl) (by kernel_rfl)
      (by rw [MakeChecks.laidMetH_plain _ _ _ (by kernel_rfl)]; exact laidMet_laidAll _ (by kernel_rfl) (by kernel_rfl))) ?_
  intro W base args ds gs before hval0 hW _ _ _ _
  have hval : ∀ (j : Nat) t v, Tryd.f8.params[j]? = some t → args[j]? = some v → Value.okWide Tryd.prog W .any base t v := hval0
  have hW' := hW
  obtain ⟨p, q, hA0, hV, rfl, _, _⟩ := hW
  have hA : DataW.TrodAll enc Tryd.prog W 0 (fun _ => true) true Tryd.f8.params.toList args.toList ds p := hA0
  obtain ⟨rfl, rfl⟩ := trodVars_none hV
  have hlt : ∀ x ∈ p, x.block < W.heap.size := fun x hx => by simpa using hW'.lt x (by simpa using hx)
  rw [Tryd.params8] at hA hval
  obtain ⟨v0, vs0, d0, ds0, p0, q0, hargs, rfl, rfl, h0, r0⟩ := trodAll_cons hA
  obtain ⟨rfl, rfl, rfl⟩ := trodAll_nil r0
  obtain rfl : args = #[v0] := by cases args; simp_all
  obtain ⟨a0, cs0, c0, rfl, hz0, hl0⟩ := open_ents (e := 116) (by kernel_rfl) Tryd.underlying116 (by kernel_rfl) (by kernel_rfl) (by kernel_rfl) (by kernel_rfl) (by kernel_rfl) (by kernel_rfl) (by kernel_rfl) (by kernel_rfl) (by kernel_rfl) (by kernel_rfl) (hval 0 61 v0 rfl rfl) h0
  refine (fnExactCatalogueText_walk a0 cs0 c0 W hz0 hl0).mono fun e W' ⟨he, hb⟩ => ?_
  subst he
  exact ⟨_, rfl, law_post laidOut rfl Tryd.underlying4 (of_all (by kernel_rfl)) rfl hW' rfl rfl rfl hb⟩

theorem fnExactCatalogueText_over : Rows.fnExactCatalogueTextRow.holds Tryd.pinned (OpenSpec.ofChange Rows.fnExactCatalogueTextSpec) :=
  OpenClaim.holds_of_wide 8 Tryd.f8 rfl rfl rfl rfl rfl rfl rfl ⟨rfl, rfl, rfl, rfl, rfl⟩ rfl rfl rfl rfl rfl (by kernel_rfl) Tryd.func8 (by kernel_rfl)
    (of_decide_eq_true (by kernel_rfl)) (by unfold Func.isWrapper; rw [if_neg (of_decide_eq_false (by kernel_rfl))]; exact ⟨rfl, rfl⟩)
    (fun os started H enc _ => fnExactCatalogueText_lifted os started H enc)

/-- The card. -/
theorem fnExactCatalogueText_holds : Rows.FnExactCatalogueTextCardSaid :=
  Claim7.holds_tied_plain_at .later [] [.data, .pinned] true _ true fnExactCatalogueText_over (fun _ h => by cases h) (by kernel_rfl) (fun _ h => by cases h) fnExactCatalogueText_row_tie rfl ⟨rfl, rfl⟩ (by kernel_rfl) rfl
    (fun f fn hf hfn => by
      obtain rfl : f = 8 := Option.some.inj ((show Tryd.prog.funcNamed Tryd.f8.name = some 8 by kernel_rfl).symm.trans hf) |>.symm
      obtain rfl : fn = Tryd.f8 := (Option.some.inj (Tryd.func8.symm.trans hfn)).symm
      exact ⟨by kernel_rfl, fun j t ht => by
        rw [Tryd.params8] at ht
        have hm : t ∈ [61] := by simpa using Array.mem_of_getElem? ht
        have hall : ([61].all fun u => !Tryd.prog.wantsStandIn u) = true := by kernel_rfl
        exact (show Tryd.prog.wantsStandIn t = false by simpa using List.all_eq_true.1 hall t hm)⟩)
    (by kernel_rfl)
end
end Go.Proofs.YtllhglakihfjmaaDoor

