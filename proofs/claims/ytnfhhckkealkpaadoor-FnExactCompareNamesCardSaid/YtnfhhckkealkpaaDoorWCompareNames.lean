/- CompareNames answers, for all texts, as its model does. No conditions. -/
import Derived.Test.YtnfhhckkealkpaaDoorCnI
import Derived.Test.YtnfhhckkealkpaaDoorDoor
namespace Go.Proofs.YtnfhhckkealkpaaDoor
open Go.ChangeShapes Go.WideShapes Go.ChangeAt Go.RowKit

theorem cnR_parts (a b : ByteArray) : ∃ x k : Int, cnR a b = .tuple #[.int .i64 x, .int .i64 k] := by
  unfold cnR
  split
  · exact ⟨_, _, rfl⟩
  · exact ⟨_, _, rfl⟩

set_option maxHeartbeats 1600000 in
theorem fnExactCompareNames_walk (a : ByteArray) (_ha : a.size ≤ maxLen) (b : ByteArray) (_hb : b.size ≤ maxLen) (w : World) :
    Calls Tryd.prog 3 #[.string a, .string b] w fun e w' => e = .returned (.bool true) ∧ Below w.heap.size w w' := by
  by_cases h1 : 1048576 < a.size
  · have d1 : decide ((1048576 : Int) < (a.size : Int)) = true := decide_eq_true (by omega)
    clear h1
    go_enter Tryd.func3, Tryd.ntmps3
    go_wp2
    go_returns
    exact ⟨rfl, (by repeat' (first | (with_reducible exact Below.refl _ _) | (with_reducible assumption) | (with_reducible refine below_drewN ?_ _) | (with_reducible refine Below.drew ?_) | (with_reducible refine below_new ?_ _) | (with_reducible refine below_next ?_ (by with_reducible assumption)) | (with_reducible refine Below.setCell ?_ ?_ _) | go_size))⟩
  have d1 : decide ((1048576 : Int) < (a.size : Int)) = false := decide_eq_false (by omega)
  by_cases h2 : 1048576 < b.size
  · have d2 : decide ((1048576 : Int) < (b.size : Int)) = true := decide_eq_true (by omega)
    clear h1 h2
    go_enter Tryd.func3, Tryd.ntmps3
    go_wp2
    go_returns
    exact ⟨rfl, (by repeat' (first | (with_reducible exact Below.refl _ _) | (with_reducible assumption) | (with_reducible refine below_drewN ?_ _) | (with_reducible refine Below.drew ?_) | (with_reducible refine below_new ?_ _) | (with_reducible refine below_next ?_ (by with_reducible assumption)) | (with_reducible refine Below.setCell ?_ ?_ _) | go_size))⟩
  have d2 : decide ((1048576 : Int) < (b.size : Int)) = false := decide_eq_false (by omega)
  have S := fun W => sCompareNames_any a b (by omega) (by omega) W
  have I := fun W => iCompareNames_any a b (by omega) (by omega) W
  obtain ⟨x, k, hx⟩ := cnR_parts a b
  simp only [hx] at S I
  have hxx : (x != x) = false := by simp
  have hk : (k != k) = false := by simp
  have S := Lib.hid S
  have I := Lib.hid I
  clear h1 h2 hx
  go_enter Tryd.func3, Tryd.ntmps3
  go_wp2_with (first
    | (go_at_call 7; refine (S.out _).mono ?_; rintro e w1 ⟨rfl, hB⟩; have B1 := Lib.hid hB; clear hB)
    | (go_at_call 8; refine (I.out _).mono ?_; rintro e w2 ⟨rfl, hB⟩; have B2 := Lib.hid (B1.out.trans (Below.mono hB B1.out.size)); clear hB))
  all_goals go_returns
  all_goals exact ⟨rfl, B2.out⟩
/-! ### The frame round the walk -/
section
set_option maxRecDepth 100000 in
theorem fnExactCompareNames_lifted (os : Os) (started : os.Started) (H : Type) (enc : TypeId × Value → H) :
    ReturnsInHanded {} Tryd.checked os 3 .any (fun w args => (Rows.fnExactCompareNamesSpec.pre enc Tryd.prog Tryd.f3 Rows.fnExactCompareNamesRow.domain false w args ∧ laidMetH Tryd.prog Rows.fnExactCompareNamesRow.laid w) ∧ sizedMet enc Tryd.prog Tryd.f3 (OpenSpec.ofChange Rows.fnExactCompareNamesSpec) false w args) (Rows.fnExactCompareNamesSpec.post enc Tryd.prog Tryd.f3 false true false false) := by
  refine returnsInHanded_of_change_and (C := Tryd.checked) (X := fun w _ => laidMetH Tryd.prog Rows.fnExactCompareNamesRow.laid w) (fun _ _ _ hh h => h.of_heap hh) own started (by kernel_rfl) Tryd.func3
    (ChangeSpec.witness_shaped (enc := enc) (C := Tryd.checked) (os := os) (X := fun w _ => laidMetH Tryd.prog Rows.fnExactCompareNamesRow.laid w) false (World.laidAll Tryd.prog os Rows.fnExactCompareNamesRow.laid) #[.string ByteArray.empty, .string ByteArray.empty] 8 (World.laidAll_os _ _ _)
      (World.shaped_of_ZipB (by kernel_rfl) (by kernel_rfl)) (by kernel_rfl) (by kernel_rfl) (by kernel_rfl)
      (by rw [MakeChecks.laidMetH_plain _ _ _ (by kernel_rfl)]; exact laidMet_laidAll _ (by kernel_rfl) (by kernel_rfl))) ?_
  intro W base args ds gs before hval0 hW _ _ _ _
  have hval : ∀ (j : Nat) t v, Tryd.f3.params[j]? = some t → args[j]? = some v → Value.okWide Tryd.prog W .any base t v := hval0
  have hW' := hW
  obtain ⟨p, q, hA0, hV, rfl, _, _⟩ := hW
  have hA : DataW.TrodAll enc Tryd.prog W 0 (fun _ => true) true Tryd.f3.params.toList args.toList ds p := hA0
  obtain ⟨rfl, rfl⟩ := trodVars_none hV
  have hlt : ∀ x ∈ p, x.block < W.heap.size := fun x hx => by simpa using hW'.lt x (by simpa using hx)
  rw [Tryd.params3] at hA hval
  obtain ⟨v0, vs0, d0, ds0, p0, q0, hargs, rfl, rfl, h0, r0⟩ := trodAll_cons hA
  obtain ⟨v1, vs1, d1, ds1, p1, q1, rfl, rfl, rfl, h1, r1⟩ := trodAll_cons r0
  obtain ⟨rfl, rfl, rfl⟩ := trodAll_nil r1
  obtain rfl : args = #[v0, v1] := by cases args; simp_all
  obtain ⟨s0, rfl, hs0⟩ := open_str (by kernel_rfl) (hval 0 9 v0 rfl rfl)
  obtain ⟨s1, rfl, hs1⟩ := open_str (by kernel_rfl) (hval 1 9 v1 rfl rfl)
  refine (fnExactCompareNames_walk s0 hs0 s1 hs1 W).mono fun e W' ⟨he, hb⟩ => ?_
  subst he
  exact ⟨_, rfl, law_post laidOut rfl Tryd.underlying4 (of_all (by kernel_rfl)) rfl hW' rfl rfl rfl hb⟩

theorem fnExactCompareNames_over : Rows.fnExactCompareNamesRow.holds Tryd.pinned (OpenSpec.ofChange Rows.fnExactCompareNamesSpec) :=
  OpenClaim.holds_of_wide 3 Tryd.f3 rfl rfl rfl rfl rfl rfl rfl ⟨rfl, rfl, rfl, rfl, rfl⟩ rfl rfl rfl rfl rfl (by kernel_rfl) Tryd.func3 (by kernel_rfl)
    (of_decide_eq_true (by kernel_rfl)) (by unfold Func.isWrapper; rw [if_neg (of_decide_eq_false (by kernel_rfl))]; exact ⟨rfl, rfl⟩)
    (fun os started H enc _ => fnExactCompareNames_lifted os started H enc)

/-- The card. -/
theorem fnExactCompareNames_holds : Rows.FnExactCompareNamesCardSaid :=
  Claim7.holds_tied_plain_at .later [] [.data, .pinned] true _ false fnExactCompareNames_over (fun _ h => by cases h) (by kernel_rfl) (fun _ h => by cases h) fnExactCompareNames_row_tie rfl ⟨rfl, rfl⟩ (by kernel_rfl) rfl
    (fun f fn hf hfn => by
      obtain rfl : f = 3 := Option.some.inj ((show Tryd.prog.funcNamed Tryd.f3.name = some 3 by kernel_rfl).symm.trans hf) |>.symm
      obtain rfl : fn = Tryd.f3 := (Option.some.inj (Tryd.func3.symm.trans hfn)).symm
      exact ⟨by kernel_rfl, fun j t ht => by
        rw [Tryd.params3] at ht
        have hm : t ∈ [9, 9] := by simpa using Array.mem_of_getElem? ht
        have hall : ([9, 9].all fun u => !Tryd.prog.wantsStandIn u) = true := by kernel_rfl
        exact (show Tryd.prog.wantsStandIn t = false by simpa using List.all_eq_true.1 hall t hm)⟩)
    (by kernel_rfl)
end
end Go.Proofs.YtnfhhckkealkpaaDoor

