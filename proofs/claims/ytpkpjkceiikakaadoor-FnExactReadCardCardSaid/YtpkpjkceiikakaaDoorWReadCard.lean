/- ReadCard answers, for every text, as its model does. No conditions but what the library's listed variables read as. -/
import Derived.Test.YtpkpjkceiikakaaDoorRcI
import Derived.Test.YtpkpjkceiikakaaDoorRcS
import Derived.Test.YtpkpjkceiikakaaDoorPeL
import Derived.Test.YtpkpjkceiikakaaDoorDeck2
import Derived.Test.YtpkpjkceiikakaaDoorDoor
namespace Go.Proofs.YtpkpjkceiikakaaDoor
open Go.ChangeShapes Go.WideShapes Go.ChangeAt Go.RowKit

theorem rcV_is (o : Option (ByteArray × Int × Int)) : ∃ x y z c, rcV o = .tuple #[.agg #[.string x, .int .u64 y, .int .u64 z], .int .i64 c] := by
  match o with
  | some (x, y, z) => exact ⟨x, y, z, _, rfl⟩
  | none => exact ⟨_, _, _, _, rfl⟩
set_option maxRecDepth 100000 in
set_option maxHeartbeats 1600000 in
theorem fnExactReadCard_walk (s : ByteArray) (_hs : s.size ≤ maxLen) (w : World) (hP : PE w) :
    Calls Tryd.prog 4 #[.string s] w fun e w' => e = .returned (.bool true) ∧ Below w.heap.size w w' := by
  by_cases hl : 1048576 < s.size
  · have d1 : decide ((1048576 : Int) < (s.size : Int)) = true := decide_eq_true (by omega)
    clear hl
    go_enter Tryd.func4, Tryd.ntmps4
    go_wp2
    go_returns
    exact ⟨rfl, (by repeat' (first | (with_reducible exact Below.refl _ _) | (with_reducible assumption) | (with_reducible refine below_drewN ?_ _) | (with_reducible refine Below.drew ?_) | (with_reducible refine below_new ?_ _) | (with_reducible refine below_next ?_ (by with_reducible assumption)) | (with_reducible refine Below.setCell ?_ ?_ _) | go_size))⟩
  · have d1 : decide ((1048576 : Int) < (s.size : Int)) = false := decide_eq_false (by omega)
    have S := fun W => sReadCard_any s (by omega) W
    have I := fun W hP => iReadCard_any s (by omega) W hP
    obtain ⟨x, y, z, c, hv⟩ := rcV_is (rcG fI s)
    rw [← rc_same, hv] at S
    rw [hv] at I
    have nc : (c != c) = false := by simp
    have P0 := Lib.hid hP
    replace S := Lib.hid S
    replace I := Lib.hid I
    clear hl hv hP
    go_enter Tryd.func4, Tryd.ntmps4
    go_wp2_with (first
      | (go_at_call 10; refine (S.out _).mono ?_; rintro e w1 ⟨rfl, hB⟩; have B1 := Lib.hid (below_new hB (.cells #[.string x, .int .u64 y, .int .u64 z] 33)); have M1 := Lib.hid (block_alloc w1 (.cells #[.string x, .int .u64 y, .int .u64 z] 33)); clear hB)
      | (go_at_call 11; refine (I.out _ (P0.out.kept (Below.refl _ _) B1.out (Nat.le_refl _))).mono ?_; rintro e w2 ⟨rfl, hB⟩; have hB2 := below_new hB (.cells #[.string x, .int .u64 y, .int .u64 z] 33); have B2 := Lib.hid (B1.out.trans (Below.mono hB2 B1.out.size)); have M2 := Ab.block hB2 M1.out; have N2 := block_alloc w2 (.cells #[.string x, .int .u64 y, .int .u64 z] 33); have f0 := cell_of_block M2 0; have f1 := cell_of_block M2 1; have f2 := cell_of_block M2 2; have g0 := cell_of_block N2 0; have g1 := cell_of_block N2 1; have g2 := cell_of_block N2 2; have lf := lt_of_block M2; have lg := lt_of_block N2; clear hB hB2 M2 N2)
      | (go_at_call 12; refine (eqCard_same _ _ _ _).mono ?_; rintro e w3 ⟨rfl, hB⟩; have B3 := Lib.hid (B2.out.trans (Below.mono hB B2.out.size)); clear hB))
    all_goals go_returns
    all_goals exact ⟨rfl, B3.out⟩
/-! ### The frame round the walk -/
section
set_option maxRecDepth 100000 in
theorem fnExactReadCard_lifted (os : Os) (started : os.Started) (H : Type) (enc : TypeId × Value → H) :
    ReturnsInHanded {} Tryd.checked os 4 .any (fun w args => (Rows.fnExactReadCardSpec.pre enc Tryd.prog Tryd.f4 Rows.fnExactReadCardRow.domain false w args ∧ laidMetH Tryd.prog Rows.fnExactReadCardRow.laid w) ∧ sizedMet enc Tryd.prog Tryd.f4 (OpenSpec.ofChange Rows.fnExactReadCardSpec) false w args) (Rows.fnExactReadCardSpec.post enc Tryd.prog Tryd.f4 false true false false) := by
  refine returnsInHanded_of_change_and (C := Tryd.checked) (X := fun w _ => laidMetH Tryd.prog Rows.fnExactReadCardRow.laid w) (fun _ _ _ hh h => h.of_heap hh) own started (by kernel_rfl) Tryd.func4
    (ChangeSpec.witness_shaped (enc := enc) (C := Tryd.checked) (os := os) (X := fun w _ => laidMetH Tryd.prog Rows.fnExactReadCardRow.laid w) false (World.laidAll Tryd.prog os Rows.fnExactReadCardRow.laid) #[.string ByteArray.empty] 8 (World.laidAll_os _ _ _)
      (World.shaped_of_ZipB (by kernel_rfl) (by kernel_rfl)) (by kernel_rfl) (by kernel_rfl) (by kernel_rfl)
      (by rw [MakeChecks.laidMetH_plain _ _ _ (by kernel_rfl)]; exact laidMet_laidAll _ (by kernel_rfl) (by kernel_rfl))) ?_
  intro W base args ds gs before hval0 hW _ _ hX _
  rw [MakeChecks.laidMetH_plain _ _ _ (by kernel_rfl)] at hX
  have hPE : PE W := pe_of_laid hX
  have hval : ∀ (j : Nat) t v, Tryd.f4.params[j]? = some t → args[j]? = some v → Value.okWide Tryd.prog W .any base t v := hval0
  have hW' := hW
  obtain ⟨p, q, hA0, hV, rfl, _, _⟩ := hW
  have hA : DataW.TrodAll enc Tryd.prog W 0 (fun _ => true) true Tryd.f4.params.toList args.toList ds p := hA0
  obtain ⟨rfl, rfl⟩ := trodVars_none hV
  have hlt : ∀ x ∈ p, x.block < W.heap.size := fun x hx => by simpa using hW'.lt x (by simpa using hx)
  rw [Tryd.params4] at hA hval
  obtain ⟨v0, vs0, d0, ds0, p0, q0, hargs, rfl, rfl, h0, r0⟩ := trodAll_cons hA
  obtain ⟨rfl, rfl, rfl⟩ := trodAll_nil r0
  obtain rfl : args = #[v0] := by cases args; simp_all
  obtain ⟨s0, rfl, hs0⟩ := open_str (by kernel_rfl) (hval 0 9 v0 rfl rfl)
  refine (fnExactReadCard_walk s0 hs0 W hPE).mono fun e W' ⟨he, hb⟩ => ?_
  subst he
  exact ⟨_, rfl, law_post laidOut rfl Tryd.underlying4 (of_all (by kernel_rfl)) rfl hW' rfl rfl rfl hb⟩

theorem fnExactReadCard_over : Rows.fnExactReadCardRow.holds Tryd.pinned (OpenSpec.ofChange Rows.fnExactReadCardSpec) :=
  OpenClaim.holds_of_wide 4 Tryd.f4 rfl rfl rfl rfl rfl rfl rfl ⟨rfl, rfl, rfl, rfl, rfl⟩ rfl rfl rfl rfl rfl (by kernel_rfl) Tryd.func4 (by kernel_rfl)
    (of_decide_eq_true (by kernel_rfl)) (by unfold Func.isWrapper; rw [if_neg (of_decide_eq_false (by kernel_rfl))]; exact ⟨rfl, rfl⟩)
    (fun os started H enc _ => fnExactReadCard_lifted os started H enc)

/-- The card. -/
theorem fnExactReadCard_holds : Rows.FnExactReadCardCardSaid :=
  Claim7.holds_tied_plain_at .later [] [.data, .data, .data, .data, .sentinel, .sentinel, .pinned] true _ true fnExactReadCard_over (fun _ h => by cases h) (by kernel_rfl) (fun _ h => by cases h) fnExactReadCard_row_tie rfl ⟨rfl, rfl⟩ (by kernel_rfl) rfl
    (fun f fn hf hfn => by
      obtain rfl : f = 4 := Option.some.inj ((show Tryd.prog.funcNamed Tryd.f4.name = some 4 by kernel_rfl).symm.trans hf) |>.symm
      obtain rfl : fn = Tryd.f4 := (Option.some.inj (Tryd.func4.symm.trans hfn)).symm
      exact ⟨by kernel_rfl, fun j t ht => by
        rw [Tryd.params4] at ht
        have hm : t ∈ [9] := by simpa using Array.mem_of_getElem? ht
        have hall : ([9].all fun u => !Tryd.prog.wantsStandIn u) = true := by kernel_rfl
        exact (show Tryd.prog.wantsStandIn t = false by simpa using List.all_eq_true.1 hall t hm)⟩)
    (by kernel_rfl)
end
end Go.Proofs.YtpkpjkceiikakaaDoor


