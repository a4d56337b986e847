/- ReadCatalogue answers, for every text, as its model does; its answer is memory of its own. No conditions. -/
import Derived.Test.YtppjmngnjdeigaaDoorRgI
import Derived.Test.YtppjmngnjdeigaaDoorEHeldC
import Derived.Test.YtppjmngnjdeigaaDoorDoor
namespace Go.Proofs.YtppjmngnjdeigaaDoor
open Go.ChangeShapes Go.WideShapes Go.ChangeAt Go.RowKit

theorem rgI_facts (s : ByteArray) : ((rgI s).getD []).length ≤ 40 ∧ ∀ i, i < ((rgI s).getD []).length → (etAt ((rgI s).getD []) i).fits := by
  cases h : rgI s with
  | none => exact ⟨Nat.zero_le _, fun i hi => absurd hi (Nat.not_lt_zero _)⟩
  | some es =>
    obtain ⟨hk, _⟩ := rgI_some h
    have h40 := catOk_40 hk
    refine ⟨h40, fun i hi => ?_⟩
    show (etAt es i).fits
    have nm := cat_name hk hi
    have O := cat_one hk hi
    unfold EtOne at O
    unfold Et.fits I64 maxLen
    refine ⟨by omega, ?_, ?_⟩ <;> omega
theorem entsIn_upR {B : Nat} {w w' : World} {a : Option Addr} {cs : List Et} (h : EntsIn w a cs) (hB : w.heap.size ≤ B) (hb : Below B w w') : EntsIn w' a cs := entsIn_below h (hb.mono hB)
/-- One step behind a world whose own things stay. -/
theorem chR_next {B : Nat} {w a b : World} (h : Below B w a) (hB : B ≤ w.heap.size) (k : Below a.heap.size a b) : Below B w b := h.trans (Below.mono k (Nat.le_trans hB h.size))

set_option maxRecDepth 100000 in
set_option maxHeartbeats 3200000 in
theorem fnExactReadCatalogue_walk (s : ByteArray) (_hs : s.size ≤ maxLen) (w : World) :
    Calls Tryd.prog 5 #[.string s] w fun e w' => e = .returned (.bool true) ∧ Below w.heap.size w w' := by
  by_cases hl : 1048576 < s.size
  · have d1 : decide ((1048576 : Int) < (s.size : Int)) = true := decide_eq_true (by omega)
    clear hl
    go_enter Tryd.func5, Tryd.ntmps5
    go_wp2
    go_returns
    exact ⟨rfl, (by repeat' (first | (with_reducible exact Below.refl _ _) | (with_reducible assumption) | (with_reducible refine below_drewN ?_ _) | (with_reducible refine Below.drew ?_) | (with_reducible refine below_new ?_ _) | (with_reducible refine below_next ?_ (by with_reducible assumption)) | (with_reducible refine Below.setCell ?_ ?_ _) | go_size))⟩
  · have d1 : decide ((1048576 : Int) < (s.size : Int)) = false := decide_eq_false (by omega)
    have S := fun W => sReadCat_any s (by omega) W
    have I := fun W => iReadCat_any s (by omega) W
    obtain ⟨xl, FX⟩ := rgI_facts s
    unfold RgR at S I
    rw [← rg_same] at S
    generalize (rgI s).getD [] = xs at *
    generalize (if (rgI s).isSome = true then (0 : Int) else 5) = cd at *
    have xl : xs.length ≤ 1048576 := by omega
    have E3 := Lib.hid fun a b c d W ha hb => eqEntryS_same a b xs c d W ha hb xl
    have hk3 : 1 + 3 * xs.length ≤ 4000000 := by omega
    have MO := fun B v W hO => markEntsOwn_any B xs v 1 W hO hk3
    have HC := fun a (es : List Et) c W (hl : es.length = xs.length) hC hM => (hl ▸ heldEnts_any a es c 1 W hC hM (by rw [hl]; exact hk3) : Calls Tryd.prog 23 #[.slice a xs.length c, .int .i64 ((1 : Nat) : Int)] W fun e w' => e = .returned (.int .i64 ((1 + 3 * xs.length : Nat) : Int)) ∧ Below W.heap.size W w')
    generalize 1 + 3 * xs.length = kx at *
    have MO := Lib.hid MO
    have HC := Lib.hid HC
    have q2 : decide ((kx : Int) < 0) = false := by simp
    have q3 : ((kx : Int) != (kx : Int)) = false := by simp
    have q4 : (cd != cd) = false := by simp
    have FX := Lib.hid FX
    replace S := Lib.hid S
    replace I := Lib.hid I
    clear hl hk3 xl
    have tk1 : True := trivial
    have tk2 : True := trivial
    have tk3 : True := trivial
    have tk4 : True := trivial
    have tk5 : True := trivial
    have tk6 : True := trivial
    go_enter Tryd.func5, Tryd.ntmps5
    go_wp2_with (first
      | (go_at_call 19; refine (S.out _).mono ?_; rintro e w1 ⟨v1, rfl, hO, hB⟩; obtain ⟨a1, c1, rfl, hi⟩ := ownEnts_in hO; have S1 := Lib.hid (entsIn_of hi FX.out); have B1 := Lib.hid hB; clear hO hi hB)
      | (go_at_call 20; have _t := tk1; clear _t tk1; refine (I.out _).mono ?_; rintro e w2 ⟨v2, rfl, hO, hB⟩; obtain ⟨a2, c2, rfl, hi⟩ := ownEnts_in hO; have O2 := Lib.hid hO; have I2 := Lib.hid (entsIn_of hi FX.out); have D2 := Lib.hid hB; clear hO hi hB)
      | (go_at_call 21; have _t := tk2; clear _t tk2; refine (E3.out _ _ _ _ _ I2.out (entsIn_upR S1.out (Nat.le_refl _) D2.out)).mono ?_; rintro e w3 ⟨rfl, hB⟩; have D3 := Lib.hid (chR_next D2.out (Nat.le_refl _) hB); have O3 := Lib.hid (ownEnts_kept O2.out hB); clear hB)
      | (go_at_call 22; refine (MO.out _ _ _ O3.out).mono ?_; rintro e w4 ⟨rfl, ⟨es, hdl, hdm, hO⟩, hB⟩; obtain ⟨am, cm, hv, hi⟩ := ownEnts_in hO; rw [hdl] at hv; cases hv; have M4 := Lib.hid hi; have DL := Lib.hid hdl; have DM := Lib.hid hdm; have D4 := Lib.hid (D3.out.trans hB); clear hO hB hi hdl hdm)
      | (go_at_call 23; have _t := tk3; clear _t tk3; refine (HC.out _ _ _ _ DL.out M4.out DM.out).mono ?_; rintro e w5 ⟨rfl, hB⟩; have M5 := Lib.hid (cellsE_below M4.out hB); have D5 := Lib.hid (chR_next D4.out (Nat.le_refl _) hB); clear hB)
      | (go_at_call 20; have _t := tk4; clear _t tk4; refine (I.out _).mono ?_; rintro e w6 ⟨v6, rfl, hO, hB⟩; obtain ⟨a6, c6, rfl, hi⟩ := ownEnts_in hO; have I6 := Lib.hid (entsIn_of hi FX.out); have M6 := Lib.hid (cellsE_below M5.out hB); have D6 := Lib.hid (chR_next D5.out (Nat.le_refl _) hB); clear hO hi hB)
      | (go_at_call 21; have _t := tk5; clear _t tk5; refine (E3.out _ _ _ _ _ I6.out (entsIn_upR S1.out (Nat.le_refl _) D6.out)).mono ?_; rintro e w7 ⟨rfl, hB⟩; have M7 := Lib.hid (cellsE_below M6.out hB); have D7 := Lib.hid (chR_next D6.out (Nat.le_refl _) hB); clear hB)
      | (go_at_call 23; have _t := tk6; clear _t tk6; refine (HC.out _ _ _ _ DL.out M7.out DM.out).mono ?_; rintro e w8 ⟨rfl, hB⟩; have B8 := Lib.hid (B1.out.trans (Below.mono (chR_next D7.out (Nat.le_refl _) hB) B1.out.size)); clear hB))
    all_goals go_returns
    all_goals exact ⟨rfl, B8.out⟩
/-! ### The frame round the walk -/
section
set_option maxRecDepth 100000 in
theorem fnExactReadCatalogue_lifted (os : Os) (started : os.Started) (H : Type) (enc : TypeId × Value → H) :
    ReturnsInHanded {} Tryd.checked os 5 .any (fun w args => (Rows.fnExactReadCatalogueSpec.pre enc Tryd.prog Tryd.f5 Rows.fnExactReadCatalogueRow.domain false w args ∧ laidMetH Tryd.prog Rows.fnExactReadCatalogueRow.laid w) ∧ sizedMet enc Tryd.prog Tryd.f5 (OpenSpec.ofChange Rows.fnExactReadCatalogueSpec) false w args) (Rows.fnExactReadCatalogueSpec.post enc Tryd.prog Tryd.f5 false true false false) := by
  refine returnsInHanded_of_change_and (C := Tryd.checked) (X := fun w _ => laidMetH Tryd.prog Rows.fnExactReadCatalogueRow.laid w) (fun _ _ _ hh h => h.of_heap hh) own started (by kernel_rfl) Tryd.func5
    (ChangeSpec.witness_shaped (enc := enc) (C := Tryd.checked) (os := os) (X := fun w _ => laidMetH Tryd.prog Rows.fnExactReadCatalogueRow.laid w) false (World.laidAll Tryd.prog os Rows.fnExactReadCatalogueRow.laid) #[.string ByteArray.empty] 8 (World.laidAll_os _ _ _)
      (World.shaped_of_ZipB (by kernel_rfl) (by kernel_rfl)) (by kernel_rfl) (by kernel_rfl) (by kernel_rfl)
      (by rw [MakeChecks.laidMetH_plain _ _ _ (by kernel_rfl)]; exact laidMet_laidAll _ (by kernel_rfl) (by kernel_rfl))) ?_
  intro W base args ds gs before hval0 hW _ _ _ _
  have hval : ∀ (j : Nat) t v, Tryd.f5.params[j]? = some t → args[j]? = some v → Value.okWide Tryd.prog W .any base t v := hval0
  have hW' := hW
  obtain ⟨p, q, hA0, hV, rfl, _, _⟩ := hW
  have hA : DataW.TrodAll enc Tryd.prog W 0 (fun _ => true) true Tryd.f5.params.toList args.toList ds p := hA0
  obtain ⟨rfl, rfl⟩ := trodVars_none hV
  have hlt : ∀ x ∈ p, x.block < W.heap.size := fun x hx => by simpa using hW'.lt x (by simpa using hx)
  rw [Tryd.params5] at hA hval
  obtain ⟨v0, vs0, d0, ds0, p0, q0, hargs, rfl, rfl, h0, r0⟩ := trodAll_cons hA
  obtain ⟨rfl, rfl, rfl⟩ := trodAll_nil r0
  obtain rfl : args = #[v0] := by cases args; simp_all
  obtain ⟨s0, rfl, hs0⟩ := open_str (by kernel_rfl) (hval 0 9 v0 rfl rfl)
  refine (fnExactReadCatalogue_walk s0 hs0 W).mono fun e W' ⟨he, hb⟩ => ?_
  subst he
  exact ⟨_, rfl, law_post laidOut rfl Tryd.underlying4 (of_all (by kernel_rfl)) rfl hW' rfl rfl rfl hb⟩

theorem fnExactReadCatalogue_over : Rows.fnExactReadCatalogueRow.holds Tryd.pinned (OpenSpec.ofChange Rows.fnExactReadCatalogueSpec) :=
  OpenClaim.holds_of_wide 5 Tryd.f5 rfl rfl rfl rfl rfl rfl rfl ⟨rfl, rfl, rfl, rfl, rfl⟩ rfl rfl rfl rfl rfl (by kernel_rfl) Tryd.func5 (by kernel_rfl)
    (of_decide_eq_true (by kernel_rfl)) (by unfold Func.isWrapper; rw [if_neg (of_decide_eq_false (by kernel_rfl))]; exact ⟨rfl, rfl⟩)
    (fun os started H enc _ => fnExactReadCatalogue_lifted os started H enc)

/-- The card. -/
theorem fnExactReadCatalogue_holds : Rows.FnExactReadCatalogueCardSaid :=
  Claim7.holds_tied_plain_at .later [] [.data, .pinned] true _ true fnExactReadCatalogue_over (fun _ h => by cases h) (by kernel_rfl) (fun _ h => by cases h) fnExactReadCatalogue_row_tie rfl ⟨rfl, rfl⟩ (by kernel_rfl) rfl
    (fun f fn hf hfn => by
      obtain rfl : f = 5 := Option.some.inj ((show Tryd.prog.funcNamed Tryd.f5.name = some 5 by kernel_rfl).symm.trans hf) |>.symm
      obtain rfl : fn = Tryd.f5 := (Option.some.inj (Tryd.func5.symm.trans hfn)).symm
      exact ⟨by kernel_rfl, fun j t ht => by
        rw [Tryd.params5] at ht
        have hm : t ∈ [9] := by simpa using Array.mem_of_getElem? ht
        have hall : ([9].all fun u => !Tryd.prog.wantsStandIn u) = true := by kernel_rfl
        exact (show Tryd.prog.wantsStandIn t = false by simpa using List.all_eq_true.1 hall t hm)⟩)
    (by kernel_rfl)
end
end Go.Proofs.YtppjmngnjdeigaaDoor

