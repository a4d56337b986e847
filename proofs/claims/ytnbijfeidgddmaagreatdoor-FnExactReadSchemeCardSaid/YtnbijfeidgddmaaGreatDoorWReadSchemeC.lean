/- ReadScheme answers, for every text, as its model does; its answer is memory of its own. No conditions but what the listed variables read as. -/
import Derived.Test.YtnbijfeidgddmaaGreatDoorRsZ6
import Derived.Test.YtnbijfeidgddmaaGreatDoorRsZ7
import Derived.Test.YtnbijfeidgddmaaGreatDoorRsZ3
namespace Go.Proofs.YtnbijfeidgddmaaGreatDoor
open Go.ChangeShapes Go.WideShapes Go.ChangeAt Go.RowKit

theorem rsI_few (s : ByteArray) : ((rsI s).getD []).length ≤ 12 := by
  unfold rsI
  split
  · split
    · rename_i h; exact schOk_12 h.1
    · exact Nat.zero_le _
  · exact Nat.zero_le _
theorem rsI_facts {s : ByteArray} (hs : s.size ≤ 1048576) : ∀ i, i < ((rsI s).getD []).length → (fdAt ((rsI s).getD []) i).fits := by
  unfold rsI
  split
  · rename_i fs hf
    split
    · exact fun i hi => rdF_fits (fun t ht => by unfold tl at ht; obtain ⟨l, hl, rfl⟩ := List.mem_map.1 ht; exact Nat.le_trans (trimB_le l) (Nat.le_trans (lns_fit hl) hs)) hf i hi
    · exact fun i hi => absurd hi (Nat.not_lt_zero _)
  · exact fun i hi => absurd hi (Nat.not_lt_zero _)
theorem fieldsIn_upR {B : Nat} {w w' : World} {a : Option Addr} {cs : List Fd} (h : FieldsIn w a cs) (hB : w.heap.size ≤ B) (hb : Below B w w') : FieldsIn w' a cs := fieldsIn_below h (hb.mono hB)
/-- One step behind a world whose own things stay. -/
theorem chX_next {B : Nat} {w a b : World} (h : Below B w a) (hB : B ≤ w.heap.size) (k : Below a.heap.size a b) : Below B w b := h.trans (Below.mono k (Nat.le_trans hB h.size))

set_option maxRecDepth 100000 in
set_option maxHeartbeats 3200000 in
theorem fnExactReadScheme_walk (s : ByteArray) (_hs : s.size ≤ maxLen) (w : World) (hP : PE w) (ht : TxIs Tryz.prog w "loop.example/g01261/impl.kindWords" kdWd) :
    Calls Tryz.prog 3 #[.string s] w fun e w' => e = .returned (.bool true) ∧ Below w.heap.size w w' := by
  by_cases hl : 1048576 < s.size
  · have d1 : decide ((1048576 : Int) < (s.size : Int)) = true := decide_eq_true (by omega)
    clear hl
    go_enter Tryz.func3, Tryz.ntmps3
    go_wp2
    go_returns
    exact ⟨rfl, (by repeat' (first | (with_reducible exact Below.refl _ _) | (with_reducible assumption) | (with_reducible refine below_drewN ?_ _) | (with_reducible refine Below.drew ?_) | (with_reducible refine below_new ?_ _) | (with_reducible refine below_next ?_ (by with_reducible assumption)) | (with_reducible refine Below.setCell ?_ ?_ _) | go_size))⟩
  · have d1 : decide ((1048576 : Int) < (s.size : Int)) = false := decide_eq_false (by omega)
    have S := fun W => sReadScheme_any s (by omega) W
    have I := fun W hP ht => iReadScheme_any s (by omega) W hP ht
    have FX := rsI_facts (s := s) (by omega)
    have xl := rsI_few s
    unfold RsR at S I
    rw [← rs_same] at S
    generalize (rsI s).getD [] = xs at *
    generalize (if (rsI s).isSome = true then (0 : Int) else 5) = cd at *
    have EQ := Lib.hid fun a b c d W ha hb => eqFieldS_same a b xs c d W ha hb (by omega)
    have MO := fun B v W h => markFdsOwn_any B xs v 1 W h (by omega)
    have HD := fun a ds c (hds : ds.length = xs.length) W h hm => heldFds_any a ds c 1 xs.length hds.symm W h hm (by omega)
    generalize 1 + 4 * xs.length = mm at *
    have MO := Lib.hid MO
    have HD := Lib.hid HD
    have n0 : decide ((mm : Int) < 0) = false := by simp
    have n3 : ((mm : Int) != (mm : Int)) = false := by simp
    have n4 : (cd != cd) = false := by simp
    have P0 := Lib.hid hP
    have T0 := Lib.hid ht
    have FT := Lib.hid FX
    replace S := Lib.hid S
    replace I := Lib.hid I
    clear hl hP ht xl
    have tok1 : True := trivial
    have tok2 : True := trivial
    have tok3 : True := trivial
    have tok4 : True := trivial
    have tok5 : True := trivial
    have tok6 : True := trivial
    go_enter Tryz.func3, Tryz.ntmps3
    go_wp2_with (first
      | (go_at_call 5; refine (S.out _).mono ?_; rintro e w1 ⟨v1, rfl, hO, hB⟩; obtain ⟨a1, c1, rfl, hi⟩ := ownFds_in hO; have S1 := Lib.hid (fieldsIn_ofO hi FT.out); have B1 := Lib.hid hB; clear hO hi hB)
      | (go_at_call 6; have _t := tok1; clear _t tok1; refine (I.out _ (P0.out.kept (Below.refl _ _) B1.out (Nat.le_refl _)) (tx_below T0.out B1.out)).mono ?_; rintro e w2 ⟨v2, rfl, hO, hB⟩; obtain ⟨a2, c2, rfl, hi⟩ := ownFds_in hO; have O2 := Lib.hid hO; have I2 := Lib.hid (fieldsIn_ofO hi FT.out); have D2 := Lib.hid hB; clear hO hi hB)
      | (go_at_call 7; have _t := tok2; clear _t tok2; refine (EQ.out _ _ _ _ _ I2.out (fieldsIn_upR S1.out (Nat.le_refl _) D2.out)).mono ?_; rintro e w3 ⟨rfl, hB⟩; have D3 := Lib.hid (chX_next D2.out (Nat.le_refl _) hB); have O3 := Lib.hid (ownFds_kept O2.out hB); clear hB)
      | (go_at_call 8; refine (MO.out _ _ _ O3.out).mono ?_; rintro e w4 ⟨rfl, ⟨ds, hds, hm, hO⟩, hB⟩; obtain ⟨am, cm, hv, hi⟩ := ownFds_in hO; rw [hds] at hv; cases hv; have M4 := Lib.hid hi; have MM := Lib.hid hm; have D4 := Lib.hid (D3.out.trans hB); clear hO hB hi hm)
      | (go_at_call 9; have _t := tok3; clear _t tok3; refine (HD.out _ _ _ hds _ M4.out MM.out).mono ?_; rintro e w5 ⟨rfl, hB⟩; have M5 := Lib.hid (cellsFd_below M4.out hB); have D5 := Lib.hid (chX_next D4.out (Nat.le_refl _) hB); clear hB)
      | (go_at_call 6; have _t := tok4; clear _t tok4; refine (I.out _ (P0.out.kept (Below.refl _ _) (B1.out.trans (Below.mono D5.out B1.out.size)) (Nat.le_refl _)) (tx_below T0.out (B1.out.trans (Below.mono D5.out B1.out.size)))).mono ?_; rintro e w6 ⟨v6, rfl, hO, hB⟩; obtain ⟨a6, c6, rfl, hi⟩ := ownFds_in hO; have I6 := Lib.hid (fieldsIn_ofO hi FT.out); have M6 := Lib.hid (cellsFd_below M5.out hB); have D6 := Lib.hid (chX_next D5.out (Nat.le_refl _) hB); clear hO hi hB)
      | (go_at_call 7; have _t := tok5; clear _t tok5; refine (EQ.out _ _ _ _ _ I6.out (fieldsIn_upR S1.out (Nat.le_refl _) D6.out)).mono ?_; rintro e w7 ⟨rfl, hB⟩; have M7 := Lib.hid (cellsFd_below M6.out hB); have D7 := Lib.hid (chX_next D6.out (Nat.le_refl _) hB); clear hB)
      | (go_at_call 9; have _t := tok6; clear _t tok6; refine (HD.out _ _ _ hds _ M7.out MM.out).mono ?_; rintro e w8 ⟨rfl, hB⟩; have B8 := Lib.hid (B1.out.trans (Below.mono (chX_next D7.out (Nat.le_refl _) hB) B1.out.size)); clear hB))
    all_goals go_returns
    all_goals exact ⟨rfl, B8.out⟩
/-! ### The frame round the walk -/
section
set_option maxRecDepth 100000 in
theorem fnExactReadScheme_lifted (os : Os) (started : os.Started) (H : Type) (enc : TypeId × Value → H) :
    ReturnsInHanded {} Tryz.checked os 3 .any (fun w args => (Rows.fnExactReadSchemeSpec.pre enc Tryz.prog Tryz.f3 Rows.fnExactReadSchemeRow.domain false w args ∧ laidMetH Tryz.prog Rows.fnExactReadSchemeRow.laid w) ∧ sizedMet enc Tryz.prog Tryz.f3 (OpenSpec.ofChange Rows.fnExactReadSchemeSpec) false w args) (Rows.fnExactReadSchemeSpec.post enc Tryz.prog Tryz.f3 false true false false) := by
  refine returnsInHanded_of_change_and (C := Tryz.checked) (X := fun w _ => laidMetH Tryz.prog Rows.fnExactReadSchemeRow.laid w) (fun _ _ _ hh h => h.of_heap hh) own started (by kernel_rfl) Tryz.func3
    (ChangeSpec.witness_shaped (enc := enc) (C := Tryz.checked) (os := os) (X := fun w _ => laidMetH Tryz.prog Rows.fnExactReadSchemeRow.laid w) false (World.laidAll Tryz.prog os Rows.fnExactReadSchemeRow.laid) #[.string ByteArray.empty] 8 (World.laidAll_os _ _ _)
      (World.shaped_of_ZipB (by kernel_rfl) (by kernel_rfl)) (by kernel_rfl) (by kernel_rfl) (by kernel_rfl)
      (by rw [MakeChecks.laidMetH_plain _ _ _ (by kernel_rfl)]; exact laidMet_laidAll _ (by kernel_rfl) (by kernel_rfl))) ?_
  intro W base args ds gs before hval0 hW _ _ hX _
  rw [MakeChecks.laidMetH_plain _ _ _ (by kernel_rfl)] at hX
  have hPE : PE W := pe_of_laid hX
  have hTx : TxIs Tryz.prog W "loop.example/g01261/impl.kindWords" kdWd := tx_of_laid (zs := kdWd) hX.tail.tail.tail (g := 0) (t := 77) (e := 9) (n := 4) (by kernel_rfl) (by kernel_rfl) Tryz.underlying77 Tryz.underlying9 (by kernel_rfl) (by kernel_rfl)
  have hval : ∀ (j : Nat) t v, Tryz.f3.params[j]? = some t → args[j]? = some v → Value.okWide Tryz.prog W .any base t v := hval0
  have hW' := hW
  obtain ⟨p, q, hA0, hV, rfl, _, _⟩ := hW
  have hA : DataW.TrodAll enc Tryz.prog W 0 (fun _ => true) true Tryz.f3.params.toList args.toList ds p := hA0
  obtain ⟨pv, hpv⟩ := tx_vars enc (sp := fun _ => true) (w := W) hTx (g := 0) (t := 77) (e := 9) (n := 4) (by kernel_rfl) (by kernel_rfl) Tryz.underlying77 Tryz.underlying9 (by kernel_rfl) (by kernel_rfl) rfl (by decide)
  obtain ⟨rfl, rfl⟩ := hV.unique hpv
  have hlt : ∀ x ∈ p, x.block < W.heap.size := fun x hx => hW'.lt x (List.mem_append_left _ hx)
  rw [Tryz.params3] at hA hval
  obtain ⟨v0, vs0, d0, ds0, p0, q0, hargs, rfl, rfl, h0, r0⟩ := trodAll_cons hA
  obtain ⟨rfl, rfl, rfl⟩ := trodAll_nil r0
  obtain rfl : args = #[v0] := by cases args; simp_all
  obtain ⟨s0, rfl, hs0⟩ := open_str (by kernel_rfl) (hval 0 9 v0 rfl rfl)
  refine (fnExactReadScheme_walk s0 hs0 W hPE hTx).mono fun e W' ⟨he, hb⟩ => ?_
  subst he
  obtain ⟨pv2, hpv2⟩ := tx_vars enc (sp := fun b => decide (b < W.heap.size)) (w := W') (tx_below hTx hb) (g := 0) (t := 77) (e := 9) (n := 4) (by kernel_rfl) (by kernel_rfl) Tryz.underlying77 Tryz.underlying9 (by kernel_rfl) (by kernel_rfl) rfl (by decide)
  exact ⟨_, rfl, law_postT laidOut rfl Tryz.underlying4 (of_all (by kernel_rfl)) hW' rfl rfl rfl hpv2 hb⟩

theorem fnExactReadScheme_over : Rows.fnExactReadSchemeRow.holds Tryz.pinned (OpenSpec.ofChange Rows.fnExactReadSchemeSpec) :=
  OpenClaim.holds_of_wide 3 Tryz.f3 rfl rfl rfl rfl rfl rfl rfl ⟨rfl, rfl, rfl, rfl, rfl⟩ rfl rfl rfl rfl rfl (by kernel_rfl) Tryz.func3 (by kernel_rfl)
    (of_decide_eq_true (by kernel_rfl)) (by unfold Func.isWrapper; rw [if_neg (of_decide_eq_false (by kernel_rfl))]; exact ⟨rfl, rfl⟩)
    (fun os started H enc _ => fnExactReadScheme_lifted os started H enc)

/-- The card. -/
theorem fnExactReadScheme_holds : Rows.FnExactReadSchemeCardSaid :=
  Claim7.holds_tied_plain_at .later [] [.data, .data, .data, .data, .sentinel, .sentinel, .data, .pinned] true _ true fnExactReadScheme_over (fun _ h => by cases h) (by kernel_rfl) (fun _ h => by cases h) fnExactReadScheme_row_tie rfl ⟨rfl, rfl⟩ (by kernel_rfl) rfl
    (fun f fn hf hfn => by
      obtain rfl : f = 3 := Option.some.inj ((show Tryz.prog.funcNamed Tryz.f3.name = some 3 by kernel_rfl).symm.trans hf) |>.symm
      obtain rfl : fn = Tryz.f3 := (Option.some.inj (Tryz.func3.symm.trans hfn)).symm
      exact ⟨by kernel_rfl, fun j t ht => by
        rw [Tryz.params3] at ht
        have hm : t ∈ [9] := by simpa using Array.mem_of_getElem? ht
        have hall : ([9].all fun u => !Tryz.prog.wantsStandIn u) = true := by kernel_rfl
        exact (show Tryz.prog.wantsStandIn t = false by simpa using List.all_eq_true.1 hall t hm)⟩)
    (by kernel_rfl)
end
end Go.Proofs.YtnbijfeidgddmaaGreatDoor


