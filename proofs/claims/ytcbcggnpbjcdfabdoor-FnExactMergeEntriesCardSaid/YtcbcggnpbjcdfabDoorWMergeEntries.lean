/- MergeEntries answers, for every catalogue and every two numbers, as its model does; its answer is memory of its own. No conditions. -/
import Derived.Test.YtcbcggnpbjcdfabDoorMrgW
import Derived.Test.YtcbcggnpbjcdfabDoorEHeldC
import Derived.Test.YtcbcggnpbjcdfabDoorELaw
import Derived.Test.YtcbcggnpbjcdfabDoorDoor
import Derived.Deep.DeepCutAuto
namespace Go.Proofs.YtcbcggnpbjcdfabDoor
open Go.ChangeShapes Go.WideShapes Go.ChangeAt Go.RowKit

theorem entsIn_up {B : Nat} {w w' : World} {a : Option Addr} {cs : List Et} (h : EntsIn w a cs) (hB : w.heap.size ≤ B) (hb : Below B w w') : EntsIn w' a cs := entsIn_below h (hb.mono hB)
/-- One step behind a world whose own things stay. -/
theorem che {B : Nat} {w a b : World} (h : Below B w a) (hB : B ≤ w.heap.size) (k : Below a.heap.size a b) : Below B w b := h.trans (Below.mono k (Nat.le_trans hB h.size))
theorem mergeEntries_is {cs : List Et} {x y : Int} (hc : ∀ i, i < cs.length → (etAt cs i).fits) : ∃ zs cd, zs.length ≤ 1048576 ∧ (∀ i, i < zs.length → (etAt zs i).fits) ∧ meER cs x y = EEL zs cd := by
  have none0 : ∀ i, i < ([] : List Et).length → (etAt [] i).fits := fun i hi => absurd hi (Nat.not_lt_zero _)
  cases hz : catOk cs
  · exact ⟨[], 1, by simp, none0, meER_bad x y hz⟩
  · have hn := (cat_parts hz).1
    cases h : (hasX cs.length x && hasX cs.length y)
    · exact ⟨[], 2, by simp, none0, meER_none hz h⟩
    · cases hk : meNo cs x.toNat y.toNat
      · obtain ⟨h1, h2⟩ := Bool.and_eq_true_iff.1 h
        obtain ⟨q1, q2⟩ := hasX_yes h2
        exact ⟨mgL cs (x.toNat : Int) (y.toNat : Int), 0, by rw [mg_len]; omega, mg_fits hc ⟨by omega, by omega⟩, by rw [meER_ok hz h, (me_yes hk).1, (me_yes hk).2]⟩
      · exact ⟨[], 4, by simp, none0, by rw [meER_ok hz h, (me_no hk).1, (me_no hk).2]⟩
set_option maxRecDepth 100000 in
set_option maxHeartbeats 6400000 in
theorem fnExactMergeEntries_walk (a1 : Option Addr) (cs : List Et) (c1 : Nat) (x : Int) (_hx : I64 x) (y : Int) (_hy : I64 y) (w : World) (h1 : EntsIn w a1 cs) (l1 : cs.length ≤ maxLen) :
    Calls Tryd.prog 4 #[.slice a1 cs.length c1, .int .i64 x, .int .i64 y] w fun e w' => e = .returned (.bool true) ∧ Below w.heap.size w w' := by
  unfold maxLen at l1
  have cf : ∀ i, i < cs.length → (etAt cs i).fits := fun i hi => (h1 i hi).1
  have Z1 := Lib.hid fun W hs => szEntryS_any a1 cs c1 1048576 W hs (by decide) (by decide) (by omega)
  have H1 := Lib.hid h1
  clear h1 l1
  go_enter Tryd.func4, Tryd.ntmps4
  go_upto_region 3 with (go_at_call 13; refine (Z1.out _ H1.out).mono ?_; rintro e w1 ⟨z, rfl, z0, z1, z2, hB⟩; have B1 := Lib.hid hB; clear hB)
  by_cases hz0 : z < 0
  · have d1 : decide (z < 0) = true := decide_eq_true hz0
    go_wp2
    go_returns
    exact ⟨rfl, B1.out⟩
  have d1 : decide (z < 0) = false := decide_eq_false hz0
  have n1 : cs.length ≤ 1048576 := z2 (by omega)
  clear z0 z1 z2 hz0
  have T1 := Lib.hid fun W hs => toEntryS_any a1 cs c1 W hs n1
  have E1 := Lib.hid fun a b c d W ha hb => eqEntryS_same a b cs c d W ha hb n1
  have S := fun a c W ha => sMergeEntries_any a cs c x y W ha
  have I := fun a c W ha => iMergeEntries_any a cs c x y W ha
  obtain ⟨xs, cd, hm, fits, hR⟩ := mergeEntries_is (x := x) (y := y) cf
  rw [hR] at S I
  have E2 := Lib.hid fun a b c d W ha hb => eqEntryS_same a b xs c d W ha hb hm
  have S := Lib.hid S
  have I := Lib.hid I
  have FITS := Lib.hid fits
  have hk : 1 + 3 * cs.length ≤ 4000000 := by omega
  have hk2 : 1 + 3 * xs.length ≤ 4000000 := by omega
  have MK := fun g W hW hg => markEnts_any cs.length g 1 cs.length W hW hg hk
  have MO := fun B v W hO => markEntsOwn_any B xs v 1 W hO hk2
  have HC := fun a (ds : List Et) c W (hl : ds.length = xs.length) hC hM => (hl ▸ heldEnts_any a ds c 1 W hC hM (by rw [hl]; exact hk2) : Calls Tryd.prog 19 #[.slice a xs.length c, .int .i64 ((1 : Nat) : Int)] W fun e w' => e = .returned (.int .i64 ((1 + 3 * xs.length : Nat) : Int)) ∧ Below W.heap.size W w')
  generalize 1 + 3 * xs.length = kx at *
  generalize 1 + 3 * cs.length = kk at *
  have MK := Lib.hid MK
  have MO := Lib.hid MO
  have HC := Lib.hid HC
  have k0 : decide ((kk : Int) < 0) = false := by simp
  have k1 : decide ((kx : Int) < 0) = false := by simp
  have n3 : ((kx : Int) != (kx : Int)) = false := by simp
  have n4 : (cd != cd) = false := by simp
  clear hk hk2 fits n1 hm hR cf _hx _hy
  have tk1 : True := trivial
  have tk2 : True := trivial
  have tk3 : True := trivial
  have tk4 : True := trivial
  have tk5 : True := trivial
  have tk6 : True := trivial
  have tk7 : True := trivial
  have tk8 : True := trivial
  have tk9 : True := trivial
  have tk10 : True := trivial
  have tk11 : True := trivial
  have tk12 : True := trivial
  have tk13 : True := trivial
  have tk14 : True := trivial
  have tk15 : True := trivial
  go_wp2_with (first
    | (go_at_call 15; have _t := tk1; clear _t tk1; refine (T1.out _ (entsIn_below H1.out B1.out)).mono ?_; rintro e w3 ⟨v, rfl, ⟨g3, rfl, _, _, hs, _⟩, hB⟩; have B3 := Lib.hid (che B1.out (Nat.le_refl _) hB); have X3 := Lib.hid hs; clear hB hs)
    | (go_at_call 20; have _t := tk2; clear _t tk2; refine (S.out _ _ _ X3.out).mono ?_; rintro e w5 ⟨v5, rfl, hO, hB⟩; obtain ⟨a5, c5, rfl, hi⟩ := ownEnts_in hO; have B5 := Lib.hid (che B3.out (Nat.le_refl _) hB); have S5 := Lib.hid (entsIn_of hi FITS.out); clear hB hi hO X3 B3)
    | (go_at_call 15; have _t := tk3; clear _t tk3; refine (T1.out _ (entsIn_below H1.out B5.out)).mono ?_; rintro e w6 ⟨v, rfl, ⟨g6, rfl, hg, hl, hs, hf⟩, hB⟩; have C6 := Lib.hid hB; have G6 := Lib.hid hg; have L6 := Lib.hid hl; have X6 := Lib.hid hs; have W6 := Lib.hid (wr_ents hs hf); clear hB hs hf hg hl)
    | (go_at_call 21; have _t := tk4; clear _t tk4; refine (I.out _ _ _ X6.out).mono ?_; rintro e w8 ⟨v8, rfl, hO, hB⟩; obtain ⟨a8, c8, rfl, hi⟩ := ownEnts_in hO; have O8 := Lib.hid hO; have I8 := Lib.hid (entsIn_of hi FITS.out); have D8 := Lib.hid hB; have C8 := Lib.hid (che C6.out (Nat.le_refl _) hB); have X8 := Lib.hid (entsIn_below X6.out hB); clear hB hi hO)
    | (go_at_call 17; have _t := tk5; clear _t tk5; refine (E2.out _ _ _ _ _ I8.out (entsIn_up S5.out (Nat.le_refl _) C8.out)).mono ?_; rintro e w9 ⟨rfl, hB⟩; have C9 := Lib.hid (che C8.out (Nat.le_refl _) hB); have D9 := Lib.hid (che D8.out (Nat.le_refl _) hB); have X9 := Lib.hid (entsIn_below X8.out hB); have O9 := Lib.hid (ownEnts_kept O8.out hB); clear hB)
    | (go_at_call 15; have _t := tk6; clear _t tk6; refine (T1.out _ (entsIn_below H1.out (che B5.out (Nat.le_refl _) C9.out))).mono ?_; rintro e w10 ⟨v, rfl, ⟨g10, rfl, _, _, hs, _⟩, hB⟩; have Z10 := Lib.hid hs; have C10 := Lib.hid (che C9.out (Nat.le_refl _) hB); have D10 := Lib.hid (che D9.out (Nat.le_refl _) hB); have X10 := Lib.hid (entsIn_below X9.out hB); have O10 := Lib.hid (ownEnts_kept O9.out hB); clear hB hs)
    | (go_at_call 17; have _t := tk7; clear _t tk7; refine (E1.out _ _ _ _ _ X10.out Z10.out).mono ?_; rintro e w11 ⟨rfl, hB⟩; have C11 := Lib.hid (che C10.out (Nat.le_refl _) hB); have D11 := Lib.hid (che D10.out (Nat.le_refl _) hB); have O11 := Lib.hid (ownEnts_kept O10.out hB); clear hB)
    | (go_at_call 18; have _t := tk8; clear _t tk8; refine (MK.out _ _ (W6.out.below D11.out L6.out) (Nat.lt_of_lt_of_le L6.out D11.out.size)).mono ?_; rintro e w12 ⟨rfl, hO⟩; have O12 := Lib.hid (ownEnts_oth O11.out hO L6.out); have C12 := Lib.hid (C11.out.trans (Below.mono (hO.below (Nat.le_of_lt (Nat.lt_of_lt_of_le L6.out D11.out.size))) G6.out)); clear hO)
    | (go_at_call 17; have _t := tk9; clear _t tk9; have hx := O12.out; obtain ⟨_, _, hv, hi⟩ := ownEnts_in hx; cases hv; refine (E2.out _ _ _ _ _ (entsIn_of hi FITS.out) (entsIn_up S5.out (Nat.le_refl _) C12.out)).mono ?_; rintro e w13 ⟨rfl, hB⟩; have C13 := Lib.hid (che C12.out (Nat.le_refl _) hB); have O13 := Lib.hid (ownEnts_kept O12.out hB); clear hB hx hi)
    | (go_at_call 18; have _t := tk10; clear _t tk10; refine (MO.out _ _ _ O13.out).mono ?_; rintro e w14 ⟨rfl, ⟨ds, hdl, hdm, hO⟩, hB⟩; obtain ⟨am, cm, hv, hi⟩ := ownEnts_in hO; rw [hdl] at hv; cases hv; have M14 := Lib.hid hi; have DL := Lib.hid hdl; have DM := Lib.hid hdm; have C14 := Lib.hid (C13.out.trans (hB.mono C6.out.size)); clear hO hB hi hdl hdm)
    | (go_at_call 19; have _t := tk11; clear _t tk11; refine (HC.out _ _ _ _ DL.out M14.out DM.out).mono ?_; rintro e w15 ⟨rfl, hB⟩; have M15 := Lib.hid (cellsE_below M14.out hB); have C15 := Lib.hid (che C14.out (Nat.le_refl _) hB); clear hB)
    | (go_at_call 15; have _t := tk12; clear _t tk12; refine (T1.out _ (entsIn_below H1.out (che B5.out (Nat.le_refl _) C15.out))).mono ?_; rintro e w16 ⟨v, rfl, ⟨g16, rfl, _, _, hs, _⟩, hB⟩; have X16 := Lib.hid hs; have M16 := Lib.hid (cellsE_below M15.out hB); have C16 := Lib.hid (che C15.out (Nat.le_refl _) hB); clear hB hs)
    | (go_at_call 21; have _t := tk13; clear _t tk13; refine (I.out _ _ _ X16.out).mono ?_; rintro e w17 ⟨v17, rfl, hO, hB⟩; obtain ⟨a17, c17, rfl, hi⟩ := ownEnts_in hO; have I17 := Lib.hid (entsIn_of hi FITS.out); have M17 := Lib.hid (cellsE_below M16.out hB); have C17 := Lib.hid (che C16.out (Nat.le_refl _) hB); clear hB hi hO)
    | (go_at_call 17; have _t := tk14; clear _t tk14; refine (E2.out _ _ _ _ _ I17.out (entsIn_up S5.out (Nat.le_refl _) C17.out)).mono ?_; rintro e w18 ⟨rfl, hB⟩; have M18 := Lib.hid (cellsE_below M17.out hB); have C18 := Lib.hid (che C17.out (Nat.le_refl _) hB); clear hB)
    | (go_at_call 19; have _t := tk15; clear _t tk15; refine (HC.out _ _ _ _ DL.out M18.out DM.out).mono ?_; rintro e w19 ⟨rfl, hB⟩; have C19 := Lib.hid (che C18.out (Nat.le_refl _) hB); clear hB))
  all_goals go_returns
  all_goals exact ⟨rfl, che B5.out (Nat.le_refl _) C19.out⟩
/-! ### The frame round the walk -/
section
set_option maxRecDepth 100000 in
theorem fnExactMergeEntries_lifted (os : Os) (started : os.Started) (H : Type) (enc : TypeId × Value → H) :
    ReturnsInHanded {} Tryd.checked os 4 .any (fun w args => (Rows.fnExactMergeEntriesSpec.pre enc Tryd.prog Tryd.f4 Rows.fnExactMergeEntriesRow.domain false w args ∧ laidMetH Tryd.prog Rows.fnExactMergeEntriesRow.laid w) ∧ sizedMet enc Tryd.prog Tryd.f4 (OpenSpec.ofChange Rows.fnExactMergeEntriesSpec) false w args) (Rows.fnExactMergeEntriesSpec.post enc Tryd.prog Tryd.f4 false true false false) := by
  refine returnsInHanded_of_change_and (C := Tryd.checked) (X := fun w _ => laidMetH Tryd.prog Rows.fnExactMergeEntriesRow.laid w) (fun _ _ _ hh h => h.of_heap hh) own started (by kernel_rfl) Tryd.func4
    (ChangeSpec.witness_shaped (enc := enc) (C := Tryd.checked) (os := os) (X := fun w _ => laidMetH Tryd.prog Rows.fnExactMergeEntriesRow.laid w) false (World.laidAll Tryd.prog os Rows.fnExactMergeEntriesRow.laid) #[.slice none 0 0, .int .i64 0, .int .i64 0] 8 (World.laidAll_os _ _ _)
      (World.shaped_of_ZipB (by kernel_rfl) (by kernel_rfl)) (by kernel_rfl) (by kernel_rfl) (by kernel_rfl)
      (by rw [MakeChecks.laidMetH_plain _ _ _ (by kernel_rfl)]; exact laidMet_laidAll _ (by kernel_rfl) (by kernel_rfl))) ?_
  intro W base args ds gs before hval0 hW _ _ _ _
  have hval : ∀ (j : Nat) t v, Tryd.f4.params[j]? = some t → args[j]? = some v → Value.okWide Tryd.prog W .any base t v := hval0
  have hW' := hW
  obtain ⟨p, q, hA0, hV, rfl, _, _⟩ := hW
  have hA : DataW.TrodAll enc Tryd.prog W 0 (fun _ => true) true Tryd.f4.params.toList args.toList ds p := hA0
  obtain ⟨rfl, rfl⟩ := trodVars_none hV
  have hlt : ∀ x ∈ p, x.block < W.heap.size := fun x hx => by simpa using hW'.lt x (by simpa using hx)
  rw [Tryd.params4] at hA hval
  obtain ⟨v0, vs0, d0, ds0, p0, q0, hargs, rfl, rfl, h0, r0⟩ := trodAll_cons hA
  obtain ⟨v1, vs1, d1, ds1, p1, q1, rfl, rfl, rfl, h1, r1⟩ := trodAll_cons r0
  obtain ⟨v2, vs2, d2, ds2, p2, q2, rfl, rfl, rfl, h2, r2⟩ := trodAll_cons r1
  obtain ⟨rfl, rfl, rfl⟩ := trodAll_nil r2
  obtain rfl : args = #[v0, v1, v2] := by cases args; simp_all
  obtain ⟨a0, cs0, c0, rfl, hz0, hl0⟩ := open_ents (e := 67) (by kernel_rfl) Tryd.underlying67 (by kernel_rfl) (by kernel_rfl) (by kernel_rfl) (by kernel_rfl) (by kernel_rfl) (by kernel_rfl) (by kernel_rfl) (by kernel_rfl) (by kernel_rfl) (by kernel_rfl) (hval 0 22 v0 rfl rfl) h0
  obtain ⟨n1, rfl, hn1⟩ := open_i64 (by kernel_rfl) (hval 1 2 v1 rfl rfl)
  obtain ⟨n2, rfl, hn2⟩ := open_i64 (by kernel_rfl) (hval 2 2 v2 rfl rfl)
  refine (fnExactMergeEntries_walk a0 cs0 c0 n1 hn1 n2 hn2 W hz0 hl0).mono fun e W' ⟨he, hb⟩ => ?_
  subst he
  exact ⟨_, rfl, law_post laidOut rfl Tryd.underlying4 (of_all (by kernel_rfl)) rfl hW' rfl rfl rfl hb⟩

theorem fnExactMergeEntries_over : Rows.fnExactMergeEntriesRow.holds Tryd.pinned (OpenSpec.ofChange Rows.fnExactMergeEntriesSpec) :=
  OpenClaim.holds_of_wide 4 Tryd.f4 rfl rfl rfl rfl rfl rfl rfl ⟨rfl, rfl, rfl, rfl, rfl⟩ rfl rfl rfl rfl rfl (by kernel_rfl) Tryd.func4 (by kernel_rfl)
    (of_decide_eq_true (by kernel_rfl)) (by unfold Func.isWrapper; rw [if_neg (of_decide_eq_false (by kernel_rfl))]; exact ⟨rfl, rfl⟩)
    (fun os started H enc _ => fnExactMergeEntries_lifted os started H enc)

/-- The card. -/
theorem fnExactMergeEntries_holds : Rows.FnExactMergeEntriesCardSaid :=
  Claim7.holds_tied_plain_at .later [] [.data, .pinned] true _ true fnExactMergeEntries_over (fun _ h => by cases h) (by kernel_rfl) (fun _ h => by cases h) fnExactMergeEntries_row_tie rfl ⟨rfl, rfl⟩ (by kernel_rfl) rfl
    (fun f fn hf hfn => by
      obtain rfl : f = 4 := Option.some.inj ((show Tryd.prog.funcNamed Tryd.f4.name = some 4 by kernel_rfl).symm.trans hf) |>.symm
      obtain rfl : fn = Tryd.f4 := (Option.some.inj (Tryd.func4.symm.trans hfn)).symm
      exact ⟨by kernel_rfl, fun j t ht => by
        rw [Tryd.params4] at ht
        have hm : t ∈ [22, 2, 2] := by simpa using Array.mem_of_getElem? ht
        have hall : ([22, 2, 2].all fun u => !Tryd.prog.wantsStandIn u) = true := by kernel_rfl
        exact (show Tryd.prog.wantsStandIn t = false by simpa using List.all_eq_true.1 hall t hm)⟩)
    (by kernel_rfl)
end
end Go.Proofs.YtcbcggnpbjcdfabDoor

