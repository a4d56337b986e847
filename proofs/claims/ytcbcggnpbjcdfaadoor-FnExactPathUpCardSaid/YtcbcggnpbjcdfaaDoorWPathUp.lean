/- PathUp answers, for every catalogue and every number, as its model does; its answer is memory of its own. No conditions. -/
import Derived.Test.YtcbcggnpbjcdfaaDoorIPathUp
import Derived.Test.YtcbcggnpbjcdfaaDoorSPathUp
import Derived.Test.YtcbcggnpbjcdfaaDoorELaw
import Derived.Test.YtcbcggnpbjcdfaaDoorDoor
import Derived.Deep.DeepCutAuto
namespace Go.Proofs.YtcbcggnpbjcdfaaDoor
open Go.ChangeShapes Go.WideShapes Go.ChangeAt Go.RowKit

theorem ite_lenPathUp {b : Prop} [Decidable b] {zs : List Int} {n : Nat} (h : b → zs.length ≤ n) : (if b then zs else []).length ≤ n := by
  by_cases hb : b
  · rw [if_pos hb]; exact h hb
  · rw [if_neg hb]; exact Nat.zero_le _
set_option maxRecDepth 100000 in
set_option maxHeartbeats 3200000 in
theorem fnExactPathUp_walk (a1 : Option Addr) (cs : List Et) (c1 : Nat) (x : Int) (_hx : I64 x) (w : World) (h1 : EntsIn w a1 cs) (l1 : cs.length ≤ maxLen) :
    Calls Tryd.prog 7 #[.slice a1 cs.length c1, .int .i64 x] w fun e w' => e = .returned (.bool true) ∧ Below w.heap.size w w' := by
  unfold maxLen at l1
  have H1 := Lib.hid h1
  have Z1 := Lib.hid fun W hs => szEntryS_any a1 cs c1 1048576 W hs (by decide) (by decide) (by omega)
  clear h1 l1
  go_enter Tryd.func7, Tryd.ntmps7
  go_upto_region 3 with (go_at_call 16; refine (Z1.out _ H1.out).mono ?_; rintro e w1 ⟨z, rfl, z0, z1, z2, hB⟩; have b1 := Lib.hid hB; clear hB)
  by_cases hz : z < 0
  · have d1 : decide (z < 0) = true := decide_eq_true hz
    go_wp2
    go_returns
    exact ⟨rfl, b1.out⟩
  have d1 : decide (z < 0) = false := decide_eq_false hz
  have n1 : cs.length ≤ 1048576 := z2 (by omega)
  have T1 := Lib.hid fun W hs => toEntryS_any a1 cs c1 W hs n1
  have S := fun a c W ha => sPathUp_any a cs c x W ha
  have I := fun a c W ha => iPathUp_any a cs c x W ha
  have E1 := Lib.hid fun a b c d W ha hb => eqEntryS_same a b cs c d W ha hb n1
  have al : ((catOk cs && hasX cs.length x)) = true → ((segI cs (firstE cs x.toNat) (plen cs (firstE cs x.toNat)))).length ≤ 17592186044404 := fun _hok => (by obtain ⟨h1, h2⟩ := Bool.and_eq_true_iff.1 _hok; obtain ⟨q1, q2⟩ := hasX_yes h2; have h3 := plen_le (end_of h1 (j := x.toNat) (by omega)); have h4 := (cat_parts h1).1; rw [segI_len]; omega)
  obtain ⟨zs, cd, hzl, hR⟩ : ∃ zs cd, zs.length ≤ 17592186044404 ∧ pathUpR cs x = ELR zs cd := ⟨_, _, ite_lenPathUp al, rfl⟩
  rw [hR] at S I
  have hn : zs.length ≤ 17592186044404 := hzl
  have nx : (cd != cd) = false := by simp
  have hk : 1 + 3 * cs.length ≤ 4000000 := by omega
  obtain ⟨kk, hkk⟩ : ∃ kk : Nat, kk = 1 + 3 * cs.length := ⟨_, rfl⟩
  have MK := fun g W hW hg => markEnts_any cs.length g 1 cs.length W hW hg hk
  rw [← hkk] at MK
  have MK := Lib.hid MK
  have k0 : decide ((kk : Int) < 0) = false := by simp
  have n0 : decide ((1 : Int) + (zs.length : Int) < 0) = false := by simp; omega
  have n3 : ((1 : Int) + (zs.length : Int) != (1 : Int) + (zs.length : Int)) = false := by simp
  have S := Lib.hid S
  have I := Lib.hid I
  clear z0 z1 z2 hz n1 hR hzl al hkk hk
  have tok1 : True := trivial
  have tok2 : True := trivial
  have tok3 : True := trivial
  have tok4 : True := trivial
  have tok5 : True := trivial
  have tok6 : True := trivial
  have tok7 : True := trivial
  have tok8 : True := trivial
  go_wp2_with (first
    | (go_at_call 18; have _t := tok1; clear _t tok1; refine (T1.out _ (entsIn_below H1.out b1.out)).mono ?_; rintro e w2 ⟨v, rfl, ⟨g2, rfl, hg, hl, hs, hf⟩, hB⟩; have b2 := Lib.hid (b1.out.trans (Below.mono hB b1.out.size)); have s2 := Lib.hid hs; clear hB hg hl hs hf)
    | (go_at_call 25; refine (S.out _ _ _ s2.out).mono ?_; rintro e w3 ⟨v3, rfl, hO, hB⟩; obtain ⟨a3, c3, rfl, hi⟩ := ownInts_in hO; have i3 := Lib.hid hi; have b3 := Lib.hid (b2.out.trans (Below.mono hB b2.out.size)); clear hB hO hi)
    | (go_at_call 18; have _t := tok2; clear _t tok2; refine (T1.out _ (entsIn_below H1.out b3.out)).mono ?_; rintro e w4 ⟨v, rfl, ⟨g4, rfl, hg, hl, hs, hf⟩, hB⟩; have C4 := Lib.hid hB; have s4 := Lib.hid hs; have W4 := Lib.hid (wr_ents hs hf); have L4 := Lib.hid hl; have G4 := Lib.hid hg; clear hB hg hl hs hf)
    | (go_at_call 26; have _t := tok5; clear _t tok5; refine (I.out _ _ _ s4.out).mono ?_; rintro e w5 ⟨v5, rfl, hO, hB⟩; obtain ⟨a5, c5, rfl, hi⟩ := ownInts_in hO; have o5 := Lib.hid hO; have i5 := Lib.hid hi; have s5 := Lib.hid (entsIn_below s4.out hB); have D5 := Lib.hid hB; have C5 := Lib.hid (C4.out.trans (Below.mono hB C4.out.size)); clear hB hO hi)
    | (go_at_call 27; have _t := tok6; clear _t tok6; refine (eqInts_same _ _ _ _ _ _ i5.out (eIntsIn_up i3.out (Nat.le_refl _) C5.out) hn).mono ?_; rintro e w6 ⟨rfl, hB⟩; have s6 := Lib.hid (entsIn_below s5.out hB); have o6 := Lib.hid (ownInts_kept o5.out hB); have C6 := Lib.hid (C5.out.trans (Below.mono hB C5.out.size)); have D6 := Lib.hid (D5.out.trans (Below.mono hB D5.out.size)); clear hB)
    | (go_at_call 18; have _t := tok3; clear _t tok3; refine (T1.out _ (entsIn_below H1.out (b3.out.trans (Below.mono C6.out b3.out.size)))).mono ?_; rintro e w7 ⟨v, rfl, ⟨g7, rfl, hg, hl, hs, hf⟩, hB⟩; have s7 := Lib.hid (entsIn_below s6.out hB); have y7 := Lib.hid hs; have o7 := Lib.hid (ownInts_kept o6.out hB); have C7 := Lib.hid (C6.out.trans (Below.mono hB C6.out.size)); have D7 := Lib.hid (D6.out.trans (Below.mono hB D6.out.size)); clear hB hg hl hs hf)
    | (go_at_call 20; refine (E1.out _ _ _ _ _ s7.out y7.out).mono ?_; rintro e w8 ⟨rfl, hB⟩; have o8 := Lib.hid (ownInts_kept o7.out hB); have C8 := Lib.hid (C7.out.trans (Below.mono hB C7.out.size)); have D8 := Lib.hid (D7.out.trans (Below.mono hB D7.out.size)); clear hB)
    | (go_at_call 28; refine (MK.out _ _ (W4.out.below D8.out L4.out) (Nat.lt_of_lt_of_le L4.out D8.out.size)).mono ?_; rintro e w9 ⟨rfl, hO⟩; have o9 := Lib.hid (own_oth o8.out hO L4.out); have C9 := Lib.hid (C8.out.trans (Below.mono (hO.below (Nat.le_of_lt (Nat.lt_of_lt_of_le L4.out D8.out.size))) G4.out)); clear hO)
    | (go_at_call 27; have _t := tok7; clear _t tok7; have hx := o9.out; obtain ⟨_, _, hv, hi⟩ := ownInts_in hx; cases hv; refine (eqInts_same _ _ _ _ _ _ hi (eIntsIn_up i3.out (Nat.le_refl _) C9.out) hn).mono ?_; rintro e w10 ⟨rfl, hB⟩; have o10 := Lib.hid (ownInts_kept hx hB); have C10 := Lib.hid (C9.out.trans (Below.mono hB C9.out.size)); clear hB hx hi)
    | (go_at_call 29; refine (markInts_any _ _ _ _ _ o10.out hn (by omega) (by omega)).mono ?_; rintro e w11 ⟨rfl, hO, hB⟩; obtain ⟨am, cm, hv, hi⟩ := ownInts_in hO; rw [marks_len] at hv; have MV := Lib.hid hv; have MI := Lib.hid hi; have C11 := Lib.hid (C10.out.trans (hB.mono C4.out.size)); clear hO hB hi hv)
    | (go_at_call 30; have _t := tok8; clear _t tok8; cases MV.out; refine (heldInts_any _ _ _ _ _ MI.out hn (by omega) (by omega)).mono ?_; rintro e wh ⟨rfl, rfl⟩)
    | (go_at_call 18; have _t := tok4; clear _t tok4; refine (T1.out _ (entsIn_below H1.out (b3.out.trans (Below.mono C11.out b3.out.size)))).mono ?_; rintro e w12 ⟨v, rfl, ⟨g12, rfl, hg, hl, hs, hf⟩, hB⟩; have s12 := Lib.hid hs; have M12 := Lib.hid (intsIn_below MI.out hB); have C12 := Lib.hid (C11.out.trans (Below.mono hB C11.out.size)); clear hB hg hl hs hf)
    | (go_at_call 26; refine (I.out _ _ _ s12.out).mono ?_; rintro e w13 ⟨v13, rfl, hO, hB⟩; obtain ⟨a13, c13, rfl, hi⟩ := ownInts_in hO; have i13 := Lib.hid hi; have M13 := Lib.hid (intsIn_below M12.out hB); have C13 := Lib.hid (C12.out.trans (Below.mono hB C12.out.size)); clear hB hO hi)
    | (go_at_call 27; refine (eqInts_same _ _ _ _ _ _ i13.out (eIntsIn_up i3.out (Nat.le_refl _) C13.out) hn).mono ?_; rintro e w14 ⟨rfl, hB⟩; have M14 := Lib.hid (intsIn_below M13.out hB); have C14 := Lib.hid (C13.out.trans (Below.mono hB C13.out.size)); clear hB)
    | (go_at_call 30; refine (heldInts_any _ _ _ _ _ M14.out hn (by omega) (by omega)).mono ?_; rintro e wh ⟨rfl, rfl⟩))
  all_goals go_returns
  all_goals exact ⟨rfl, b3.out.trans (Below.mono C14.out b3.out.size)⟩
/-! ### The frame round the walk -/
section
set_option maxRecDepth 100000 in
theorem fnExactPathUp_lifted (os : Os) (started : os.Started) (H : Type) (enc : TypeId × Value → H) :
    ReturnsInHanded {} Tryd.checked os 7 .any (fun w args => (Rows.fnExactPathUpSpec.pre enc Tryd.prog Tryd.f7 Rows.fnExactPathUpRow.domain false w args ∧ laidMetH Tryd.prog Rows.fnExactPathUpRow.laid w) ∧ sizedMet enc Tryd.prog Tryd.f7 (OpenSpec.ofChange Rows.fnExactPathUpSpec) false w args) (Rows.fnExactPathUpSpec.post enc Tryd.prog Tryd.f7 false true false false) := by
  refine returnsInHanded_of_change_and (C := Tryd.checked) (X := fun w _ => laidMetH Tryd.prog Rows.fnExactPathUpRow.laid w) (fun _ _ _ hh h => h.of_heap hh) own started (by kernel_rfl) Tryd.func7
    (ChangeSpec.witness_shaped (enc := enc) (C := Tryd.checked) (os := os) (X := fun w _ => laidMetH Tryd.prog Rows.fnExactPathUpRow.laid w) false (World.laidAll Tryd.prog os Rows.fnExactPathUpRow.laid) #[.slice none 0 0, .int .i64 0] 8 (World.laidAll_os _ _ _)
      (World.shaped_of_ZipB (by kernel_rfl) (by kernel_rfl)) (by kernel_rfl) (by kernel_rfl) (by kernel_rfl)
      (by rw [MakeChecks.laidMetH_plain _ _ _ (by kernel_rfl)]; exact laidMet_laidAll _ (by kernel_rfl) (by kernel_rfl))) ?_
  intro W base args ds gs before hval0 hW _ _ _ _
  have hval : ∀ (j : Nat) t v, Tryd.f7.params[j]? = some t → args[j]? = some v → Value.okWide Tryd.prog W .any base t v := hval0
  have hW' := hW
  obtain ⟨p, q, hA0, hV, rfl, _, _⟩ := hW
  have hA : DataW.TrodAll enc Tryd.prog W 0 (fun _ => true) true Tryd.f7.params.toList args.toList ds p := hA0
  obtain ⟨rfl, rfl⟩ := trodVars_none hV
  have hlt : ∀ x ∈ p, x.block < W.heap.size := fun x hx => by simpa using hW'.lt x (by simpa using hx)
  rw [Tryd.params7] at hA hval
  obtain ⟨v0, vs0, d0, ds0, p0, q0, hargs, rfl, rfl, h0, r0⟩ := trodAll_cons hA
  obtain ⟨v1, vs1, d1, ds1, p1, q1, rfl, rfl, rfl, h1, r1⟩ := trodAll_cons r0
  obtain ⟨rfl, rfl, rfl⟩ := trodAll_nil r1
  obtain rfl : args = #[v0, v1] := by cases args; simp_all
  obtain ⟨a0, cs0, c0, rfl, hz0, hl0⟩ := open_ents (e := 45) (by kernel_rfl) Tryd.underlying45 (by kernel_rfl) (by kernel_rfl) (by kernel_rfl) (by kernel_rfl) (by kernel_rfl) (by kernel_rfl) (by kernel_rfl) (by kernel_rfl) (by kernel_rfl) (by kernel_rfl) (hval 0 23 v0 rfl rfl) h0
  obtain ⟨n1, rfl, hn1⟩ := open_i64 (by kernel_rfl) (hval 1 2 v1 rfl rfl)
  refine (fnExactPathUp_walk a0 cs0 c0 n1 hn1 W hz0 hl0).mono fun e W' ⟨he, hb⟩ => ?_
  subst he
  exact ⟨_, rfl, law_post laidOut rfl Tryd.underlying4 (of_all (by kernel_rfl)) rfl hW' rfl rfl rfl hb⟩

theorem fnExactPathUp_over : Rows.fnExactPathUpRow.holds Tryd.pinned (OpenSpec.ofChange Rows.fnExactPathUpSpec) :=
  OpenClaim.holds_of_wide 7 Tryd.f7 rfl rfl rfl rfl rfl rfl rfl ⟨rfl, rfl, rfl, rfl, rfl⟩ rfl rfl rfl rfl rfl (by kernel_rfl) Tryd.func7 (by kernel_rfl)
    (of_decide_eq_true (by kernel_rfl)) (by unfold Func.isWrapper; rw [if_neg (of_decide_eq_false (by kernel_rfl))]; exact ⟨rfl, rfl⟩)
    (fun os started H enc _ => fnExactPathUp_lifted os started H enc)

/-- The card. -/
theorem fnExactPathUp_holds : Rows.FnExactPathUpCardSaid :=
  Claim7.holds_tied_plain_at .later [] [.data, .pinned] true _ true fnExactPathUp_over (fun _ h => by cases h) (by kernel_rfl) (fun _ h => by cases h) fnExactPathUp_row_tie rfl ⟨rfl, rfl⟩ (by kernel_rfl) rfl
    (fun f fn hf hfn => by
      obtain rfl : f = 7 := Option.some.inj ((show Tryd.prog.funcNamed Tryd.f7.name = some 7 by kernel_rfl).symm.trans hf) |>.symm
      obtain rfl : fn = Tryd.f7 := (Option.some.inj (Tryd.func7.symm.trans hfn)).symm
      exact ⟨by kernel_rfl, fun j t ht => by
        rw [Tryd.params7] at ht
        have hm : t ∈ [23, 2] := by simpa using Array.mem_of_getElem? ht
        have hall : ([23, 2].all fun u => !Tryd.prog.wantsStandIn u) = true := by kernel_rfl
        exact (show Tryd.prog.wantsStandIn t = false by simpa using List.all_eq_true.1 hall t hm)⟩)
    (by kernel_rfl)
end
end Go.Proofs.YtcbcggnpbjcdfaaDoor

