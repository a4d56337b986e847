/- WalkTree answers, for every tree and all values, as its model does; its answer is memory of its own. No conditions but what the listed variables read as. -/
import Derived.Test.YtppjmngnjdeigaaDoorWkS
import Derived.Test.YtppjmngnjdeigaaDoorKnW
import Derived.Test.YtppjmngnjdeigaaDoorSenM
import Derived.Test.YtppjmngnjdeigaaDoorOpI
import Derived.Test.YtppjmngnjdeigaaDoorDoor
import Derived.Deep.DeepCutAuto
namespace Go.Proofs.YtppjmngnjdeigaaDoor
open Go.ChangeShapes Go.WideShapes Go.ChangeAt Go.RowKit

theorem wkL_len {ks : List Kn} (vals : List Int) (hn : KsSmall ks) : (wkL ks vals).length ≤ 1048576 := by
  unfold wkL
  split
  · rename_i ht
    split
    · exact (hn.2 _ (wk_ok (tree_of ht) vals).1).2.2
    · exact Nat.zero_le _
  · exact Nat.zero_le _
theorem wb_zon {w w' : World} {A H g m : Nat} (h : Wb w g m) (o : Zon A H w w') (hg : H ≤ g) (hl : g < w.heap.size) : Wb w' g m :=
  ⟨fun j hj => (h.1 j hj).imp fun _ hv => (cell_smK (p := ⟨g, j, none⟩) (o.block g (.inr hg) hl)).trans hv, fun j hj => by have := h.2 j hj; unfold World.frozen? at this ⊢; simp only [o.block g (.inr hg) hl]; exact this⟩
theorem wk_upI {w w' : World} {a : Option Addr} {zs : List Int} (h : IntsIn w a zs) (hb : Below w.heap.size w w') : IntsIn w' a zs := intsIn_below h hb
theorem wk_next {w a b : World} (h : Below w.heap.size w a) (k : Below a.heap.size a b) : Below w.heap.size w b := h.trans (Below.mono k h.size)
theorem new_ints {B : Nat} {zs : List Int} {v : Value} {w : World} (h : NewInts B zs v w) : ∃ g, v = .slice (some ⟨g, 0, none⟩) zs.length zs.length ∧ B ≤ g ∧ g < w.heap.size ∧ Wb w g zs.length ∧ IntsIn w (some ⟨g, 0, none⟩) zs := by
  obtain ⟨g, rfl, h1, h2, h3⟩ := h
  exact ⟨g, rfl, h1, h2, ⟨fun j hj => ⟨_, (h3 j hj).1⟩, fun j hj => (h3 j hj).2⟩, fun i hi => ⟨g, 0, rfl, h2, by rw [Nat.zero_add]; exact (h3 i hi).1⟩⟩

set_option maxRecDepth 100000 in
set_option maxHeartbeats 6400000 in
theorem fnExactWalkTree_walk (x0 x1 x2 : Addr) (a1 : Option Addr) (cs : List Kn) (c1 : Nat) (a2 : Option Addr) (vals : List Int) (c2 : Nat) (w : World) (hS : Sen w x0 x1 x2) (h1 : KnotsIn w a1 cs) (l1 : cs.length ≤ maxLen) (h2 : IntsIn w a2 vals) :
    Calls Tryd.prog 4 #[.slice a1 cs.length c1, .slice a2 vals.length c2] w fun e w' => e = .returned (.bool true) ∧ Below w.heap.size w w' := by
  unfold maxLen at l1
  have H1 := Lib.hid h1
  have H2 := Lib.hid h2
  have SS := Lib.hid hS
  have Z1 := Lib.hid fun W hs => szKnotS_any a1 cs c1 1048576 W hs (by decide) (by decide) (by omega)
  clear h1 l1 h2 hS
  by_cases hl : (1048576 : Int) < (vals.length : Int)
  · have d0 : decide ((1048576 : Int) < (vals.length : Int)) = true := decide_eq_true hl
    clear hl
    go_enter Tryd.func4, Tryd.ntmps4
    go_wp2
    go_returns
    exact ⟨rfl, Below.refl _ _⟩
  have d0 : decide ((1048576 : Int) < (vals.length : Int)) = false := decide_eq_false hl
  have vl : vals.length ≤ 1048576 := by omega
  clear hl
  go_enter Tryd.func4, Tryd.ntmps4
  go_upto_region 5 with (go_at_call 9; refine (Z1.out _ H1.out).mono ?_; rintro e w1 ⟨z, rfl, z0, z1, z2, hB⟩; have b1 := Lib.hid hB; clear hB)
  by_cases hz : z < 0
  · have d1 : decide (z < 0) = true := decide_eq_true hz
    go_wp2
    go_returns
    exact ⟨rfl, b1.out⟩
  have d1 : decide (z < 0) = false := decide_eq_false hz
  have n1 : KsSmall cs := z2 (by omega)
  have T1 := Lib.hid fun W hs => toKnotSW_any a1 cs c1 W hs n1
  have TI := Lib.hid fun W hs => toInts_any a2 vals c2 W hs (by omega)
  have S := fun a c b d W ha hb => sWalkTree_any cs a c vals b d W ha n1 hb vl
  have I := fun a c b d W hS ha hb => iWalkTree_any x0 x1 x2 cs a c vals b d W hS ha n1 hb vl
  have E1 := Lib.hid fun a b c d W ha hb => eqKnotS_same a b cs c d W ha hb n1
  have EV := Lib.hid fun a b c d W ha hb => eqInts_same a b vals c d W ha hb (by omega)
  have zl := wkL_len vals n1
  have n2 := n1.1
  unfold WkR at S I
  generalize wkL cs vals = zs at *
  generalize wkQ cs vals = qn at *
  generalize wkC cs vals = cd at *
  have hn : zs.length ≤ 17592186044404 := by omega
  have EZ := Lib.hid fun a b c d W ha hb => eqInts_same a b zs c d W ha hb hn
  have nx : (cd != cd) = false := by simp
  have ny : (qn != qn) = false := by simp
  have n0 : decide ((1 : Int) + (zs.length : Int) < 0) = false := by simp; omega
  have n3 : ((1 : Int) + (zs.length : Int) != (1 : Int) + (zs.length : Int)) = false := by simp
  have MK := Lib.hid fun G H W hW hG hGH hH => markKnots_any G H cs.length 1 cs.length W hW hG hGH hH n2 (by decide)
  have MI := Lib.hid fun g k m hm W hW hg hk => mkI64_any vals.length g k vals.length m hm W hW hg vl hk
  have MZ := Lib.hid fun B v W h => markInts_any B zs v 1 W h hn (by decide) (by decide)
  have HZ := Lib.hid fun a c W h => heldInts_any a 1 zs.length c W h hn (by decide) (by decide)
  have kb : 1 + 4000000 * cs.length ≤ 35184372088832 := by omega
  have S := Lib.hid S
  have I := Lib.hid I
  clear z0 z1 z2 hz n1 hn zl n2 vl
  have k1 : True := trivial
  have k2 : True := trivial
  have k3 : True := trivial
  have k4 : True := trivial
  have k5 : True := trivial
  have k6 : True := trivial
  have k7 : True := trivial
  have k8 : True := trivial
  have k9 : True := trivial
  have k10 : True := trivial
  have k11 : True := trivial
  have k12 : True := trivial
  go_wp2_with (first
    | (go_at_call 11; have _t := k1; clear _t k1; refine (T1.out _ (knotsIn_below H1.out b1.out)).mono ?_; rintro e w2 ⟨rfl, _, hs, _, hB⟩; have s2 := Lib.hid hs; have b2 := Lib.hid (wk_next b1.out hB); clear hB hs)
    | (go_at_call 12; have _t := k2; clear _t k2; refine (TI.out _ (intsIn_below H2.out b2.out)).mono ?_; rintro e w3 ⟨v, rfl, hN, hB⟩; obtain ⟨g3, rfl, _, _, _, hi⟩ := new_ints hN; have i3 := Lib.hid hi; have s3 := Lib.hid (knotsIn_below s2.out hB); have b3 := Lib.hid (wk_next b2.out hB); clear hB hN hi)
    | (go_at_call 10; refine (S.out _ _ _ _ _ s3.out i3.out).mono ?_; rintro e w4 ⟨v4, rfl, hO, hB⟩; obtain ⟨a4, c4, rfl, hi⟩ := ownInts_in hO; have i4 := Lib.hid hi; have b4 := Lib.hid (wk_next b3.out hB); clear hB hO hi)
    | (go_at_call 11; have _t := k3; clear _t k3; refine (T1.out _ (knotsIn_below H1.out b4.out)).mono ?_; rintro e w5 ⟨rfl, hlt, hs, hw, hB⟩; have s5 := Lib.hid hs; have W5 := Lib.hid hw; have L5 := Lib.hid hlt; have C5 := Lib.hid hB; clear hB hs hw hlt)
    | (go_at_call 12; have _t := k4; clear _t k4; refine (TI.out _ (intsIn_below H2.out (wk_next b4.out C5.out))).mono ?_; rintro e w6 ⟨v, rfl, hN, hB⟩; obtain ⟨g6, rfl, hg, hl, hw, hi⟩ := new_ints hN; have i6 := Lib.hid hi; have G6 := Lib.hid hg; have L6 := Lib.hid hl; have W6 := Lib.hid hw; have s6 := Lib.hid (knotsIn_below s5.out hB); have C6 := Lib.hid (wk_next C5.out hB); have D6 := Lib.hid hB; clear hB hN hi hg hl hw)
    | (go_at_call 13; have _t := k5; clear _t k5; refine (I.out _ _ _ _ _ (SS.out.below (wk_next b4.out C6.out)) s6.out i6.out).mono ?_; rintro e w7 ⟨v7, rfl, hO, hB⟩; obtain ⟨a7, c7, rfl, hi⟩ := ownInts_in hO; have o7 := Lib.hid hO; have i7 := Lib.hid hi; have s7 := Lib.hid (knotsIn_below s6.out hB); have F7 := Lib.hid hB; have C7 := Lib.hid (wk_next C6.out hB); clear hB hO hi)
    | (go_at_call 14; have _t := k6; clear _t k6; refine (EZ.out _ _ _ _ _ i7.out (intsIn_below i4.out C7.out)).mono ?_; rintro e w8 ⟨rfl, hB⟩; have s8 := Lib.hid (knotsIn_below s7.out hB); have o8 := Lib.hid (ownInts_kept o7.out hB); have F8 := Lib.hid (wk_next F7.out hB); have C8 := Lib.hid (wk_next C7.out hB); clear hB)
    | (go_at_call 11; have _t := k7; clear _t k7; refine (T1.out _ (knotsIn_below H1.out (wk_next b4.out C8.out))).mono ?_; rintro e w9 ⟨rfl, _, hs, _, hB⟩; have y9 := Lib.hid hs; have s9 := Lib.hid (knotsIn_below s8.out hB); have o9 := Lib.hid (ownInts_kept o8.out hB); have F9 := Lib.hid (wk_next F8.out hB); have C9 := Lib.hid (wk_next C8.out hB); clear hB hs)
    | (go_at_call 15; refine (E1.out _ _ _ _ _ s9.out y9.out).mono ?_; rintro e w10 ⟨rfl, hB⟩; have o10 := Lib.hid (ownInts_kept o9.out hB); have F10 := Lib.hid (wk_next F9.out hB); have C10 := Lib.hid (wk_next C9.out hB); clear hB)
    | (go_at_call 12; have _t := k8; clear _t k8; refine (TI.out _ (intsIn_below H2.out (wk_next b4.out C10.out))).mono ?_; rintro e w11 ⟨v, rfl, hN, hB⟩; obtain ⟨g11, rfl, _, _, _, hi⟩ := new_ints hN; have i11 := Lib.hid hi; have o11 := Lib.hid (ownInts_kept o10.out hB); have F11 := Lib.hid (wk_next F10.out hB); have C11 := Lib.hid (wk_next C10.out hB); clear hB hN hi)
    | (go_at_call 14; have _t := k9; clear _t k9; refine (EV.out _ _ _ _ _ (intsIn_below i6.out F11.out) i11.out).mono ?_; rintro e w12 ⟨rfl, hB⟩; have o12 := Lib.hid (ownInts_kept o11.out hB); have F12 := Lib.hid (wk_next F11.out hB); have C12 := Lib.hid (wk_next C11.out hB); clear hB)
    | (go_at_call 16; have gx := Nat.le_trans D6.out.size F12.out.size; refine (MK.out _ _ _ (knW_below W5.out L5.out (Nat.le_refl _) (wk_next D6.out F12.out)) (Nat.lt_of_lt_of_le L5.out gx) L5.out gx).mono ?_; rintro e w13 ⟨⟨m, rfl, hm⟩, hZ⟩; have M13 := Lib.hid hm; have Z13 := Lib.hid hZ; have o13 := Lib.hid (own_zon o12.out hZ D6.out.size); have C13 := Lib.hid (C12.out.trans (hZ.below C12.out.size)); have g6l := Nat.lt_of_lt_of_le L6.out F12.out.size; have W13 := Lib.hid (wb_zon (W6.out.below F12.out L6.out) hZ G6.out g6l); have L13 := Lib.hid (Nat.lt_of_lt_of_le g6l hZ.size); obtain ⟨m2, hm2⟩ : ∃ m2 : Nat, m2 = m + vals.length := ⟨_, rfl⟩; have kk : decide ((m2 : Int) < 0) = false := (by simp); have MM := Lib.hid hm2; clear hZ hm g6l gx hm2)
    | (go_at_call 17; have _t := k10; clear _t k10; refine (MI.out _ _ _ MM.out _ W13.out L13.out (Nat.le_trans M13.out kb)).mono ?_; rintro e w14 ⟨rfl, hO, _⟩; have o14 := Lib.hid (own_oth o13.out hO L6.out); have C14 := Lib.hid (C13.out.trans (Below.mono (hO.below (Nat.le_of_lt L13.out)) (Nat.le_trans C5.out.size G6.out))); clear hO)
    | (go_at_call 14; have _t := k11; clear _t k11; have hx := o14.out; obtain ⟨_, _, hv, hi⟩ := ownInts_in hx; cases hv; refine (EZ.out _ _ _ _ _ hi (intsIn_below i4.out C14.out)).mono ?_; rintro e w15 ⟨rfl, hB⟩; have o15 := Lib.hid (ownInts_kept hx hB); have C15 := Lib.hid (wk_next C14.out hB); clear hB hx hi)
    | (go_at_call 17; refine (MZ.out _ _ _ o15.out).mono ?_; rintro e w16 ⟨rfl, hO, hB⟩; obtain ⟨am, cm, hv, hi⟩ := ownInts_in hO; rw [marks_len] at hv; have MV := Lib.hid hv; have MX := Lib.hid hi; have C16 := Lib.hid (C15.out.trans (hB.mono C6.out.size)); clear hO hB hi hv)
    | (go_at_call 18; have _t := k12; clear _t k12; cases MV.out; refine (HZ.out _ _ _ MX.out).mono ?_; rintro e wh ⟨rfl, rfl⟩)
    | (go_at_call 11; refine (T1.out _ (knotsIn_below H1.out (wk_next b4.out C16.out))).mono ?_; rintro e w17 ⟨rfl, _, hs, _, hB⟩; have s17 := Lib.hid hs; have MX := Lib.hid (intsIn_below MX.out hB); have C17 := Lib.hid (wk_next C16.out hB); clear hB hs)
    | (go_at_call 12; refine (TI.out _ (intsIn_below H2.out (wk_next b4.out C17.out))).mono ?_; rintro e w18 ⟨v, rfl, hN, hB⟩; obtain ⟨g18, rfl, _, _, _, hi⟩ := new_ints hN; have i18 := Lib.hid hi; have s18 := Lib.hid (knotsIn_below s17.out hB); have MX := Lib.hid (intsIn_below MX.out hB); have C18 := Lib.hid (wk_next C17.out hB); clear hB hN hi)
    | (go_at_call 13; refine (I.out _ _ _ _ _ (SS.out.below (wk_next b4.out C18.out)) s18.out i18.out).mono ?_; rintro e w19 ⟨v19, rfl, hO, hB⟩; obtain ⟨a19, c19, rfl, hi⟩ := ownInts_in hO; have i19 := Lib.hid hi; have MX := Lib.hid (intsIn_below MX.out hB); have C19 := Lib.hid (wk_next C18.out hB); clear hB hO hi)
    | (go_at_call 14; refine (EZ.out _ _ _ _ _ i19.out (intsIn_below i4.out C19.out)).mono ?_; rintro e w20 ⟨rfl, hB⟩; have MX := Lib.hid (intsIn_below MX.out hB); have C20 := Lib.hid (wk_next C19.out hB); clear hB)
    | (go_at_call 18; refine (HZ.out _ _ _ MX.out).mono ?_; rintro e wh ⟨rfl, rfl⟩))
  all_goals go_returns
  all_goals exact ⟨rfl, wk_next b4.out C20.out⟩
/-! ### The frame round the walk -/
section
set_option maxRecDepth 100000 in
theorem fnExactWalkTree_lifted (os : Os) (started : os.Started) (H : Type) (enc : TypeId × Value → H) :
    ReturnsInHanded {} Tryd.checked os 4 .any (fun w args => (Rows.fnExactWalkTreeSpec.pre enc Tryd.prog Tryd.f4 Rows.fnExactWalkTreeRow.domain false w args ∧ laidMetH Tryd.prog Rows.fnExactWalkTreeRow.laid w) ∧ sizedMet enc Tryd.prog Tryd.f4 (OpenSpec.ofChange Rows.fnExactWalkTreeSpec) false w args) (Rows.fnExactWalkTreeSpec.post enc Tryd.prog Tryd.f4 false true false false) := by
  refine returnsInHanded_of_change_and (C := Tryd.checked) (X := fun w _ => laidMetH Tryd.prog Rows.fnExactWalkTreeRow.laid w) (fun _ _ _ hh h => h.of_heap hh) own started (by kernel_rfl) Tryd.func4
    (ChangeSpec.witness_shaped (enc := enc) (C := Tryd.checked) (os := os) (X := fun w _ => laidMetH Tryd.prog Rows.fnExactWalkTreeRow.laid w) false (World.laidAll Tryd.prog os Rows.fnExactWalkTreeRow.laid) #[.slice none 0 0, .slice none 0 0] 8 (World.laidAll_os _ _ _)
      (World.shaped_of_ZipB (by kernel_rfl) (by kernel_rfl)) (by kernel_rfl) (by kernel_rfl) (by kernel_rfl)
      (by rw [MakeChecks.laidMetH_plain _ _ _ (by kernel_rfl)]; exact laidMet_laidAll _ (by kernel_rfl) (by kernel_rfl))) ?_
  intro W base args ds gs before hval0 hW _ _ hX _
  rw [MakeChecks.laidMetH_plain _ _ _ (by kernel_rfl)] at hX
  obtain ⟨x0, x1, x2, hSen, hx0, hx1, hx2⟩ := sen_of hX
  have hval : ∀ (j : Nat) t v, Tryd.f4.params[j]? = some t → args[j]? = some v → Value.okWide Tryd.prog W .any base t v := hval0
  have hW' := hW
  obtain ⟨p, q, hA0, hV, rfl, _, _⟩ := hW
  have hA : DataW.TrodAll enc Tryd.prog W 0 (fun _ => true) true Tryd.f4.params.toList args.toList ds p := hA0
  obtain ⟨rfl, rfl⟩ := hV.unique (sen_varsW enc hx1 hx2 hx0 _)
  have hlt : ∀ x ∈ p, x.block < W.heap.size := fun x hx => hW'.lt x (List.mem_append_left _ hx)
  rw [Tryd.params4] at hA hval
  obtain ⟨v0, vs0, d0, ds0, p0, q0, hargs, rfl, rfl, h0, r0⟩ := trodAll_cons hA
  obtain ⟨v1, vs1, d1, ds1, p1, q1, rfl, rfl, rfl, h1, r1⟩ := trodAll_cons r0
  obtain ⟨rfl, rfl, rfl⟩ := trodAll_nil r1
  obtain rfl : args = #[v0, v1] := by cases args; simp_all
  obtain ⟨a0, ks0, c0, rfl, hz0, hl0⟩ := open_knots (e := 69) (u1 := 2) (u2 := 66) (u3 := 2) (by kernel_rfl) Tryd.underlying69 (by kernel_rfl) (by kernel_rfl) (by kernel_rfl) (by kernel_rfl) (by kernel_rfl) (by kernel_rfl) (by kernel_rfl) (by kernel_rfl) (by kernel_rfl) (by kernel_rfl) (by kernel_rfl) (by kernel_rfl) (by kernel_rfl) (by kernel_rfl) (by kernel_rfl) (by kernel_rfl) (by kernel_rfl) (by kernel_rfl) (by kernel_rfl) (hval 0 31 v0 rfl rfl) h0
  obtain ⟨a1, z1, c1, rfl, hz1⟩ := open_intS (e := 2) (by kernel_rfl) (by kernel_rfl) (by kernel_rfl) (hval 1 32 v1 rfl rfl) h1
  refine (fnExactWalkTree_walk x0 x1 x2 a0 ks0 c0 a1 z1 c1 W hSen hz0 hl0 hz1).mono fun e W' ⟨he, hb⟩ => ?_
  subst he
  exact ⟨_, rfl, law_postV laidOut rfl Tryd.underlying4 (of_all (by kernel_rfl)) hW' rfl rfl rfl (sen_varsW enc (var_below hx1 hb) (var_below hx2 hb) (var_below hx0 hb) _) hb⟩

theorem fnExactWalkTree_over : Rows.fnExactWalkTreeRow.holds Tryd.pinned (OpenSpec.ofChange Rows.fnExactWalkTreeSpec) :=
  OpenClaim.holds_of_wide 4 Tryd.f4 rfl rfl rfl rfl rfl rfl rfl ⟨rfl, rfl, rfl, rfl, rfl⟩ rfl rfl rfl rfl rfl (by kernel_rfl) Tryd.func4 (by kernel_rfl)
    (of_decide_eq_true (by kernel_rfl)) (by unfold Func.isWrapper; rw [if_neg (of_decide_eq_false (by kernel_rfl))]; exact ⟨rfl, rfl⟩)
    (fun os started H enc _ => fnExactWalkTree_lifted os started H enc)

/-- The card. -/
theorem fnExactWalkTree_holds : Rows.FnExactWalkTreeCardSaid :=
  Claim7.holds_tied_plain_at .later [] [.sentinel, .sentinel, .sentinel] true _ true fnExactWalkTree_over (fun _ h => by cases h) (by kernel_rfl) (fun _ h => by cases h) fnExactWalkTree_row_tie rfl ⟨rfl, rfl⟩ (by kernel_rfl) rfl
    (fun f fn hf hfn => by
      obtain rfl : f = 4 := Option.some.inj ((show Tryd.prog.funcNamed Tryd.f4.name = some 4 by kernel_rfl).symm.trans hf) |>.symm
      obtain rfl : fn = Tryd.f4 := (Option.some.inj (Tryd.func4.symm.trans hfn)).symm
      exact ⟨by kernel_rfl, fun j t ht => by
        rw [Tryd.params4] at ht
        have hm : t ∈ [31, 32] := by simpa using Array.mem_of_getElem? ht
        have hall : ([31, 32].all fun u => !Tryd.prog.wantsStandIn u) = true := by kernel_rfl
        exact (show Tryd.prog.wantsStandIn t = false by simpa using List.all_eq_true.1 hall t hm)⟩)
    (by kernel_rfl)
end
end Go.Proofs.YtppjmngnjdeigaaDoor



