/- UndoEdits answers, for all edits, as its model does; its answer is memory of its own. No conditions. -/
import Derived.Test.YtpgonfeobfefaaaEdUI
import Derived.Test.YtpgonfeobfefaaaEdMa
import Derived.Test.YtpgonfeobfefaaaEbH
import Derived.Test.YtpgonfeobfefaaaEdL
import Derived.Deep.DeepCutAuto
namespace Go.Proofs.Ytpgonfeobfefaaa
open Go.ChangeShapes Go.WideShapes Go.ChangeAt Go.RowKit

theorem unL_fit {cs : List Ed} (h : ∀ i, i < cs.length → (edAt cs i).fits) : ∀ r, r ≤ cs.length → ∀ x ∈ unL cs r, x.fits
  | 0, _ => fun x hx => by cases hx
  | r + 1, hr => fun x hx => by
    rcases List.mem_append.1 hx with e | e
    · exact unL_fit h r (by omega) x e
    · simp at e
      subst e
      exact unE_fits (h _ (by omega))
theorem unA_fit {cs : List Ed} (h : ∀ i, i < cs.length → (edAt cs i).fits) : ∀ i, i < (unA cs).length → (edAt (unA cs) i).fits := by
  intro i hi
  have hm : edAt (unA cs) i ∈ unA cs := by
    unfold edAt
    simp only [List.getD, List.getElem?_eq_getElem hi, Option.getD_some]
    exact List.getElem_mem _
  unfold unA at hm hi ⊢
  split at hm
  · rename_i k
    rw [if_pos k] at hi ⊢
    exact unL_fit h _ (Nat.le_refl _) _ hm
  · cases hm
/-- Edits of the law's own. -/
def EdW (cs : List Ed) (g : Nat) (W : World) : Prop := EditsIn W (some ⟨g, 0, none⟩) cs ∧ Wb W g (cs.length * 5) ∧ g < W.heap.size
theorem EdW.ab {cs : List Ed} {g : Nat} {W W' : World} (h : EdW cs g W) (k : Ab W W') : EdW cs g W' := ⟨editsIn_below h.1 k, h.2.1.below k h.2.2, Nat.lt_of_lt_of_le h.2.2 k.size⟩
theorem un_next {B : Nat} {w a b : World} (h : Below B w a) (hB : B ≤ w.heap.size) (k : Below a.heap.size a b) : Below B w b := h.trans (Below.mono k (Nat.le_trans hB h.size))

set_option maxRecDepth 100000 in
set_option maxHeartbeats 6400000 in
theorem fnExactUndoEdits_walk (a1 : Option Addr) (cs : List Ed) (c1 : Nat) (w : World) (h1 : EditsIn w a1 cs) (l1 : cs.length ≤ maxLen) :
    Calls Try.prog 3 #[.slice a1 cs.length c1] w fun e w' => e = .returned (.bool true) ∧ Below w.heap.size w w' := by
  unfold maxLen at l1
  have H1 := Lib.hid h1
  have Z1 := Lib.hid fun W hs => szEditS_any a1 cs c1 1048576 W hs (by decide) (by decide) (by omega)
  clear l1 h1
  go_enter Try.func3, Try.ntmps3
  go_upto_region 3 with (go_at_call 8; refine (Z1.out _ H1.out).mono ?_; rintro e w1 ⟨z, rfl, z0, z1, z2, hB⟩; have B2 := Lib.hid hB; clear hB)
  by_cases hz0 : z < 0
  · have d1 : decide (z < 0) = true := decide_eq_true hz0
    go_wp2
    go_returns
    exact ⟨rfl, B2.out⟩
  have d1 : decide (z < 0) = false := decide_eq_false hz0
  have nn := z2 (by omega)
  clear z0 z1 z2 hz0
  have T1 := Lib.hid fun W hs => toEditS_any a1 cs c1 W hs (by omega)
  have E1 := Lib.hid fun a b c d W ha hb => eqEditS_same a b cs c d W ha hb (by omega)
  have S := fun x c1 W hx => sUndo_any x cs c1 W hx (by omega)
  have I := fun x c1 W hx => iUndo_any x cs c1 W hx (by omega)
  have FT := Lib.hid (unA_fit (fun i hi => (H1.out i hi).1))
  have xl := unA_len cs
  generalize unA cs = xs at *
  generalize edsC cs = cd at *
  have EQ := Lib.hid fun a b c d W ha hb => eqEditS_same a b xs c d W ha hb (by omega)
  have MO := Lib.hid fun B v W h => markEditsOwn_any B xs v 1 W h (by omega)
  have HD := Lib.hid fun a ds c (hds : ds.length = xs.length) W h hm => heldEdits_any a ds c 1 xs.length hds.symm W h hm (by omega)
  have S := Lib.hid S
  have I := Lib.hid I
  obtain ⟨kk, hkk⟩ : ∃ kk : Nat, kk = 1 + 5 * cs.length := ⟨_, rfl⟩
  have M1 := fun g W hW hg => markEdits_any cs.length g 1 cs.length W hW hg (by omega)
  rw [← hkk] at M1
  have M1 := Lib.hid M1
  have k0 : decide ((kk : Int) < 0) = false := by simp
  generalize 1 + 5 * xs.length = mm at *
  have n0 : decide ((mm : Int) < 0) = false := by simp
  have n3 : ((mm : Int) != (mm : Int)) = false := by simp
  have n4 : (cd != cd) = false := by simp
  clear hkk xl nn
  have tok1 : True := trivial
  have tok2 : True := trivial
  have tok3 : True := trivial
  have tok4 : True := trivial
  have tok5 : True := trivial
  have tok6 : True := trivial
  have tok7 : True := trivial
  have tok8 : True := trivial
  have tok9 : True := trivial
  have tok10 : True := trivial
  go_upto_region 8 with (first
    | (go_at_call 10; have _t := tok1; clear _t tok1; refine (T1.out _ (editsIn_below H1.out B2.out)).mono ?_; rintro e w3 ⟨v, rfl, ⟨g3, rfl, _, _, hs, _⟩, hB⟩; have B4 := Lib.hid (un_next B2.out (Nat.le_refl _) hB); have X4 := Lib.hid hs; clear hB hs)
    | (go_at_call 9; refine (S.out _ _ _ X4.out).mono ?_; rintro e w5 ⟨v5, rfl, hO, hB⟩; obtain ⟨a5, c5, rfl, hi⟩ := ownEdits_in hO; have S5 := Lib.hid (editsIn_of hi FT.out); have B5 := Lib.hid (un_next B4.out (Nat.le_refl _) hB); clear hO hi hB)
    | (go_at_call 10; have _t := tok2; clear _t tok2; refine (T1.out _ (editsIn_below H1.out B5.out)).mono ?_; rintro e w7 ⟨v, rfl, ⟨g7, rfl, hg7, hl7, hs7, hf7⟩, hB⟩; have C7 := Lib.hid (show Ab w5 w7 from hB); have G7 := Lib.hid hg7; have F7 := Lib.hid (show EdW cs g7 w7 from ⟨hs7, edits_cells hs7 hf7, hl7⟩); clear hB hs7 hf7 hg7 hl7)
    | (go_at_call 11; have _t := tok3; clear _t tok3; refine (I.out _ _ _ F7.out.1).mono ?_; rintro e w8 ⟨v8, rfl, hO, hB⟩; obtain ⟨a8, c8, rfl, hi⟩ := ownEdits_in hO; have O8 := Lib.hid hO; have I8 := Lib.hid (editsIn_of hi FT.out); have C8 := Lib.hid (Ab.trans C7.out hB); have F8 := Lib.hid (F7.out.ab hB); clear hB hO hi))
  go_upto_region 14 with (first
    | (go_at_call 12; have _t := tok4; clear _t tok4; refine (EQ.out _ _ _ _ _ I8.out (editsIn_below S5.out C8.out)).mono ?_; rintro e w9 ⟨rfl, hB⟩; have C9 := Lib.hid (Ab.trans C8.out hB); have F9 := Lib.hid (F8.out.ab hB); have O9 := Lib.hid (ownEdits_kept O8.out hB); clear hB)
    | (go_at_call 10; have _t := tok5; clear _t tok5; refine (T1.out _ (editsIn_below H1.out (un_next B5.out (Nat.le_refl _) C9.out))).mono ?_; rintro e w12 ⟨v, rfl, ⟨g12, rfl, _, _, hs, _⟩, hB⟩; have C12 := Lib.hid (Ab.trans C9.out hB); have F12 := Lib.hid (F9.out.ab hB); have O12 := Lib.hid (ownEdits_kept O9.out hB); have Y12 := Lib.hid hs; clear hB hs)
    | (go_at_call 12; have _t := tok6; clear _t tok6; refine (E1.out _ _ _ _ _ F12.out.1 Y12.out).mono ?_; rintro e w13 ⟨rfl, hB⟩; have C13 := Lib.hid (Ab.trans C12.out hB); have F13 := Lib.hid (F12.out.ab hB); have O13 := Lib.hid (ownEdits_kept O12.out hB); clear hB)
    | (go_at_call 13; have _t := tok7; clear _t tok7; refine (M1.out _ _ F13.out.2.1 F13.out.2.2).mono ?_; rintro e w15 ⟨rfl, hO⟩; have O15 := Lib.hid (ownEdits_oth O13.out hO F7.out.2.2); have C15 := Lib.hid (Below.trans C13.out (Below.mono (hO.below (Nat.le_of_lt F13.out.2.2)) G7.out)); clear hO))
  go_wp2_with (first
    | (go_at_call 12; have _t := tok8; clear _t tok8; have hx := O15.out; obtain ⟨_, _, hv, hi⟩ := ownEdits_in hx; cases hv; refine (EQ.out _ _ _ _ _ (editsIn_of hi FT.out) (editsIn_below S5.out C15.out)).mono ?_; rintro e w16 ⟨rfl, hB⟩; have C16 := Lib.hid (Ab.trans C15.out hB); have O16 := Lib.hid (ownEdits_kept hx hB); clear hB hx hi)
    | (go_at_call 13; refine (MO.out _ _ _ O16.out).mono ?_; rintro e w17 ⟨rfl, ⟨ds, hds, hm, hO⟩, hB⟩; obtain ⟨am, cm, hv, hi⟩ := ownEdits_in hO; rw [hds] at hv; cases hv; have MI := Lib.hid hi; have MM := Lib.hid hm; have C17 := Lib.hid (Below.trans C16.out (hB.mono C7.out.size)); clear hO hB hi hm)
    | (go_at_call 14; have _t := tok9; clear _t tok9; refine (HD.out _ _ _ hds _ MI.out MM.out).mono ?_; rintro e w18 ⟨rfl, hB⟩; have C18 := Lib.hid (Ab.trans C17.out hB); have I18 := Lib.hid (cellsed_below MI.out hB); clear hB)
    | (go_at_call 10; refine (T1.out _ (editsIn_below H1.out (un_next B5.out (Nat.le_refl _) C18.out))).mono ?_; rintro e w20 ⟨v, rfl, ⟨g20, rfl, _, _, hs, _⟩, hB⟩; have C20 := Lib.hid (Ab.trans C18.out hB); have I20 := Lib.hid (cellsed_below I18.out hB); have Y20 := Lib.hid hs; clear hB hs)
    | (go_at_call 11; refine (I.out _ _ _ Y20.out).mono ?_; rintro e w21 ⟨v21, rfl, hO, hB⟩; obtain ⟨a21, c21, rfl, hi⟩ := ownEdits_in hO; have J21 := Lib.hid (editsIn_of hi FT.out); have C21 := Lib.hid (Ab.trans C20.out hB); have I21 := Lib.hid (cellsed_below I20.out hB); clear hB hO hi)
    | (go_at_call 12; refine (EQ.out _ _ _ _ _ J21.out (editsIn_below S5.out C21.out)).mono ?_; rintro e w22 ⟨rfl, hB⟩; have C22 := Lib.hid (Ab.trans C21.out hB); have I22 := Lib.hid (cellsed_below I21.out hB); clear hB)
    | (go_at_call 14; refine (HD.out _ _ _ hds _ I22.out MM.out).mono ?_; rintro e w23 ⟨rfl, hB⟩; have C23 := Lib.hid (Ab.trans C22.out hB); clear hB))
  all_goals go_returns
  all_goals exact ⟨rfl, un_next B5.out (Nat.le_refl _) C23.out⟩
/-! ### The frame round the walk -/
section
set_option maxRecDepth 100000 in
theorem fnExactUndoEdits_lifted (os : Os) (started : os.Started) (H : Type) (enc : TypeId × Value → H) :
    ReturnsInHanded {} Try.checked os 3 .any (Rows.fnExactUndoEditsSpec.pre6 enc Try.prog Try.f3 Rows.fnExactUndoEditsRow.domain false) (Rows.fnExactUndoEditsSpec.post enc Try.prog Try.f3 false true false false) := by
  refine returnsInHanded_of_change_sized (C := Try.checked) own started (by kernel_rfl) Try.func3
    (ChangeSpec.witness6 (enc := enc) (C := Try.checked) false ⟨#[], #[.slice none 0 0], []⟩ 8 (by kernel_rfl) (by kernel_rfl) (by kernel_rfl) (by kernel_rfl)) ?_
  intro W base args ds gs before hval hW _ hsz _
  have hW' := hW
  obtain ⟨p, q, hA, hV, rfl, _, _⟩ := hW
  obtain ⟨rfl, rfl⟩ := trodVars_none hV
  have hlt : ∀ x ∈ p, x.block < W.heap.size := fun x hx => by simpa using hW'.lt x (by simpa using hx)
  rw [Try.params3] at hA hval hsz
  obtain ⟨v0, vs0, d0, ds0, p0, q0, hargs, rfl, rfl, h0, r0⟩ := trodAll_cons hA
  obtain ⟨rfl, rfl, rfl⟩ := trodAll_nil r0
  obtain rfl : args = #[v0] := by cases args; simp_all
  obtain ⟨a0, es0, c0, rfl, hz0, hl0⟩ := open_editsT (u := 44) (e := 83) (by kernel_rfl) Try.underlying83 (by kernel_rfl) (by kernel_rfl) (by kernel_rfl) (by kernel_rfl) (by kernel_rfl) (by kernel_rfl) (by kernel_rfl) (by kernel_rfl) (by kernel_rfl) (by kernel_rfl) (by kernel_rfl) (by kernel_rfl) (by kernel_rfl) (by kernel_rfl) (by kernel_rfl) (hval 0 22 v0 rfl rfl) h0
  refine (fnExactUndoEdits_walk a0 es0 c0 W hz0 hl0).mono fun e W' ⟨he, hb⟩ => ?_
  subst he
  exact ⟨_, rfl, law_post laidOut rfl Try.underlying4 (of_all (by kernel_rfl)) rfl hW' rfl rfl rfl hb⟩

theorem fnExactUndoEdits_over : Rows.fnExactUndoEditsRow.holds Try.pinned (OpenSpec.ofChange Rows.fnExactUndoEditsSpec) :=
  OpenClaim.holds_of_wide 3 Try.f3 rfl rfl rfl rfl rfl rfl rfl ⟨rfl, rfl, rfl, rfl, rfl⟩ rfl rfl rfl rfl rfl (by kernel_rfl) Try.func3 (by kernel_rfl)
    (of_decide_eq_true (by kernel_rfl)) (by unfold Func.isWrapper; rw [if_neg (of_decide_eq_false (by kernel_rfl))]; exact ⟨rfl, rfl⟩)
    (fun os started H enc _ => fnExactUndoEdits_lifted os started H enc)

/-- The statement. -/
theorem fnExactUndoEdits_holds : Rows.FnExactUndoEditsSaid := fnExactUndoEdits_over
end
end Go.Proofs.Ytpgonfeobfefaaa
