/- HolesIn answers, for every mask, as its model does; its answer is memory of its own. No conditions. -/
import Derived.Test.YtljabggcdomfgaaHolesIn
namespace Go.Proofs.Ytljabggcdomfgaa
open Go.ChangeShapes Go.WideShapes Go.ChangeAt Go.RowKit

theorem intsIn_up {B : Nat} {w w' : World} {a : Option Addr} {zs : List Int} (h : IntsIn w a zs) (hB : w.heap.size ≤ B) (hb : Below B w w') : IntsIn w' a zs := fun i hi => by
  obtain ⟨b, off, ha, hlt, hc⟩ := h i hi
  exact ⟨b, off, ha, Nat.lt_of_lt_of_le hlt hb.size, (hb.cell (Nat.lt_of_lt_of_le hlt hB)).trans hc⟩

theorem toMask_b (a b : Int) (w : World) : Calls Try.prog 26 #[.agg #[.int .u64 a, .int .u64 b]] w fun e w' => e = .returned (.agg #[.int .u64 a, .int .u64 b]) ∧ Below w.heap.size w w' :=
  (toMask_any a b w).mono fun e w' ⟨he, hw⟩ => ⟨he, by subst hw; exact (by repeat' (first | (with_reducible exact Below.refl _ _) | (with_reducible assumption) | (with_reducible refine below_drewN ?_ _) | (with_reducible refine Below.drew ?_) | (with_reducible refine below_new ?_ _) | (with_reducible refine below_next ?_ (by with_reducible assumption)) | (with_reducible refine Below.setCell ?_ ?_ _) | go_size))⟩

set_option maxHeartbeats 3200000 in
theorem fnExactHolesIn_walk (a b : Int) (ha : U64 a) (hb : U64 b) (w : World) :
    Calls Try.prog 5 #[.agg #[.int .u64 a, .int .u64 b]] w fun e w' => e = .returned (.bool true) ∧ Below w.heap.size w w' := by
  have S := Lib.hid fun W => sHolesIn_any a b ha hb W
  have I := Lib.hid fun W => iHolesIn_any a b ha hb W
  have len := hz_len a b
  generalize hzL a b = zs at *
  generalize hzC b = c at *
  clear ha hb
  have hn : zs.length ≤ 17592186044404 := by omega
  have n0 : decide ((1 : Int) + (zs.length : Int) < 0) = false := by simp; omega
  have n1 : ((1 : Int) + (zs.length : Int) != (1 : Int) + (zs.length : Int)) = false := by simp
  have n2 : (c != c) = false := by simp
  have tok1 : True := trivial
  have tok2 : True := trivial
  have tok3 : True := trivial
  have tok4 : True := trivial
  go_enter Try.func5, Try.ntmps5
  go_wp2_with (first
    | (go_at_call 26; refine (toMask_b _ _ _).mono ?_; rintro e wt ⟨rfl, hBt⟩; have zt : w.heap.size < wt.heap.size := (by have := hBt.size; first | omega | (simp at this; omega)); have ct0 : wt.cell? ⟨w.heap.size, 0, none⟩ = some (.int .u64 a) := (hBt.cell (by first | omega | (simp; done) | (simp; omega))).trans (by first | with_reducible assumption | (simp; done)); have ct1 : wt.cell? ⟨w.heap.size, 1, none⟩ = some (.int .u64 b) := (hBt.cell (by first | omega | (simp; done) | (simp; omega))).trans (by first | with_reducible assumption | (simp; done)))
    | (go_at_call 25; refine (S.out _).mono ?_; rintro e ws ⟨vs, rfl, hO, hB⟩; obtain ⟨ad, cs, rfl, hs⟩ := ownInts_in hO; have SI := Lib.hid hs; have bs : Below w.heap.size w ws := (by repeat' (first | (with_reducible exact Below.refl _ _) | (with_reducible assumption) | (with_reducible refine below_drewN ?_ _) | (with_reducible refine Below.drew ?_) | (with_reducible refine below_new ?_ _) | (with_reducible refine below_next ?_ (by with_reducible assumption)) | (with_reducible refine Below.setCell ?_ ?_ _) | go_size)); have z0 : w.heap.size < ws.heap.size := (by have := hB.size; omega); have c0 : ws.cell? ⟨w.heap.size, 0, none⟩ = some (.int .u64 a) := (hB.cell (by first | omega | (simp; done) | (simp; omega))).trans ct0; have c1 : ws.cell? ⟨w.heap.size, 1, none⟩ = some (.int .u64 b) := (hB.cell (by first | omega | (simp; done) | (simp; omega))).trans ct1; have SB := Lib.hid bs; clear hO hB hs bs zt ct0 ct1 hBt)
    | (go_at_call 27; have _t := tok1; clear _t tok1; refine (I.out _).mono ?_; rintro e wi ⟨vi, rfl, hO, hB⟩; obtain ⟨ai, ci, rfl, hi⟩ := ownInts_in hO; have b1 : Below ws.heap.size ws wi := (by repeat' (first | (with_reducible exact Below.refl _ _) | (with_reducible assumption) | (with_reducible refine below_drewN ?_ _) | (with_reducible refine Below.drew ?_) | (with_reducible refine below_new ?_ _) | (with_reducible refine below_next ?_ (by with_reducible assumption)) | (with_reducible refine Below.setCell ?_ ?_ _) | go_size)); have zB := zt; have zS : ws.heap.size ≤ wt.heap.size := hBt.size; have IO := Lib.hid hO; have II := Lib.hid hi; have IB := Lib.hid b1; have y0 : w.heap.size < wi.heap.size := Nat.lt_of_lt_of_le z0 b1.size; have y1 := b1.size; have e0 : wi.cell? ⟨w.heap.size, 0, none⟩ = some (.int .u64 a) := (b1.cell (show w.heap.size < ws.heap.size from z0)).trans c0; have e1 : wi.cell? ⟨w.heap.size, 1, none⟩ = some (.int .u64 b) := (b1.cell (show w.heap.size < ws.heap.size from z0)).trans c1; clear hO hB hi b1 zt ct0 ct1 hBt)
    | (go_at_call 28; have _t := tok2; clear _t tok2; refine (eqInts_same _ _ _ _ _ _ II.out (intsIn_up SI.out (Nat.le_refl _) IB.out) hn).mono ?_; rintro e we ⟨rfl, hB⟩; have EB := Lib.hid hB; have y2 := hB.size; have g0 : we.cell? ⟨w.heap.size, 0, none⟩ = some (.int .u64 a) := (hB.cell (show w.heap.size < wi.heap.size from y0)).trans e0; have g1 : we.cell? ⟨w.heap.size, 1, none⟩ = some (.int .u64 b) := (hB.cell (show w.heap.size < wi.heap.size from y0)).trans e1; clear hB)
    | (go_at_call 29; refine (markInts_any _ _ _ _ _ (ownInts_kept IO.out EB.out) hn (by omega) (by omega)).mono ?_; rintro e wm ⟨rfl, hO, hB⟩; obtain ⟨am, cm, hv, hi⟩ := ownInts_in hO; rw [marks_len] at hv; have MV := Lib.hid hv; have MI := Lib.hid hi; have MB := Lib.hid hB; have y3 := hB.size; have m0 : wm.cell? ⟨w.heap.size, 0, none⟩ = some (.int .u64 a) := (hB.cell (show w.heap.size < _ from zB)).trans g0; have m1 : wm.cell? ⟨w.heap.size, 1, none⟩ = some (.int .u64 b) := (hB.cell (show w.heap.size < _ from zB)).trans g1; have ch := Lib.hid ((IB.out.trans (EB.out.mono y1)).trans (hB.mono zS)); clear hO hB hi hv)
    | (go_at_call 30; have _t := tok3; clear _t tok3; cases MV.out; refine (heldInts_any _ _ _ _ _ MI.out hn (by omega) (by omega)).mono ?_; rintro e wh ⟨rfl, rfl⟩)
    | (go_at_call 27; have _t := tok4; clear _t tok4; refine (I.out _).mono ?_; rintro e wj ⟨vj, rfl, hO, hB⟩; obtain ⟨aj, cj, rfl, hi⟩ := ownInts_in hO; have bj : Below wm.heap.size wm wj := (by repeat' (first | (with_reducible exact Below.refl _ _) | (with_reducible assumption) | (with_reducible refine below_drewN ?_ _) | (with_reducible refine Below.drew ?_) | (with_reducible refine below_new ?_ _) | (with_reducible refine below_next ?_ (by with_reducible assumption)) | (with_reducible refine Below.setCell ?_ ?_ _) | go_size)); have JI := Lib.hid hi; have JB := Lib.hid bj; have ch2 := Lib.hid (ch.out.trans (bj.mono (Nat.le_trans y1 (Nat.le_trans y2 y3)))); have y4 := bj.size; clear hO hB hi bj)
    | (go_at_call 28; refine (eqInts_same _ _ _ _ _ _ JI.out (intsIn_up SI.out (Nat.le_refl _) ch2.out) hn).mono ?_; rintro e wf ⟨rfl, hB⟩; have FB := Lib.hid hB; have FM := Lib.hid (intsIn_below (intsIn_below MI.out JB.out) hB); have fin := Lib.hid ((SB.out.trans (ch2.out.mono (Nat.le_of_lt z0))).trans (hB.mono (by omega))); clear hB)
    | (go_at_call 30; refine (heldInts_any _ _ _ _ _ FM.out hn (by omega) (by omega)).mono ?_; rintro e wh ⟨rfl, rfl⟩))
  go_returns
  exact ⟨rfl, fin.out⟩

/-! ### The frame round the walk -/
section
set_option maxRecDepth 100000 in
theorem fnExactHolesIn_lifted (os : Os) (started : os.Started) (H : Type) (enc : TypeId × Value → H) :
    ReturnsInHanded {} Try.checked os 5 .any (Rows.fnExactHolesInSpec.pre6 enc Try.prog Try.f5 Rows.fnExactHolesInRow.domain false) (Rows.fnExactHolesInSpec.post enc Try.prog Try.f5 false true false false) := by
  refine returnsInHanded_of_change_sized (C := Try.checked) own started (by kernel_rfl) Try.func5
    (ChangeSpec.witness6 (enc := enc) (C := Try.checked) false ⟨#[], #[.agg #[.int .u64 0, .int .u64 0]], []⟩ 8 (by kernel_rfl) (by kernel_rfl) (by kernel_rfl) (by kernel_rfl)) ?_
  intro W base args ds gs before hval hW _ hsz _
  have hW' := hW
  obtain ⟨p, q, hA, hV, rfl, _, _⟩ := hW
  obtain ⟨rfl, rfl⟩ := trodVars_none hV
  have hlt : ∀ x ∈ p, x.block < W.heap.size := fun x hx => by simpa using hW'.lt x (by simpa using hx)
  rw [Try.params5] at hA hval hsz
  obtain ⟨v0, vs0, d0, ds0, p0, q0, hargs, rfl, rfl, h0, r0⟩ := trodAll_cons hA
  obtain ⟨rfl, rfl, rfl⟩ := trodAll_nil r0
  obtain rfl : args = #[v0] := by cases args; simp_all
  obtain ⟨a0, b0, rfl, ha0, hb0⟩ := open_mask (e := 27) (by kernel_rfl) (by kernel_rfl) (by kernel_rfl) (by kernel_rfl) (hval 0 28 v0 rfl rfl)
  refine (fnExactHolesIn_walk a0 b0 ha0 hb0 W).mono fun e W' ⟨he, hb⟩ => ?_
  subst he
  exact ⟨_, rfl, law_post laidOut rfl Try.underlying4 (of_all (by kernel_rfl)) rfl hW' rfl rfl rfl hb⟩

theorem fnExactHolesIn_over : Rows.fnExactHolesInRow.holds Try.pinned (OpenSpec.ofChange Rows.fnExactHolesInSpec) :=
  OpenClaim.holds_of_wide 5 Try.f5 rfl rfl rfl rfl rfl rfl rfl ⟨rfl, rfl, rfl, rfl, rfl⟩ rfl rfl rfl rfl rfl (by kernel_rfl) Try.func5 (by kernel_rfl)
    (of_decide_eq_true (by kernel_rfl)) (by unfold Func.isWrapper; rw [if_neg (of_decide_eq_false (by kernel_rfl))]; exact ⟨rfl, rfl⟩)
    (fun os started H enc _ => fnExactHolesIn_lifted os started H enc)

/-- The statement. -/
theorem fnExactHolesIn_holds : Rows.FnExactHolesInSaid := fnExactHolesIn_over
end
end Go.Proofs.Ytljabggcdomfgaa
