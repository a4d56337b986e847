/- HolesToSort answers, for every field, as its model does; its answer is memory of its own. No conditions. -/
import Derived.Conc.Holds
import Derived.Leaving
import Derived.Test.YtaiedpblfnaooabHSort
namespace Go.Proofs.Ytaiedpblfnaooab
open Go.ChangeShapes Go.WideShapes Go.ChangeAt Go.RowKit

theorem intsIn_up {B : Nat} {w w' : World} {a : Option Addr} {zs : List Int} (h : IntsIn w a zs) (hB : w.heap.size ≤ B) (hb : Below B w w') : IntsIn w' a zs := fun i hi => by
  obtain ⟨b, off, ha, hlt, hc⟩ := h i hi
  exact ⟨b, off, ha, Nat.lt_of_lt_of_le hlt hb.size, (hb.cell (Nat.lt_of_lt_of_le hlt hB)).trans hc⟩

theorem toField_b (s : ByteArray) (k st sz : Int) (w : World) : Calls Try.prog 17 #[.agg #[.string s, .int .i8 k, .int .i16 st, .int .i16 sz]] w fun e w' => e = .returned (.agg #[.string s, .int .i8 k, .int .i16 st, .int .i16 sz]) ∧ Below w.heap.size w w' := by
  go_enter Try.func17, Try.ntmps17
  go_wp2
  go_returns
  exact ⟨rfl, (by repeat' (first | (with_reducible exact Below.refl _ _) | (with_reducible assumption) | (with_reducible refine below_drewN ?_ _) | (with_reducible refine Below.drew ?_) | (with_reducible refine below_new ?_ _) | (with_reducible refine below_next ?_ (by with_reducible assumption)) | (with_reducible refine Below.setCell ?_ ?_ _) | go_size))⟩

set_option maxHeartbeats 3200000 in
theorem fnExactHolesToSort_walk (s : ByteArray) (k st sz : Int) (hs : s.size ≤ maxLen) (hk : I8 k) (ht : I16 st) (hz : I16 sz) (w : World) :
    Calls Try.prog 5 #[.agg #[.string s, .int .i8 k, .int .i16 st, .int .i16 sz]] w fun e w' => e = .returned (.bool true) ∧ Below w.heap.size w w' := by
  have S := Lib.hid fun W => sHSort_any s k st sz hs ht hz W
  have I := Lib.hid fun W => iHSort_any s k st sz hs hk ht hz W
  have len := hs_len s k st sz
  generalize hsL s k st sz = zs at *
  generalize fC (fieldOk s k st sz) = c at *
  clear hk ht hz
  have hn : zs.length ≤ 17592186044404 := by omega
  have n0 : decide ((1 : Int) + (zs.length : Int) < 0) = false := by simp; omega
  have n1 : ((1 : Int) + (zs.length : Int) != (1 : Int) + (zs.length : Int)) = false := by simp
  have n2 : (c != c) = false := by simp
  by_cases hz : 1048576 < s.size
  · unfold maxLen at hs
    have d1 : IntKind.i64.wrap (1048576 - (s.size : Int)) = 1048576 - (s.size : Int) := IntWalk.i64_in _ (by omega)
    have d2 : decide ((1048576 : Int) - (s.size : Int) < 0) = true := by simp; omega
    go_enter Try.func5, Try.ntmps5
    go_wp2
    go_returns
    exact ⟨rfl, (by repeat' (first | (with_reducible exact Below.refl _ _) | (with_reducible assumption) | (with_reducible refine below_drewN ?_ _) | (with_reducible refine Below.drew ?_) | (with_reducible refine below_new ?_ _) | (with_reducible refine below_next ?_ (by with_reducible assumption)) | (with_reducible refine Below.setCell ?_ ?_ _) | go_size))⟩
  · unfold maxLen at hs
    have d1 : IntKind.i64.wrap (1048576 - (s.size : Int)) = 1048576 - (s.size : Int) := IntWalk.i64_in _ (by omega)
    have d2 : decide ((1048576 : Int) - (s.size : Int) < 0) = false := by simp; omega
    have tok1 : True := trivial
    have tok2 : True := trivial
    have tok3 : True := trivial
    have tok4 : True := trivial
    go_enter Try.func5, Try.ntmps5
    go_wp2_with (first
      | (go_at_call 17; refine (toField_b _ _ _ _ _).mono ?_; rintro e wt ⟨rfl, hBt⟩; have zt : w.heap.size < wt.heap.size := (by have := hBt.size; first | omega | (simp at this; omega)); have ct0 : wt.cell? ⟨w.heap.size, 0, none⟩ = some (.string s) := (hBt.cell (by first | omega | (simp; done) | (simp; omega))).trans (by first | with_reducible assumption | (simp; done)); have ct1 : wt.cell? ⟨w.heap.size, 1, none⟩ = some (.int .i8 k) := (hBt.cell (by first | omega | (simp; done) | (simp; omega))).trans (by first | with_reducible assumption | (simp; done)); have ct2 : wt.cell? ⟨w.heap.size, 2, none⟩ = some (.int .i16 st) := (hBt.cell (by first | omega | (simp; done) | (simp; omega))).trans (by first | with_reducible assumption | (simp; done)); have ct3 : wt.cell? ⟨w.heap.size, 3, none⟩ = some (.int .i16 sz) := (hBt.cell (by first | omega | (simp; done) | (simp; omega))).trans (by first | with_reducible assumption | (simp; done)))
      | (go_at_call 29; refine (S.out _).mono ?_; rintro e ws ⟨vs, rfl, hO, hB⟩; obtain ⟨ad, cs, rfl, hs⟩ := ownInts_in hO; have SI := Lib.hid hs; have bs : Below w.heap.size w ws := (by repeat' (first | (with_reducible exact Below.refl _ _) | (with_reducible assumption) | (with_reducible refine below_drewN ?_ _) | (with_reducible refine Below.drew ?_) | (with_reducible refine below_new ?_ _) | (with_reducible refine below_next ?_ (by with_reducible assumption)) | (with_reducible refine Below.setCell ?_ ?_ _) | go_size)); have z0 : w.heap.size < ws.heap.size := (by have := hB.size; omega); have c0 : ws.cell? ⟨w.heap.size, 0, none⟩ = some (.string s) := (hB.cell (by first | omega | (simp; done) | (simp; omega))).trans ct0; have c1 : ws.cell? ⟨w.heap.size, 1, none⟩ = some (.int .i8 k) := (hB.cell (by first | omega | (simp; done) | (simp; omega))).trans ct1; have c2 : ws.cell? ⟨w.heap.size, 2, none⟩ = some (.int .i16 st) := (hB.cell (by first | omega | (simp; done) | (simp; omega))).trans ct2; have c3 : ws.cell? ⟨w.heap.size, 3, none⟩ = some (.int .i16 sz) := (hB.cell (by first | omega | (simp; done) | (simp; omega))).trans ct3; have SB := Lib.hid bs; clear hO hB hs bs zt ct0 ct1 ct2 ct3 hBt)
      | (go_at_call 30; have _t := tok1; clear _t tok1; refine (I.out _).mono ?_; rintro e wi ⟨vi, rfl, hO, hB⟩; obtain ⟨ai, ci, rfl, hi⟩ := ownInts_in hO; have b1 : Below ws.heap.size ws wi := (by repeat' (first | (with_reducible exact Below.refl _ _) | (with_reducible assumption) | (with_reducible refine below_drewN ?_ _) | (with_reducible refine Below.drew ?_) | (with_reducible refine below_new ?_ _) | (with_reducible refine below_next ?_ (by with_reducible assumption)) | (with_reducible refine Below.setCell ?_ ?_ _) | go_size)); have zB := zt; have zS : ws.heap.size ≤ wt.heap.size := hBt.size; have IO := Lib.hid hO; have II := Lib.hid hi; have IB := Lib.hid b1; have y0 : w.heap.size < wi.heap.size := Nat.lt_of_lt_of_le z0 b1.size; have y1 := b1.size; have e0 : wi.cell? ⟨w.heap.size, 0, none⟩ = some (.string s) := (b1.cell (show w.heap.size < ws.heap.size from z0)).trans c0; have e1 : wi.cell? ⟨w.heap.size, 1, none⟩ = some (.int .i8 k) := (b1.cell (show w.heap.size < ws.heap.size from z0)).trans c1; have e2 : wi.cell? ⟨w.heap.size, 2, none⟩ = some (.int .i16 st) := (b1.cell (show w.heap.size < ws.heap.size from z0)).trans c2; have e3 : wi.cell? ⟨w.heap.size, 3, none⟩ = some (.int .i16 sz) := (b1.cell (show w.heap.size < ws.heap.size from z0)).trans c3; clear hO hB hi b1 zt ct0 ct1 ct2 ct3 hBt)
      | (go_at_call 25; have _t := tok2; clear _t tok2; refine (eqInts_same _ _ _ _ _ _ II.out (intsIn_up SI.out (Nat.le_refl _) IB.out) hn).mono ?_; rintro e we ⟨rfl, hB⟩; have EB := Lib.hid hB; have y2 := hB.size; have g0 : we.cell? ⟨w.heap.size, 0, none⟩ = some (.string s) := (hB.cell (show w.heap.size < wi.heap.size from y0)).trans e0; have g1 : we.cell? ⟨w.heap.size, 1, none⟩ = some (.int .i8 k) := (hB.cell (show w.heap.size < wi.heap.size from y0)).trans e1; have g2 : we.cell? ⟨w.heap.size, 2, none⟩ = some (.int .i16 st) := (hB.cell (show w.heap.size < wi.heap.size from y0)).trans e2; have g3 : we.cell? ⟨w.heap.size, 3, none⟩ = some (.int .i16 sz) := (hB.cell (show w.heap.size < wi.heap.size from y0)).trans e3; clear hB)
      | (go_at_call 27; refine (markInts_any _ _ _ _ _ (ownInts_kept IO.out EB.out) hn (by omega) (by omega)).mono ?_; rintro e wm ⟨rfl, hO, hB⟩; obtain ⟨am, cm, hv, hi⟩ := ownInts_in hO; rw [marks_len] at hv; have MV := Lib.hid hv; have MI := Lib.hid hi; have MB := Lib.hid hB; have y3 := hB.size; have m0 : wm.cell? ⟨w.heap.size, 0, none⟩ = some (.string s) := (hB.cell (show w.heap.size < _ from zB)).trans g0; have m1 : wm.cell? ⟨w.heap.size, 1, none⟩ = some (.int .i8 k) := (hB.cell (show w.heap.size < _ from zB)).trans g1; have m2 : wm.cell? ⟨w.heap.size, 2, none⟩ = some (.int .i16 st) := (hB.cell (show w.heap.size < _ from zB)).trans g2; have m3 : wm.cell? ⟨w.heap.size, 3, none⟩ = some (.int .i16 sz) := (hB.cell (show w.heap.size < _ from zB)).trans g3; have ch := Lib.hid ((IB.out.trans (EB.out.mono y1)).trans (hB.mono zS)); clear hO hB hi hv)
      | (go_at_call 31; have _t := tok3; clear _t tok3; cases MV.out; refine (heldInts_any _ _ _ _ _ MI.out hn (by omega) (by omega)).mono ?_; rintro e wh ⟨rfl, rfl⟩)
      | (go_at_call 30; have _t := tok4; clear _t tok4; refine (I.out _).mono ?_; rintro e wj ⟨vj, rfl, hO, hB⟩; obtain ⟨aj, cj, rfl, hi⟩ := ownInts_in hO; have bj : Below wm.heap.size wm wj := (by repeat' (first | (with_reducible exact Below.refl _ _) | (with_reducible assumption) | (with_reducible refine below_drewN ?_ _) | (with_reducible refine Below.drew ?_) | (with_reducible refine below_new ?_ _) | (with_reducible refine below_next ?_ (by with_reducible assumption)) | (with_reducible refine Below.setCell ?_ ?_ _) | go_size)); have JI := Lib.hid hi; have JB := Lib.hid bj; have ch2 := Lib.hid (ch.out.trans (bj.mono (Nat.le_trans y1 (Nat.le_trans y2 y3)))); have y4 := bj.size; clear hO hB hi bj)
      | (go_at_call 25; refine (eqInts_same _ _ _ _ _ _ JI.out (intsIn_up SI.out (Nat.le_refl _) ch2.out) hn).mono ?_; rintro e wf ⟨rfl, hB⟩; have FB := Lib.hid hB; have FM := Lib.hid (intsIn_below (intsIn_below MI.out JB.out) hB); have fin := Lib.hid ((SB.out.trans (ch2.out.mono (Nat.le_of_lt z0))).trans (hB.mono (by omega))); clear hB)
      | (go_at_call 31; refine (heldInts_any _ _ _ _ _ FM.out hn (by omega) (by omega)).mono ?_; rintro e wh ⟨rfl, rfl⟩)
      | go_in)
    go_returns
    exact ⟨rfl, fin.out⟩

/-! ### The frame round the walk -/
section
set_option maxRecDepth 100000 in
theorem fnExactHolesToSort_lifted (os : Os) (started : os.Started) (H : Type) (enc : TypeId × Value → H) :
    ReturnsInHanded {} Try.checked os 5 .any (Rows.fnExactHolesToSortSpec.pre6 enc Try.prog Try.f5 Rows.fnExactHolesToSortRow.domain false) (Rows.fnExactHolesToSortSpec.post enc Try.prog Try.f5 false true false false) := by
  refine returnsInHanded_of_change_sized (C := Try.checked) own started (by kernel_rfl) Try.func5
    (ChangeSpec.witness6 (enc := enc) (C := Try.checked) false ⟨#[], #[.agg #[.string ByteArray.empty, .int .i8 0, .int .i16 0, .int .i16 0]], []⟩ 8 (by kernel_rfl) (by kernel_rfl) (by kernel_rfl) (by kernel_rfl)) ?_
  intro W base args ds gs before hval hW _ hsz _
  have hW' := hW
  obtain ⟨p, q, hA, hV, rfl, _, _⟩ := hW
  obtain ⟨rfl, rfl⟩ := trodVars_none hV
  have hlt : ∀ x ∈ p, x.block < W.heap.size := fun x hx => by simpa using hW'.lt x (by simpa using hx)
  rw [Try.params5] at hA hval hsz
  obtain ⟨v0, vs0, d0, ds0, p0, q0, hargs, rfl, rfl, h0, r0⟩ := trodAll_cons hA
  obtain ⟨rfl, rfl, rfl⟩ := trodAll_nil r0
  obtain rfl : args = #[v0] := by cases args; simp_all
  obtain ⟨s0, k0, st0, sz0, rfl, hs0, hk0, hst0, hsz0⟩ := open_field (s := 9) (k := 22) (e := 23) Try.underlying25 (by kernel_rfl) (by kernel_rfl) (by kernel_rfl) (by kernel_rfl) (by kernel_rfl) (hval 0 25 v0 rfl rfl)
  refine (fnExactHolesToSort_walk s0 k0 st0 sz0 hs0 hk0 hst0 hsz0 W).mono fun e W' ⟨he, hb⟩ => ?_
  subst he
  exact ⟨_, rfl, law_post laidOut rfl Try.underlying4 (of_all (by kernel_rfl)) rfl hW' rfl rfl rfl hb⟩

theorem fnExactHolesToSort_over : Rows.fnExactHolesToSortRow.holds Try.pinned (OpenSpec.ofChange Rows.fnExactHolesToSortSpec) :=
  OpenClaim.holds_of_wide_leaving 5 Try.f5 rfl rfl rfl rfl rfl rfl rfl ⟨rfl, rfl, rfl, rfl, rfl⟩ rfl rfl rfl rfl rfl (by kernel_rfl) Try.func5 (by kernel_rfl)
    (of_decide_eq_true (by kernel_rfl)) (by unfold Func.isWrapper; rw [if_neg (of_decide_eq_false (by kernel_rfl))]; exact ⟨rfl, rfl⟩)
    (fun os started H enc _ enter => ReturnsInOpen.mono (fun _ _ _ x => ⟨x.2.1, onlyLeaving_of_quiet x.1, x.2.2⟩) (fun _ x => x) (fnExactHolesToSort_lifted os started H enc enter))

/-- The statement. -/
theorem fnExactHolesToSort_holds : Rows.FnExactHolesToSortSaid := fnExactHolesToSort_over
end
end Go.Proofs.Ytaiedpblfnaooab
