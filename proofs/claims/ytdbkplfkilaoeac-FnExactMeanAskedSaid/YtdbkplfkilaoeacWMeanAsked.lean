/- MeanAsked answers, for every tree, as its model does. No conditions. -/
import Derived.Test.YtdbkplfkilaoeacMnI
import Derived.Test.YtdbkplfkilaoeacMnW
import Derived.Test.YtdbkplfkilaoeacKnS
import Derived.Deep.DeepCutAuto
namespace Go.Proofs.Ytdbkplfkilaoeac
open Go.ChangeShapes Go.WideShapes Go.ChangeAt Go.RowKit

theorem eqShare_mean (a b : Int) (w : World) :
    Calls Try.prog 19 #[.agg #[.int .i64 a, .int .i64 b], .agg #[.int .i64 a, .int .i64 b]] w fun e w' => e = .returned (.bool true) ∧ Below w.heap.size w w' := by
  have h1 : (a != a) = false := by simp
  have h2 : (b != b) = false := by simp
  go_enter Try.func19, Try.ntmps19
  go_wp2
  all_goals go_returns
  all_goals exact ⟨rfl, (by repeat' (first | (with_reducible exact Below.refl _ _) | (with_reducible assumption) | (with_reducible refine below_drewN ?_ _) | (with_reducible refine Below.drew ?_) | (with_reducible refine below_new ?_ _) | (with_reducible refine below_next ?_ (by with_reducible assumption)) | (with_reducible refine Below.setCell ?_ ?_ _) | go_size))⟩

set_option maxHeartbeats 1600000 in
theorem fnExactMeanAsked_walk (a1 : Option Addr) (cs : List Kn) (c1 : Nat) (w : World) (h1 : KnotsIn w a1 cs) (l1 : cs.length ≤ maxLen) :
    Calls Try.prog 6 #[.slice a1 cs.length c1] w fun e w' => e = .returned (.bool true) ∧ Below w.heap.size w w' := by
  unfold maxLen at l1
  have H1 := Lib.hid h1
  have Z1 := Lib.hid fun W hs => szKnotS_any a1 cs c1 1048576 W hs (by decide) (by decide) (by omega)
  clear h1 l1
  go_enter Try.func6, Try.ntmps6
  go_upto_region 3 with (go_at_call 8; refine (Z1.out _ H1.out).mono ?_; rintro e w1 ⟨z, rfl, z0, z1, z2, hB⟩; have b1 := Lib.hid hB; clear hB)
  by_cases hz : z < 0
  · have d1 : decide (z < 0) = true := decide_eq_true hz
    go_wp2
    go_returns
    exact ⟨rfl, b1.out⟩
  have d1 : decide (z < 0) = false := decide_eq_false hz
  have n1 : KsSmall cs := z2 (by omega)
  have T1 := Lib.hid fun W hs => toKnotS_any a1 cs c1 W hs n1
  have S := fun a c W ha => sMeanAsked_any a cs c W ha n1
  have I := fun a c W ha => iMeanAsked_any a cs c W ha n1
  have E1 := Lib.hid fun a b c d W ha hb => eqKnotS_same a b cs c d W ha hb n1
  obtain ⟨x, y, k, hx⟩ := meanV_parts cs
  simp only [hx] at S I
  have hk : (k != k) = false := by simp
  have S := Lib.hid S
  have I := Lib.hid I
  clear z0 z1 z2 hz n1 hx
  have tok1 : True := trivial
  have tok2 : True := trivial
  have tok3 : True := trivial
  go_wp2_with (first
    | (go_at_call 10; have _t := tok1; clear _t tok1; refine (T1.out _ (knotsIn_below H1.out b1.out)).mono ?_; rintro e w2 ⟨v, rfl, ⟨g2, rfl, _, _, hs⟩, hB⟩; have b2 := Lib.hid (b1.out.trans (Below.mono hB b1.out.size)); have s2 := Lib.hid hs; clear hB hs)
    | (go_at_call 17; refine (S.out _ _ _ s2.out).mono ?_; rintro e w3 ⟨rfl, hB⟩; have b3 := Lib.hid (b2.out.trans (Below.mono hB b2.out.size)); have b3' := Lib.hid (below_new b3.out (.cells #[.int .i64 x, .int .i64 y] 33)); have m3 := Lib.hid (block_alloc w3 (.cells #[.int .i64 x, .int .i64 y] 33)); clear hB)
    | (go_at_call 10; have _t := tok2; clear _t tok2; refine (T1.out _ (knotsIn_below H1.out b3'.out)).mono ?_; rintro e w4 ⟨v, rfl, ⟨g4, rfl, _, _, hs⟩, hB⟩; have b4 := Lib.hid (b3'.out.trans (Below.mono hB b3'.out.size)); have m4 := Lib.hid (Ab.block hB m3.out); have s4 := Lib.hid hs; clear hB hs)
    | (go_at_call 18; refine (I.out _ _ _ s4.out).mono ?_; rintro e w5 ⟨rfl, hB⟩; have b5 := Lib.hid (b4.out.trans (Below.mono hB b4.out.size)); have m5 := Lib.hid (Ab.block hB m4.out); have b5' := Lib.hid (below_new b5.out (.cells #[.int .i64 x, .int .i64 y] 33)); have k5 := cell_of_block m5.out; have z5 := lt_of_block m5.out; have s4 := Lib.hid (knotsIn_below (knotsIn_below s4.out hB) (below_new (Below.refl _ _) (.cells #[.int .i64 x, .int .i64 y] 33))); clear hB)
    | (go_at_call 19; refine (eqShare_mean _ _ _).mono ?_; rintro e w6 ⟨rfl, hB⟩; have b6 := Lib.hid (b5'.out.trans (Below.mono hB b5'.out.size)); have s4 := Lib.hid (knotsIn_below s4.out hB); clear hB)
    | (go_at_call 10; have _t := tok3; clear _t tok3; refine (T1.out _ (knotsIn_below H1.out b6.out)).mono ?_; rintro e w7 ⟨v, rfl, ⟨g6, rfl, _, _, hs⟩, hB⟩; have b7 := Lib.hid (b6.out.trans (Below.mono hB b6.out.size)); have s6 := Lib.hid hs; have s4 := Lib.hid (knotsIn_below s4.out hB); clear hB hs)
    | (go_at_call 12; refine (E1.out _ _ _ _ _ s4.out s6.out).mono ?_; rintro e w8 ⟨rfl, hB⟩; have b8 := Lib.hid (b7.out.trans (Below.mono hB b7.out.size)); clear hB))
  all_goals go_returns
  all_goals exact ⟨rfl, b8.out⟩
/-! ### The frame round the walk -/
section
set_option maxRecDepth 100000 in
theorem fnExactMeanAsked_lifted (os : Os) (started : os.Started) (H : Type) (enc : TypeId × Value → H) :
    ReturnsInHanded {} Try.checked os 6 .any (Rows.fnExactMeanAskedSpec.pre6 enc Try.prog Try.f6 Rows.fnExactMeanAskedRow.domain false) (Rows.fnExactMeanAskedSpec.post enc Try.prog Try.f6 false true false false) := by
  refine returnsInHanded_of_change_sized (C := Try.checked) own started (by kernel_rfl) Try.func6
    (ChangeSpec.witness6 (enc := enc) (C := Try.checked) false ⟨#[], #[.slice none 0 0], []⟩ 8 (by kernel_rfl) (by kernel_rfl) (by kernel_rfl) (by kernel_rfl)) ?_
  intro W base args ds gs before hval hW _ hsz _
  have hW' := hW
  obtain ⟨p, q, hA, hV, rfl, _, _⟩ := hW
  obtain ⟨rfl, rfl⟩ := trodVars_none hV
  have hlt : ∀ x ∈ p, x.block < W.heap.size := fun x hx => by simpa using hW'.lt x (by simpa using hx)
  rw [Try.params6] at hA hval hsz
  obtain ⟨v0, vs0, d0, ds0, p0, q0, hargs, rfl, rfl, h0, r0⟩ := trodAll_cons hA
  obtain ⟨rfl, rfl, rfl⟩ := trodAll_nil r0
  obtain rfl : args = #[v0] := by cases args; simp_all
  obtain ⟨a0, ks0, c0, rfl, hz0, hl0⟩ := open_knots (e := 43) (u1 := 2) (u2 := 39) (u3 := 2) (by kernel_rfl) Try.underlying43 (by kernel_rfl) (by kernel_rfl) (by kernel_rfl) (by kernel_rfl) (by kernel_rfl) (by kernel_rfl) (by kernel_rfl) (by kernel_rfl) (by kernel_rfl) (by kernel_rfl) (by kernel_rfl) (by kernel_rfl) (by kernel_rfl) (by kernel_rfl) (by kernel_rfl) (by kernel_rfl) (by kernel_rfl) (by kernel_rfl) (by kernel_rfl) (hval 0 22 v0 rfl rfl) h0
  refine (fnExactMeanAsked_walk a0 ks0 c0 W hz0 hl0).mono fun e W' ⟨he, hb⟩ => ?_
  subst he
  exact ⟨_, rfl, law_post laidOut rfl Try.underlying4 (of_all (by kernel_rfl)) rfl hW' rfl rfl rfl hb⟩

theorem fnExactMeanAsked_over : Rows.fnExactMeanAskedRow.holds Try.pinned (OpenSpec.ofChange Rows.fnExactMeanAskedSpec) :=
  OpenClaim.holds_of_wide 6 Try.f6 rfl rfl rfl rfl rfl rfl rfl ⟨rfl, rfl, rfl, rfl, rfl⟩ rfl rfl rfl rfl rfl (by kernel_rfl) Try.func6 (by kernel_rfl)
    (of_decide_eq_true (by kernel_rfl)) (by unfold Func.isWrapper; rw [if_neg (of_decide_eq_false (by kernel_rfl))]; exact ⟨rfl, rfl⟩)
    (fun os started H enc _ => fnExactMeanAsked_lifted os started H enc)

/-- The statement. -/
theorem fnExactMeanAsked_holds : Rows.FnExactMeanAskedSaid := fnExactMeanAsked_over
end
end Go.Proofs.Ytdbkplfkilaoeac
