/- BestSize answers, for every five numbers, as its model does. No conditions. -/
import Derived.Test.YtdbkplfkilaoeabBs
namespace Go.Proofs.Ytdbkplfkilaoeab
open Go.ChangeShapes Go.WideShapes Go.ChangeAt Go.RowKit

set_option maxHeartbeats 1600000 in
theorem fnExactBestSize_walk (p : Int) (_h0 : I64 p) (n : Int) (_h1 : I64 n) (a : Int) (_h2 : I64 a) (m : Int) (_h3 : I64 m) (c : Int) (_h4 : I64 c) (w : World) :
    Calls Try.prog 6 #[.int .i64 p, .int .i64 n, .int .i64 a, .int .i64 m, .int .i64 c] w fun e w' => e = .returned (.bool true) ∧ Below w.heap.size w w' := by
  have I := Lib.hid fun W => iBest_any p n a m c W
  have S := Lib.hid fun W => sBest_any p n a m c W
  obtain ⟨x, k, hx⟩ := bsR_parts p n a m c
  rw [hx] at I S
  have hxx : (x != x) = false := by simp
  have hk : (k != k) = false := by simp
  clear hx
  go_enter Try.func6, Try.ntmps6
  go_wp2_with (first
    | (go_at_call 18; refine (S.out _).mono ?_; rintro e w2 ⟨rfl, hB⟩; have b2 := Lib.hid hB; clear hB)
    | (go_at_call 19; refine (I.out _).mono ?_; rintro e w4 ⟨rfl, hB⟩; have b4 := Lib.hid (b2.out.trans (Below.mono hB b2.out.size)); clear hB))
  all_goals go_returns
  all_goals exact ⟨rfl, b4.out⟩
/-! ### The frame round the walk -/
section
set_option maxRecDepth 100000 in
theorem fnExactBestSize_lifted (os : Os) (started : os.Started) (H : Type) (enc : TypeId × Value → H) :
    ReturnsInHanded {} Try.checked os 6 .any (Rows.fnExactBestSizeSpec.pre6 enc Try.prog Try.f6 Rows.fnExactBestSizeRow.domain false) (Rows.fnExactBestSizeSpec.post enc Try.prog Try.f6 false true false false) := by
  refine returnsInHanded_of_change_sized (C := Try.checked) own started (by kernel_rfl) Try.func6
    (ChangeSpec.witness6 (enc := enc) (C := Try.checked) false ⟨#[], #[.int .i64 0, .int .i64 0, .int .i64 0, .int .i64 0, .int .i64 0], []⟩ 8 (by kernel_rfl) (by kernel_rfl) (by kernel_rfl) (by kernel_rfl)) ?_
  intro W base args ds gs before hval hW _ hsz _
  have hW' := hW
  obtain ⟨p, q, hA, hV, rfl, _, _⟩ := hW
  obtain ⟨rfl, rfl⟩ := trodVars_none hV
  have hlt : ∀ x ∈ p, x.block < W.heap.size := fun x hx => by simpa using hW'.lt x (by simpa using hx)
  rw [Try.params6] at hA hval hsz
  obtain ⟨v0, vs0, d0, ds0, p0, q0, hargs, rfl, rfl, h0, r0⟩ := trodAll_cons hA
  obtain ⟨v1, vs1, d1, ds1, p1, q1, rfl, rfl, rfl, h1, r1⟩ := trodAll_cons r0
  obtain ⟨v2, vs2, d2, ds2, p2, q2, rfl, rfl, rfl, h2, r2⟩ := trodAll_cons r1
  obtain ⟨v3, vs3, d3, ds3, p3, q3, rfl, rfl, rfl, h3, r3⟩ := trodAll_cons r2
  obtain ⟨v4, vs4, d4, ds4, p4, q4, rfl, rfl, rfl, h4, r4⟩ := trodAll_cons r3
  obtain ⟨rfl, rfl, rfl⟩ := trodAll_nil r4
  obtain rfl : args = #[v0, v1, v2, v3, v4] := by cases args; simp_all
  obtain ⟨n0, rfl, hn0⟩ := open_i64 (by kernel_rfl) (hval 0 2 v0 rfl rfl)
  obtain ⟨n1, rfl, hn1⟩ := open_i64 (by kernel_rfl) (hval 1 2 v1 rfl rfl)
  obtain ⟨n2, rfl, hn2⟩ := open_i64 (by kernel_rfl) (hval 2 2 v2 rfl rfl)
  obtain ⟨n3, rfl, hn3⟩ := open_i64 (by kernel_rfl) (hval 3 2 v3 rfl rfl)
  obtain ⟨n4, rfl, hn4⟩ := open_i64 (by kernel_rfl) (hval 4 2 v4 rfl rfl)
  refine (fnExactBestSize_walk n0 hn0 n1 hn1 n2 hn2 n3 hn3 n4 hn4 W).mono fun e W' ⟨he, hb⟩ => ?_
  subst he
  exact ⟨_, rfl, law_post laidOut rfl Try.underlying4 (of_all (by kernel_rfl)) rfl hW' rfl rfl rfl hb⟩

theorem fnExactBestSize_over : Rows.fnExactBestSizeRow.holds Try.pinned (OpenSpec.ofChange Rows.fnExactBestSizeSpec) :=
  OpenClaim.holds_of_wide 6 Try.f6 rfl rfl rfl rfl rfl rfl rfl ⟨rfl, rfl, rfl, rfl, rfl⟩ rfl rfl rfl rfl rfl (by kernel_rfl) Try.func6 (by kernel_rfl)
    (of_decide_eq_true (by kernel_rfl)) (by unfold Func.isWrapper; rw [if_neg (of_decide_eq_false (by kernel_rfl))]; exact ⟨rfl, rfl⟩)
    (fun os started H enc _ => fnExactBestSize_lifted os started H enc)

/-- The statement. -/
theorem fnExactBestSize_holds : Rows.FnExactBestSizeSaid := fnExactBestSize_over
end
end Go.Proofs.Ytdbkplfkilaoeab
