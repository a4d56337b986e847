/- FalseChance answers, for every mix and every two numbers of words, as its model does. No conditions. -/
import Derived.Test.YtdbkplfkilaoeabFcL
namespace Go.Proofs.Ytdbkplfkilaoeab
open Go.ChangeShapes Go.WideShapes Go.ChangeAt Go.RowKit

theorem fcR_parts (ok : Bool) (z p n a : Int) : ∃ x k : Int, fcR ok z p n a = .tuple #[.int .i64 x, .int .i64 k] := ⟨_, _, rfl⟩

set_option maxHeartbeats 1600000 in
theorem fnExactFalseChance_walk (t z p : Int) (ht : I16 t) (hz : I16 z) (hp : I16 p) (n : Int) (_hn : I64 n) (a : Int) (_ha : I64 a) (w : World) :
    Calls Try.prog 4 #[.agg #[.int .i16 t, .int .i16 z, .int .i16 p], .int .i64 n, .int .i64 a] w fun e w' => e = .returned (.bool true) ∧ Below w.heap.size w w' := by
  have I := Lib.hid fun W => iFalse_any t z p n a ht hz W
  have S := Lib.hid fun W => sFalse_any t z p n a ht hz hp W
  obtain ⟨x, k, hx⟩ := fcR_parts (mixOk t z p) z p n a
  rw [hx] at I S
  have hxx : (x != x) = false := by simp
  have hk : (k != k) = false := by simp
  have MX := Lib.hid (block_alloc w (.cells #[.int .i16 t, .int .i16 z, .int .i16 p] 31))
  have B0 := Lib.hid (below_new (Below.refl w.heap.size w) (.cells #[.int .i16 t, .int .i16 z, .int .i16 p] 31))
  clear hx ht hz hp
  have tok1 : True := trivial
  go_enter Try.func4, Try.ntmps4
  go_wp2_with (first
    | (go_at_call 11; have _t := tok1; clear _t tok1; refine (toMix_any _ _ _ _).mono ?_; rintro e w1 ⟨rfl, hB⟩; have b1 := Lib.hid (B0.out.trans (Below.mono hB B0.out.size)); have m1 := Lib.hid (Ab.block hB MX.out); clear hB)
    | (go_at_call 10; refine (S.out _).mono ?_; rintro e w2 ⟨rfl, hB⟩; have b2 := Lib.hid (b1.out.trans (Below.mono hB b1.out.size)); have m2 := Ab.block hB m1.out; have k2 := cell_of_block m2; have y2 := lt_of_block m2; clear hB)
    | (go_at_call 11; refine (toMix_any _ _ _ _).mono ?_; rintro e w3 ⟨rfl, hB⟩; have b3 := Lib.hid (b2.out.trans (Below.mono hB b2.out.size)); clear hB)
    | (go_at_call 12; refine (I.out _).mono ?_; rintro e w4 ⟨rfl, hB⟩; have b4 := Lib.hid (b3.out.trans (Below.mono hB b3.out.size)); clear hB))
  all_goals go_returns
  all_goals exact ⟨rfl, b4.out⟩
/-! ### The frame round the walk -/
section
set_option maxRecDepth 100000 in
theorem fnExactFalseChance_lifted (os : Os) (started : os.Started) (H : Type) (enc : TypeId × Value → H) :
    ReturnsInHanded {} Try.checked os 4 .any (Rows.fnExactFalseChanceSpec.pre6 enc Try.prog Try.f4 Rows.fnExactFalseChanceRow.domain false) (Rows.fnExactFalseChanceSpec.post enc Try.prog Try.f4 false true false false) := by
  refine returnsInHanded_of_change_sized (C := Try.checked) own started (by kernel_rfl) Try.func4
    (ChangeSpec.witness6 (enc := enc) (C := Try.checked) false ⟨#[], #[.agg #[.int .i16 0, .int .i16 0, .int .i16 0], .int .i64 0, .int .i64 0], []⟩ 8 (by kernel_rfl) (by kernel_rfl) (by kernel_rfl) (by kernel_rfl)) ?_
  intro W base args ds gs before hval hW _ hsz _
  have hW' := hW
  obtain ⟨p, q, hA, hV, rfl, _, _⟩ := hW
  obtain ⟨rfl, rfl⟩ := trodVars_none hV
  have hlt : ∀ x ∈ p, x.block < W.heap.size := fun x hx => by simpa using hW'.lt x (by simpa using hx)
  rw [Try.params4] at hA hval hsz
  obtain ⟨v0, vs0, d0, ds0, p0, q0, hargs, rfl, rfl, h0, r0⟩ := trodAll_cons hA
  obtain ⟨v1, vs1, d1, ds1, p1, q1, rfl, rfl, rfl, h1, r1⟩ := trodAll_cons r0
  obtain ⟨v2, vs2, d2, ds2, p2, q2, rfl, rfl, rfl, h2, r2⟩ := trodAll_cons r1
  obtain ⟨rfl, rfl, rfl⟩ := trodAll_nil r2
  obtain rfl : args = #[v0, v1, v2] := by cases args; simp_all
  obtain ⟨t0, z0, p0, rfl, ht0, hz0, hp0⟩ := open_mix (e := 29) Try.underlying31 (by kernel_rfl) (by kernel_rfl) (by kernel_rfl) (hval 0 31 v0 rfl rfl)
  obtain ⟨n1, rfl, hn1⟩ := open_i64 (by kernel_rfl) (hval 1 2 v1 rfl rfl)
  obtain ⟨n2, rfl, hn2⟩ := open_i64 (by kernel_rfl) (hval 2 2 v2 rfl rfl)
  refine (fnExactFalseChance_walk t0 z0 p0 ht0 hz0 hp0 n1 hn1 n2 hn2 W).mono fun e W' ⟨he, hb⟩ => ?_
  subst he
  exact ⟨_, rfl, law_post laidOut rfl Try.underlying4 (of_all (by kernel_rfl)) rfl hW' rfl rfl rfl hb⟩

theorem fnExactFalseChance_over : Rows.fnExactFalseChanceRow.holds Try.pinned (OpenSpec.ofChange Rows.fnExactFalseChanceSpec) :=
  OpenClaim.holds_of_wide 4 Try.f4 rfl rfl rfl rfl rfl rfl rfl ⟨rfl, rfl, rfl, rfl, rfl⟩ rfl rfl rfl rfl rfl (by kernel_rfl) Try.func4 (by kernel_rfl)
    (of_decide_eq_true (by kernel_rfl)) (by unfold Func.isWrapper; rw [if_neg (of_decide_eq_false (by kernel_rfl))]; exact ⟨rfl, rfl⟩)
    (fun os started H enc _ => fnExactFalseChance_lifted os started H enc)

/-- The statement. -/
theorem fnExactFalseChance_holds : Rows.FnExactFalseChanceSaid := fnExactFalseChance_over
end
end Go.Proofs.Ytdbkplfkilaoeab
