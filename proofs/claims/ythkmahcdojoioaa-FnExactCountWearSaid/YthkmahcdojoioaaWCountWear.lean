/- CountWear answers, for all wear, as its model does. No conditions. -/
import Derived.Test.YthkmahcdojoioaaWear
import Derived.Test.YthkmahcdojoioaaCountW
namespace Go.Proofs.Ythkmahcdojoioaa
open Go.ChangeShapes Go.WideShapes Go.ChangeAt Go.RowKit

set_option maxHeartbeats 1600000 in
theorem fnExactCountWear_walk (a b c d : Int) (ha : U64 a) (hb : U64 b) (hc : U64 c) (hd : U64 d) (w : World) :
    Calls Try.prog 8 #[.agg #[.int .u64 a, .int .u64 b, .int .u64 c, .int .u64 d]] w fun e w' => e = .returned (.bool true) ∧ Below w.heap.size w w' := by
  obtain ⟨x, rfl⟩ := Int.eq_ofNat_of_zero_le ha.1
  obtain ⟨y, rfl⟩ := Int.eq_ofNat_of_zero_le hb.1
  obtain ⟨z, rfl⟩ := Int.eq_ofNat_of_zero_le hc.1
  obtain ⟨u, rfl⟩ := Int.eq_ofNat_of_zero_le hd.1
  have hx : x < 18446744073709551616 := by have := ha.2; omega
  have hy : y < 18446744073709551616 := by have := hb.2; omega
  have hz : z < 18446744073709551616 := by have := hc.2; omega
  have hu : u < 18446744073709551616 := by have := hd.2; omega
  have X := Lib.hid hx
  have Y := Lib.hid hy
  have Z := Lib.hid hz
  have U := Lib.hid hu
  clear ha hb hc hd hx hy hz hu
  go_enter Try.func8, Try.ntmps8
  go_wp2_with (first
    | (go_at_call 14; refine (toWear_any _ _ _ _ _).mono ?_; rintro e w1 ⟨rfl, hB⟩; obtain ⟨hc, hf, hz⟩ := bcell hB)
    | (go_at_call 29; refine (sCountWear_any _ _ _ _ X.out Y.out Z.out U.out _).mono ?_; rintro e w1 ⟨rfl, hB⟩; obtain ⟨hc, hf, hz⟩ := bcell hB)
    | (go_at_call 30; refine (iCountWear_any _ _ _ _ X.out Y.out Z.out U.out _).mono ?_; rintro e w1 ⟨rfl, hB⟩; obtain ⟨hc, hf, hz⟩ := bcell hB))
  all_goals go_returns
  all_goals exact ⟨rfl, (by repeat' (first | (with_reducible exact Below.refl _ _) | (with_reducible assumption) | (with_reducible refine below_drewN ?_ _) | (with_reducible refine Below.drew ?_) | (with_reducible refine below_new ?_ _) | (with_reducible refine below_next ?_ (by with_reducible assumption)) | (with_reducible refine Below.setCell ?_ ?_ _) | go_size))⟩

/-! ### The frame round the walk -/
section
set_option maxRecDepth 100000 in
theorem fnExactCountWear_lifted (os : Os) (started : os.Started) (H : Type) (enc : TypeId × Value → H) :
    ReturnsInHanded {} Try.checked os 8 .any (Rows.fnExactCountWearSpec.pre6 enc Try.prog Try.f8 Rows.fnExactCountWearRow.domain false) (Rows.fnExactCountWearSpec.post enc Try.prog Try.f8 false true false false) := by
  refine returnsInHanded_of_change_sized (C := Try.checked) own started (by kernel_rfl) Try.func8
    (ChangeSpec.witness6 (enc := enc) (C := Try.checked) false ⟨#[], #[.agg #[.int .u64 0, .int .u64 0, .int .u64 0, .int .u64 0]], []⟩ 8 (by kernel_rfl) (by kernel_rfl) (by kernel_rfl) (by kernel_rfl)) ?_
  intro W base args ds gs before hval hW _ hsz _
  have hW' := hW
  obtain ⟨p, q, hA, hV, rfl, _, _⟩ := hW
  obtain ⟨rfl, rfl⟩ := trodVars_none hV
  have hlt : ∀ x ∈ p, x.block < W.heap.size := fun x hx => by simpa using hW'.lt x (by simpa using hx)
  rw [Try.params8] at hA hval hsz
  obtain ⟨v0, vs0, d0, ds0, p0, q0, hargs, rfl, rfl, h0, r0⟩ := trodAll_cons hA
  obtain ⟨rfl, rfl, rfl⟩ := trodAll_nil r0
  obtain rfl : args = #[v0] := by cases args; simp_all
  obtain ⟨a0, b0, c0, d0, rfl, ha0, hb0, hc0, hd0⟩ := open_query (e := 22) Try.underlying25 (by kernel_rfl) (by kernel_rfl) (by kernel_rfl) (hval 0 25 v0 rfl rfl)
  refine (fnExactCountWear_walk a0 b0 c0 d0 ha0 hb0 hc0 hd0 W).mono fun e W' ⟨he, hb⟩ => ?_
  subst he
  exact ⟨_, rfl, law_post laidOut rfl Try.underlying4 (of_all (by kernel_rfl)) rfl hW' rfl rfl rfl hb⟩

theorem fnExactCountWear_over : Rows.fnExactCountWearRow.holds Try.pinned (OpenSpec.ofChange Rows.fnExactCountWearSpec) :=
  OpenClaim.holds_of_wide 8 Try.f8 rfl rfl rfl rfl rfl rfl rfl ⟨rfl, rfl, rfl, rfl, rfl⟩ rfl rfl rfl rfl rfl (by kernel_rfl) Try.func8 (by kernel_rfl)
    (of_decide_eq_true (by kernel_rfl)) (by unfold Func.isWrapper; rw [if_neg (of_decide_eq_false (by kernel_rfl))]; exact ⟨rfl, rfl⟩)
    (fun os started H enc _ => fnExactCountWear_lifted os started H enc)

/-- The statement. -/
theorem fnExactCountWear_holds : Rows.FnExactCountWearSaid := fnExactCountWear_over
end
end Go.Proofs.Ythkmahcdojoioaa
