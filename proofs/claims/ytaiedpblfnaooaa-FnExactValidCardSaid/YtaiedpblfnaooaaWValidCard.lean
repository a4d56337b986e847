/- ValidCard answers, for every card, as its model does. No conditions. -/
import Derived.Test.YtaiedpblfnaooaaCard
namespace Go.Proofs.Ytaiedpblfnaooaa
open Go.ChangeShapes Go.WideShapes Go.ChangeAt Go.RowKit

set_option maxHeartbeats 3200000 in
theorem fnExactValidCard_walk (s : ByteArray) (a b : Int) (hs : s.size ≤ maxLen) (_ha : U64 a) (_hb : U64 b) (w : World) :
    Calls Try.prog 6 #[.agg #[.string s, .int .u64 a, .int .u64 b]] w fun e w' => e = .returned (.bool true) ∧ Below w.heap.size w w' := by
  clear _ha _hb
  have S := Lib.hid hs
  unfold maxLen at hs
  by_cases hz : 1048576 < s.size
  · have d1 : IntKind.i64.wrap (1048576 - (s.size : Int)) = 1048576 - (s.size : Int) := IntWalk.i64_in _ (by omega)
    have d2 : decide ((1048576 : Int) - (s.size : Int) < 0) = true := by simp; omega
    go_enter Try.func6, Try.ntmps6
    go_wp2
    go_returns
    exact ⟨rfl, (by repeat' (first | (with_reducible exact Below.refl _ _) | (with_reducible assumption) | (with_reducible refine below_drewN ?_ _) | (with_reducible refine Below.drew ?_) | (with_reducible refine below_new ?_ _) | (with_reducible refine below_next ?_ (by with_reducible assumption)) | (with_reducible refine Below.setCell ?_ ?_ _) | go_size))⟩
  · have d1 : IntKind.i64.wrap (1048576 - (s.size : Int)) = 1048576 - (s.size : Int) := IntWalk.i64_in _ (by omega)
    have d2 : decide ((1048576 : Int) - (s.size : Int) < 0) = false := by simp; omega
    go_enter Try.func6, Try.ntmps6
    go_wp2_with (first
      | (go_at_call 87; refine (toMask_any _ _ _).mono ?_; rintro e w1 ⟨rfl, rfl⟩)
      | (go_at_call 44; refine (sValidCard_any _ _ _ S.out _).mono ?_; rintro e w1 ⟨rfl, hB⟩; obtain ⟨hc, hf, hz⟩ := bcell hB)
      | (go_at_call 46; refine (iValidCard_any _ _ _ S.out _).mono ?_; rintro e w1 ⟨rfl, hB⟩; obtain ⟨hc, hf, hz⟩ := bcell hB)
      | go_in)
    all_goals go_returns
    all_goals exact ⟨rfl, (by repeat' (first | (with_reducible exact Below.refl _ _) | (with_reducible assumption) | (with_reducible refine below_drewN ?_ _) | (with_reducible refine Below.drew ?_) | (with_reducible refine below_new ?_ _) | (with_reducible refine below_next ?_ (by with_reducible assumption)) | (with_reducible refine Below.setCell ?_ ?_ _) | go_size))⟩

/-! ### The frame round the walk -/
section
set_option maxRecDepth 100000 in
theorem fnExactValidCard_lifted (os : Os) (started : os.Started) (H : Type) (enc : TypeId × Value → H) :
    ReturnsInHanded {} Try.checked os 6 .any (Rows.fnExactValidCardSpec.pre6 enc Try.prog Try.f6 Rows.fnExactValidCardRow.domain false) (Rows.fnExactValidCardSpec.post enc Try.prog Try.f6 false true false false) := by
  refine returnsInHanded_of_change_sized (C := Try.checked) own started (by kernel_rfl) Try.func6
    (ChangeSpec.witness6 (enc := enc) (C := Try.checked) false ⟨#[], #[.agg #[.string ByteArray.empty, .int .u64 0, .int .u64 0]], []⟩ 8 (by kernel_rfl) (by kernel_rfl) (by kernel_rfl) (by kernel_rfl)) ?_
  intro W base args ds gs before hval hW _ hsz _
  have hW' := hW
  obtain ⟨p, q, hA, hV, rfl, _, _⟩ := hW
  obtain ⟨rfl, rfl⟩ := trodVars_none hV
  have hlt : ∀ x ∈ p, x.block < W.heap.size := fun x hx => by simpa using hW'.lt x (by simpa using hx)
  rw [Try.params6] at hA hval hsz
  obtain ⟨v0, vs0, d0, ds0, p0, q0, hargs, rfl, rfl, h0, r0⟩ := trodAll_cons hA
  obtain ⟨rfl, rfl, rfl⟩ := trodAll_nil r0
  obtain rfl : args = #[v0] := by cases args; simp_all
  obtain ⟨s0, a0, b0, rfl, hs0, ha0, hb0⟩ := open_card (s := 9) (e := 24) Try.underlying72 (by kernel_rfl) (by kernel_rfl) (by kernel_rfl) (by kernel_rfl) (hval 0 72 v0 rfl rfl)
  refine (fnExactValidCard_walk s0 a0 b0 hs0 ha0 hb0 W).mono fun e W' ⟨he, hb⟩ => ?_
  subst he
  exact ⟨_, rfl, law_post laidOut rfl Try.underlying4 (of_all (by kernel_rfl)) rfl hW' rfl rfl rfl hb⟩

theorem fnExactValidCard_over : Rows.fnExactValidCardRow.holds Try.pinned (OpenSpec.ofChange Rows.fnExactValidCardSpec) :=
  OpenClaim.holds_of_wide 6 Try.f6 rfl rfl rfl rfl rfl rfl rfl ⟨rfl, rfl, rfl, rfl, rfl⟩ rfl rfl rfl rfl rfl (by kernel_rfl) Try.func6 (by kernel_rfl)
    (of_decide_eq_true (by kernel_rfl)) (by unfold Func.isWrapper; rw [if_neg (of_decide_eq_false (by kernel_rfl))]; exact ⟨rfl, rfl⟩)
    (fun os started H enc _ => fnExactValidCard_lifted os started H enc)

/-- The statement. -/
theorem fnExactValidCard_holds : Rows.FnExactValidCardSaid := fnExactValidCard_over
end
end Go.Proofs.Ytaiedpblfnaooaa
