/- HashCard answers, for every card, as its model does. No conditions. -/
import Derived.Test.YtaiedpblfnaooacHash
namespace Go.Proofs.Ytaiedpblfnaooac
open Go.ChangeShapes Go.WideShapes Go.ChangeAt Go.RowKit

set_option maxHeartbeats 3200000 in
theorem fnExactHashCard_walk (s : ByteArray) (a b : Int) (hs : s.size ≤ maxLen) (_ha : U64 a) (_hb : U64 b) (w : World) :
    Calls Try.prog 4 #[.agg #[.string s, .int .u64 a, .int .u64 b]] w fun e w' => e = .returned (.bool true) ∧ Below w.heap.size w w' := by
  clear _ha _hb
  have I := fun W => iHashCard_any s a b hs W
  have S := fun W => sHashCard_any s a b hs W
  obtain ⟨x, k, hx⟩ := hcV_parts (cardOk s b) (hxC s a b)
  rw [hx] at I S
  have I := Lib.hid I
  have S := Lib.hid S
  clear hx
  unfold maxLen at hs
  by_cases hz : 1048576 < s.size
  · have d1 : IntKind.i64.wrap (1048576 - (s.size : Int)) = 1048576 - (s.size : Int) := IntWalk.i64_in _ (by omega)
    have d2 : decide ((1048576 : Int) - (s.size : Int) < 0) = true := by simp; omega
    go_enter Try.func4, Try.ntmps4
    go_wp2
    go_returns
    exact ⟨rfl, (by repeat' (first | (with_reducible exact Below.refl _ _) | (with_reducible assumption) | (with_reducible refine below_drewN ?_ _) | (with_reducible refine Below.drew ?_) | (with_reducible refine below_new ?_ _) | (with_reducible refine below_next ?_ (by with_reducible assumption)) | (with_reducible refine Below.setCell ?_ ?_ _) | go_size))⟩
  · have d1 : IntKind.i64.wrap (1048576 - (s.size : Int)) = 1048576 - (s.size : Int) := IntWalk.i64_in _ (by omega)
    have d2 : decide ((1048576 : Int) - (s.size : Int) < 0) = false := by simp; omega
    go_enter Try.func4, Try.ntmps4
    go_wp2_with (first
      | (go_at_call 35; refine (toMask_any _ _ _).mono ?_; rintro e w1 ⟨rfl, rfl⟩)
      | (go_at_call 21; refine (S.out _).mono ?_; rintro e w1 ⟨rfl, hB⟩; obtain ⟨hc, hf, hz⟩ := bcell hB)
      | (go_at_call 23; refine (I.out _).mono ?_; rintro e w1 ⟨rfl, hB⟩; obtain ⟨hc, hf, hz⟩ := bcell hB)
      | go_in)
    all_goals go_returns
    all_goals exact ⟨rfl, (by repeat' (first | (with_reducible exact Below.refl _ _) | (with_reducible assumption) | (with_reducible refine below_drewN ?_ _) | (with_reducible refine Below.drew ?_) | (with_reducible refine below_new ?_ _) | (with_reducible refine below_next ?_ (by with_reducible assumption)) | (with_reducible refine Below.setCell ?_ ?_ _) | go_size))⟩
/-! ### The frame round the walk -/
section
set_option maxRecDepth 100000 in
theorem fnExactHashCard_lifted (os : Os) (started : os.Started) (H : Type) (enc : TypeId × Value → H) :
    ReturnsInHanded {} Try.checked os 4 .any (Rows.fnExactHashCardSpec.pre6 enc Try.prog Try.f4 Rows.fnExactHashCardRow.domain false) (Rows.fnExactHashCardSpec.post enc Try.prog Try.f4 false true false false) := by
  refine returnsInHanded_of_change_sized (C := Try.checked) own started (by kernel_rfl) Try.func4
    (ChangeSpec.witness6 (enc := enc) (C := Try.checked) false ⟨#[], #[.agg #[.string ByteArray.empty, .int .u64 0, .int .u64 0]], []⟩ 8 (by kernel_rfl) (by kernel_rfl) (by kernel_rfl) (by kernel_rfl)) ?_
  intro W base args ds gs before hval hW _ hsz _
  have hW' := hW
  obtain ⟨p, q, hA, hV, rfl, _, _⟩ := hW
  obtain ⟨rfl, rfl⟩ := trodVars_none hV
  have hlt : ∀ x ∈ p, x.block < W.heap.size := fun x hx => by simpa using hW'.lt x (by simpa using hx)
  rw [Try.params4] at hA hval hsz
  obtain ⟨v0, vs0, d0, ds0, p0, q0, hargs, rfl, rfl, h0, r0⟩ := trodAll_cons hA
  obtain ⟨rfl, rfl, rfl⟩ := trodAll_nil r0
  obtain rfl : args = #[v0] := by cases args; simp_all
  obtain ⟨s0, a0, b0, rfl, hs0, ha0, hb0⟩ := open_card (s := 9) (e := 23) Try.underlying48 (by kernel_rfl) (by kernel_rfl) (by kernel_rfl) (by kernel_rfl) (hval 0 48 v0 rfl rfl)
  refine (fnExactHashCard_walk s0 a0 b0 hs0 ha0 hb0 W).mono fun e W' ⟨he, hb⟩ => ?_
  subst he
  exact ⟨_, rfl, law_post laidOut rfl Try.underlying4 (of_all (by kernel_rfl)) rfl hW' rfl rfl rfl hb⟩

theorem fnExactHashCard_over : Rows.fnExactHashCardRow.holds Try.pinned (OpenSpec.ofChange Rows.fnExactHashCardSpec) :=
  OpenClaim.holds_of_wide 4 Try.f4 rfl rfl rfl rfl rfl rfl rfl ⟨rfl, rfl, rfl, rfl, rfl⟩ rfl rfl rfl rfl rfl (by kernel_rfl) Try.func4 (by kernel_rfl)
    (of_decide_eq_true (by kernel_rfl)) (by unfold Func.isWrapper; rw [if_neg (of_decide_eq_false (by kernel_rfl))]; exact ⟨rfl, rfl⟩)
    (fun os started H enc _ => fnExactHashCard_lifted os started H enc)

/-- The statement. -/
theorem fnExactHashCard_holds : Rows.FnExactHashCardSaid := fnExactHashCard_over
end
end Go.Proofs.Ytaiedpblfnaooac
