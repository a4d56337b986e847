/- WithHole answers, for every mask, every number and both choices, as its model does. No conditions. -/
import Derived.Test.YtnooggjijomljaaWith
namespace Go.Proofs.Ytnooggjijomljaa
open Go.ChangeShapes Go.WideShapes Go.ChangeAt Go.RowKit

set_option maxHeartbeats 3200000 in
theorem fnExactWithHole_walk (a b : Int) (_ha : U64 a) (_hb : U64 b) (n : Int) (_hn : I64 n) (o : Bool) (w : World) :
    Calls Try.prog 8 #[.agg #[.int .u64 a, .int .u64 b], .int .i64 n, .bool o] w fun e w' => e = .returned (.bool true) ∧ Below w.heap.size w w' := by
  clear _ha _hb _hn
  go_enter Try.func8, Try.ntmps8
  go_wp2_with (first
    | (go_at_call 46; refine (toMask_any _ _ _).mono ?_; rintro e w1 ⟨rfl, rfl⟩)
    | (go_at_call 48; refine (sWith_any _ _ _ _ _).mono ?_; rintro e ws ⟨rfl, hB⟩; obtain ⟨hc, hf, hz⟩ := bcell hB; have z0 : w.heap.size < ws.heap.size := hz _ (by first | omega | (simp; done) | (simp; omega)))
    | (go_at_call 28; refine (iWith_any _ _ _ _ _).mono ?_; rintro e wi ⟨rfl, hBi⟩; obtain ⟨hci, hfi, hzi⟩ := bcell hBi; have z1 : w.heap.size < wi.heap.size := hzi _ (by first | omega | (simp; done) | (simp; omega)); have z2 : ws.heap.size < wi.heap.size := hzi _ (by first | omega | (simp; done) | (simp; omega)))
    | (go_at_call 49; refine (eqMask_same _ _ _).mono ?_; rintro e w1 ⟨rfl, hB⟩))
  all_goals go_returns
  all_goals exact ⟨rfl, (by repeat' (first | (with_reducible exact Below.refl _ _) | (with_reducible assumption) | (with_reducible refine below_drewN ?_ _) | (with_reducible refine Below.drew ?_) | (with_reducible refine below_new ?_ _) | (with_reducible refine below_next ?_ (by with_reducible assumption)) | (with_reducible refine Below.setCell ?_ ?_ _) | go_size))⟩

/-! ### The frame round the walk -/
section
set_option maxRecDepth 100000 in
theorem fnExactWithHole_lifted (os : Os) (started : os.Started) (H : Type) (enc : TypeId × Value → H) :
    ReturnsInHanded {} Try.checked os 8 .any (Rows.fnExactWithHoleSpec.pre6 enc Try.prog Try.f8 Rows.fnExactWithHoleRow.domain false) (Rows.fnExactWithHoleSpec.post enc Try.prog Try.f8 false true false false) := by
  refine returnsInHanded_of_change_sized (C := Try.checked) own started (by kernel_rfl) Try.func8
    (ChangeSpec.witness6 (enc := enc) (C := Try.checked) false ⟨#[], #[.agg #[.int .u64 0, .int .u64 0], .int .i64 0, .bool false], []⟩ 8 (by kernel_rfl) (by kernel_rfl) (by kernel_rfl) (by kernel_rfl)) ?_
  intro W base args ds gs before hval hW _ hsz _
  have hW' := hW
  obtain ⟨p, q, hA, hV, rfl, _, _⟩ := hW
  obtain ⟨rfl, rfl⟩ := trodVars_none hV
  have hlt : ∀ x ∈ p, x.block < W.heap.size := fun x hx => by simpa using hW'.lt x (by simpa using hx)
  rw [Try.params8] at hA hval hsz
  obtain ⟨v0, vs0, d0, ds0, p0, q0, hargs, rfl, rfl, h0, r0⟩ := trodAll_cons hA
  obtain ⟨v1, vs1, d1, ds1, p1, q1, rfl, rfl, rfl, h1, r1⟩ := trodAll_cons r0
  obtain ⟨v2, vs2, d2, ds2, p2, q2, rfl, rfl, rfl, h2, r2⟩ := trodAll_cons r1
  obtain ⟨rfl, rfl, rfl⟩ := trodAll_nil r2
  obtain rfl : args = #[v0, v1, v2] := by cases args; simp_all
  obtain ⟨a0, b0, rfl, ha0, hb0⟩ := open_mask (e := 24) (by kernel_rfl) (by kernel_rfl) (by kernel_rfl) (by kernel_rfl) (hval 0 25 v0 rfl rfl)
  obtain ⟨n1, rfl, hn1⟩ := open_i64 (by kernel_rfl) (hval 1 2 v1 rfl rfl)
  obtain ⟨b2, rfl⟩ := open_b (by kernel_rfl) (hval 2 4 v2 rfl rfl)
  refine (fnExactWithHole_walk a0 b0 ha0 hb0 n1 hn1 b2 W).mono fun e W' ⟨he, hb⟩ => ?_
  subst he
  exact ⟨_, rfl, law_post laidOut rfl Try.underlying4 (of_all (by kernel_rfl)) rfl hW' rfl rfl rfl hb⟩

theorem fnExactWithHole_over : Rows.fnExactWithHoleRow.holds Try.pinned (OpenSpec.ofChange Rows.fnExactWithHoleSpec) :=
  OpenClaim.holds_of_wide 8 Try.f8 rfl rfl rfl rfl rfl rfl rfl ⟨rfl, rfl, rfl, rfl, rfl⟩ rfl rfl rfl rfl rfl (by kernel_rfl) Try.func8 (by kernel_rfl)
    (of_decide_eq_true (by kernel_rfl)) (by unfold Func.isWrapper; rw [if_neg (of_decide_eq_false (by kernel_rfl))]; exact ⟨rfl, rfl⟩)
    (fun os started H enc _ => fnExactWithHole_lifted os started H enc)

/-- The statement. -/
theorem fnExactWithHole_holds : Rows.FnExactWithHoleSaid := fnExactWithHole_over
end
end Go.Proofs.Ytnooggjijomljaa
