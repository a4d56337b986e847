/- ValidMix answers, for every mix, as its model does. No conditions. -/
import Derived.Test.YtdohlcopamckjaaVMix
namespace Go.Proofs.Ytdohlcopamckjaa
open Go.ChangeShapes Go.WideShapes Go.ChangeAt Go.RowKit

set_option maxHeartbeats 1600000 in
theorem fnExactValidMix_walk (t z p : Int) (ht : I16 t) (hz : I16 z) (hp : I16 p) (w : World) :
    Calls Try.prog 3 #[.agg #[.int .i16 t, .int .i16 z, .int .i16 p]] w fun e w' => e = .returned (.bool true) ∧ Below w.heap.size w w' := by
  have I := Lib.hid fun W => iValidMix_any t z p ht hz W
  have S := Lib.hid fun W => sValidMix_any t z p ht hz hp W
  generalize mixOk t z p = b at I S
  have hbw := cell_bw
  clear ht hz hp
  go_enter Try.func3, Try.ntmps3
  go_wp2_with (first | (go_at_call 16; refine (toMix_any _ _ _ _).mono ?_; rintro e w1 ⟨rfl, hB1⟩; obtain ⟨hc1, hf1, hz1⟩ := bcell hB1; have y1 : w.heap.size < w1.heap.size := hz1 _ (by first | omega | (simp; done) | (simp; omega))) | (go_at_call 15; refine (S.out _).mono ?_; rintro e w2 ⟨rfl, hB2⟩; obtain ⟨hc2, hf2, hz2⟩ := bcell hB2; have y2 : w.heap.size < w2.heap.size := hz2 _ (by first | omega | (simp; done) | (simp; omega))) | (go_at_call 17; refine (I.out _).mono ?_; rintro e w3 ⟨rfl, hB3⟩; obtain ⟨hc3, hf3, hz3⟩ := bcell hB3; have y3 : w.heap.size < w3.heap.size := hz3 _ (by first | omega | (simp; done) | (simp; omega))))
  trace_state
  all_goals go_returns
  all_goals exact ⟨rfl, (by repeat' (first | (with_reducible exact Below.refl _ _) | (with_reducible assumption) | (with_reducible refine below_drewN ?_ _) | (with_reducible refine Below.drew ?_) | (with_reducible refine below_new ?_ _) | (with_reducible refine below_next ?_ (by with_reducible assumption)) | (with_reducible refine Below.setCell ?_ ?_ _) | go_size))⟩
/-! ### The frame round the walk -/
section
set_option maxRecDepth 100000 in
theorem fnExactValidMix_lifted (os : Os) (started : os.Started) (H : Type) (enc : TypeId × Value → H) :
    ReturnsInHanded {} Try.checked os 3 .any (Rows.fnExactValidMixSpec.pre6 enc Try.prog Try.f3 Rows.fnExactValidMixRow.domain false) (Rows.fnExactValidMixSpec.post enc Try.prog Try.f3 false true false false) := by
  refine returnsInHanded_of_change_sized (C := Try.checked) own started (by kernel_rfl) Try.func3
    (ChangeSpec.witness6 (enc := enc) (C := Try.checked) false ⟨#[], #[.agg #[.int .i16 0, .int .i16 0, .int .i16 0]], []⟩ 8 (by kernel_rfl) (by kernel_rfl) (by kernel_rfl) (by kernel_rfl)) ?_
  intro W base args ds gs before hval hW _ hsz _
  have hW' := hW
  obtain ⟨p, q, hA, hV, rfl, _, _⟩ := hW
  obtain ⟨rfl, rfl⟩ := trodVars_none hV
  have hlt : ∀ x ∈ p, x.block < W.heap.size := fun x hx => by simpa using hW'.lt x (by simpa using hx)
  rw [Try.params3] at hA hval hsz
  obtain ⟨v0, vs0, d0, ds0, p0, q0, hargs, rfl, rfl, h0, r0⟩ := trodAll_cons hA
  obtain ⟨rfl, rfl, rfl⟩ := trodAll_nil r0
  obtain rfl : args = #[v0] := by cases args; simp_all
  obtain ⟨t0, z0, p0, rfl, ht0, hz0, hp0⟩ := open_mix (e := 22) Try.underlying24 (by kernel_rfl) (by kernel_rfl) (by kernel_rfl) (hval 0 24 v0 rfl rfl)
  refine (fnExactValidMix_walk t0 z0 p0 ht0 hz0 hp0 W).mono fun e W' ⟨he, hb⟩ => ?_
  subst he
  exact ⟨_, rfl, law_post laidOut rfl Try.underlying4 (of_all (by kernel_rfl)) rfl hW' rfl rfl rfl hb⟩

theorem fnExactValidMix_over : Rows.fnExactValidMixRow.holds Try.pinned (OpenSpec.ofChange Rows.fnExactValidMixSpec) :=
  OpenClaim.holds_of_wide 3 Try.f3 rfl rfl rfl rfl rfl rfl rfl ⟨rfl, rfl, rfl, rfl, rfl⟩ rfl rfl rfl rfl rfl (by kernel_rfl) Try.func3 (by kernel_rfl)
    (of_decide_eq_true (by kernel_rfl)) (by unfold Func.isWrapper; rw [if_neg (of_decide_eq_false (by kernel_rfl))]; exact ⟨rfl, rfl⟩)
    (fun os started H enc _ => fnExactValidMix_lifted os started H enc)

/-- The statement. -/
theorem fnExactValidMix_holds : Rows.FnExactValidMixSaid := fnExactValidMix_over
end
end Go.Proofs.Ytdohlcopamckjaa
