/- MixPart answers, for every mix, as its model does. No conditions. -/
import Derived.Test.YtdohlcopamckjaaMixP
namespace Go.Proofs.Ytdohlcopamckjaa
open Go.ChangeShapes Go.WideShapes Go.ChangeAt Go.RowKit

theorem mixPR_parts (t z : Int) (b : Bool) : ∃ x y k : Int, mixPR t z b = .tuple #[.agg #[.int .u64 x, .int .u64 y], .int .i64 k] := ⟨_, _, _, rfl⟩

set_option maxHeartbeats 1600000 in
theorem fnExactMixPart_walk (t z p : Int) (ht : I16 t) (hz : I16 z) (hp : I16 p) (w : World) :
    Calls Try.prog 4 #[.agg #[.int .i16 t, .int .i16 z, .int .i16 p]] w fun e w' => e = .returned (.bool true) ∧ Below w.heap.size w w' := by
  have I := Lib.hid fun W => iMixPart_any t z p ht hz W
  have S := Lib.hid fun W => sMixPart_any t z p ht hz hp W
  obtain ⟨x, y, k, hx⟩ := mixPR_parts t z (mixOk t z p)
  rw [hx] at I S
  clear hx ht hz hp
  go_enter Try.func4, Try.ntmps4
  go_wp2_with (first
    | (go_at_call 16; refine (toMix_any _ _ _ _).mono ?_; rintro e w1 ⟨rfl, hB1⟩; obtain ⟨hc1, hf1, hz1⟩ := bcell hB1; have y1 : w.heap.size < w1.heap.size := hz1 _ (by first | omega | (simp; done) | (simp; omega)); (try have x1 : ws.heap.size < w1.heap.size := hz1 _ (by first | omega | (simp; done) | (simp; omega))))
    | (go_at_call 18; refine (S.out _).mono ?_; rintro e ws ⟨rfl, hBs⟩; obtain ⟨hcs, hfs, hzs⟩ := bcell hBs; have ys : w.heap.size < ws.heap.size := hzs _ (by first | omega | (simp; done) | (simp; omega)))
    | (go_at_call 19; refine (I.out _).mono ?_; rintro e wi ⟨rfl, hBi⟩; obtain ⟨hci, hfi, hzi⟩ := bcell hBi; have yi : ws.heap.size < wi.heap.size := hzi _ (by first | omega | (simp; done) | (simp; omega)))
    | (go_at_call 20; refine (eqMask_same _ _ _).mono ?_; rintro e we ⟨rfl, hBe⟩)
    | go_in)
  all_goals go_returns
  all_goals exact ⟨rfl, (by repeat' (first | (with_reducible exact Below.refl _ _) | (with_reducible assumption) | (with_reducible refine below_drewN ?_ _) | (with_reducible refine Below.drew ?_) | (with_reducible refine below_new ?_ _) | (with_reducible refine below_next ?_ (by with_reducible assumption)) | (with_reducible refine Below.setCell ?_ ?_ _) | go_size))⟩
/-! ### The frame round the walk -/
section
set_option maxRecDepth 100000 in
theorem fnExactMixPart_lifted (os : Os) (started : os.Started) (H : Type) (enc : TypeId × Value → H) :
    ReturnsInHanded {} Try.checked os 4 .any (Rows.fnExactMixPartSpec.pre6 enc Try.prog Try.f4 Rows.fnExactMixPartRow.domain false) (Rows.fnExactMixPartSpec.post enc Try.prog Try.f4 false true false false) := by
  refine returnsInHanded_of_change_sized (C := Try.checked) own started (by kernel_rfl) Try.func4
    (ChangeSpec.witness6 (enc := enc) (C := Try.checked) false ⟨#[], #[.agg #[.int .i16 0, .int .i16 0, .int .i16 0]], []⟩ 8 (by kernel_rfl) (by kernel_rfl) (by kernel_rfl) (by kernel_rfl)) ?_
  intro W base args ds gs before hval hW _ hsz _
  have hW' := hW
  obtain ⟨p, q, hA, hV, rfl, _, _⟩ := hW
  obtain ⟨rfl, rfl⟩ := trodVars_none hV
  have hlt : ∀ x ∈ p, x.block < W.heap.size := fun x hx => by simpa using hW'.lt x (by simpa using hx)
  rw [Try.params4] at hA hval hsz
  obtain ⟨v0, vs0, d0, ds0, p0, q0, hargs, rfl, rfl, h0, r0⟩ := trodAll_cons hA
  obtain ⟨rfl, rfl, rfl⟩ := trodAll_nil r0
  obtain rfl : args = #[v0] := by cases args; simp_all
  obtain ⟨t0, z0, p0, rfl, ht0, hz0, hp0⟩ := open_mix (e := 22) Try.underlying24 (by kernel_rfl) (by kernel_rfl) (by kernel_rfl) (hval 0 24 v0 rfl rfl)
  refine (fnExactMixPart_walk t0 z0 p0 ht0 hz0 hp0 W).mono fun e W' ⟨he, hb⟩ => ?_
  subst he
  exact ⟨_, rfl, law_post laidOut rfl Try.underlying4 (of_all (by kernel_rfl)) rfl hW' rfl rfl rfl hb⟩

theorem fnExactMixPart_over : Rows.fnExactMixPartRow.holds Try.pinned (OpenSpec.ofChange Rows.fnExactMixPartSpec) :=
  OpenClaim.holds_of_wide 4 Try.f4 rfl rfl rfl rfl rfl rfl rfl ⟨rfl, rfl, rfl, rfl, rfl⟩ rfl rfl rfl rfl rfl (by kernel_rfl) Try.func4 (by kernel_rfl)
    (of_decide_eq_true (by kernel_rfl)) (by unfold Func.isWrapper; rw [if_neg (of_decide_eq_false (by kernel_rfl))]; exact ⟨rfl, rfl⟩)
    (fun os started H enc _ => fnExactMixPart_lifted os started H enc)

/-- The statement. -/
theorem fnExactMixPart_holds : Rows.FnExactMixPartSaid := fnExactMixPart_over
end
end Go.Proofs.Ytdohlcopamckjaa
