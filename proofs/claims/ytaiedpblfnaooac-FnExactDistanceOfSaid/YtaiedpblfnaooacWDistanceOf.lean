/- DistanceOf answers, for every two masks, as its model does. No conditions. -/
import Derived.Test.YtaiedpblfnaooacFar
namespace Go.Proofs.Ytaiedpblfnaooac
open Go.ChangeShapes Go.WideShapes Go.ChangeAt Go.RowKit

theorem toMask_w (a b : Int) (w : World) : Calls Try.prog 35 #[.agg #[.int .u64 a, .int .u64 b]] w fun e w' => e = .returned (.agg #[.int .u64 a, .int .u64 b]) ∧ Below w.heap.size w w' :=
  (toMask_any a b w).mono fun e w' ⟨he, hw⟩ => ⟨he, by subst hw; exact (by repeat' (first | (with_reducible exact Below.refl _ _) | (with_reducible assumption) | (with_reducible refine below_drewN ?_ _) | (with_reducible refine Below.drew ?_) | (with_reducible refine below_new ?_ _) | (with_reducible refine below_next ?_ (by with_reducible assumption)) | (with_reducible refine Below.setCell ?_ ?_ _) | go_size))⟩

set_option maxHeartbeats 1600000 in
theorem fnExactDistanceOf_walk (a b : Int) (ha : U64 a) (hb : U64 b) (c d : Int) (hc : U64 c) (hd : U64 d) (w : World) :
    Calls Try.prog 8 #[.agg #[.int .u64 a, .int .u64 b], .agg #[.int .u64 c, .int .u64 d]] w fun e w' => e = .returned (.bool true) ∧ Below w.heap.size w w' := by
  have I := Lib.hid fun W => iDist_any a b c d ha hb hc hd W
  have S := Lib.hid fun W => sDist_any a b c d ha hb hc hd W
  obtain ⟨x, k, hx⟩ := dsV_parts (maskOk b && maskOk d) (far a b c d)
  rw [hx] at I S
  clear hx ha hb hc hd
  have hbw := cell_bw
  go_enter Try.func8, Try.ntmps8
  go_wp2_with fail
  obtain ⟨V, hV⟩ : ∃ V : World, V = ((w.alloc (.cells #[.int .u64 a, .int .u64 b] 24)).alloc (.cells #[.int .u64 c, .int .u64 d] 24)) := ⟨_, rfl⟩
  rw [← hV]
  have hbs := block_alloc2 w (.cells #[.int .u64 a, .int .u64 b] 24) (.cells #[.int .u64 c, .int .u64 d] 24)
  rw [← hV] at hbs
  have hVw : Below w.heap.size w V := by rw [hV]; exact (by repeat' (first | (with_reducible exact Below.refl _ _) | (with_reducible assumption) | (with_reducible refine below_drewN ?_ _) | (with_reducible refine Below.drew ?_) | (with_reducible refine below_new ?_ _) | (with_reducible refine below_next ?_ (by with_reducible assumption)) | (with_reducible refine Below.setCell ?_ ?_ _) | go_size))
  clear hV
  have HB := Lib.hid hbs
  have VW := Lib.hid hVw
  have e0 := cell_of_block hbs.1
  have z0 := lt_of_block hbs.1
  have e1 := cell_of_block hbs.2
  have z1 := lt_of_block hbs.2
  clear hbs hVw
  refine region_bw (by kernel_rfl) (by kernel_rfl) ?_
  repeat (go_big_quiet_step (first | (go_at_call 35; exact calls_bw (toMask_w _ _ _)) | (go_at_call 34; exact calls_bw (S.out _))))
  refine wpQuiet_nil ?_; intro wq hq; replace hq := below_of_bw hq; obtain ⟨qc, qf, qz⟩ := bcell hq
  have V2 := Lib.hid (VW.out.trans (Below.mono hq VW.out.size))
  have b0 := Ab.block hq HB.out.1
  have b1 := Ab.block hq HB.out.2
  clear e0 e1 z0 z1 qc qf qz hq
  have e0 := cell_of_block b0
  have z0 := lt_of_block b0
  have e1 := cell_of_block b1
  have z1 := lt_of_block b1
  clear b0 b1
  go_wp2_with fail
  refine region_bw (by kernel_rfl) (by kernel_rfl) ?_
  repeat (go_big_quiet_step (first | (go_at_call 35; exact calls_bw (toMask_w _ _ _)) | (go_at_call 36; exact calls_bw (I.out _))))
  refine wpQuiet_nil ?_; intro wr hr; replace hr := below_of_bw hr
  clear e0 e1 z0 z1
  go_wp2
  go_returns
  exact ⟨rfl, V2.out.trans (Below.mono hr V2.out.size)⟩
/-! ### The frame round the walk -/
section
set_option maxRecDepth 100000 in
theorem fnExactDistanceOf_lifted (os : Os) (started : os.Started) (H : Type) (enc : TypeId × Value → H) :
    ReturnsInHanded {} Try.checked os 8 .any (Rows.fnExactDistanceOfSpec.pre6 enc Try.prog Try.f8 Rows.fnExactDistanceOfRow.domain false) (Rows.fnExactDistanceOfSpec.post enc Try.prog Try.f8 false true false false) := by
  refine returnsInHanded_of_change_sized (C := Try.checked) own started (by kernel_rfl) Try.func8
    (ChangeSpec.witness6 (enc := enc) (C := Try.checked) false ⟨#[], #[.agg #[.int .u64 0, .int .u64 0], .agg #[.int .u64 0, .int .u64 0]], []⟩ 8 (by kernel_rfl) (by kernel_rfl) (by kernel_rfl) (by kernel_rfl)) ?_
  intro W base args ds gs before hval hW _ hsz _
  have hW' := hW
  obtain ⟨p, q, hA, hV, rfl, _, _⟩ := hW
  obtain ⟨rfl, rfl⟩ := trodVars_none hV
  have hlt : ∀ x ∈ p, x.block < W.heap.size := fun x hx => by simpa using hW'.lt x (by simpa using hx)
  rw [Try.params8] at hA hval hsz
  obtain ⟨v0, vs0, d0, ds0, p0, q0, hargs, rfl, rfl, h0, r0⟩ := trodAll_cons hA
  obtain ⟨v1, vs1, d1, ds1, p1, q1, rfl, rfl, rfl, h1, r1⟩ := trodAll_cons r0
  obtain ⟨rfl, rfl, rfl⟩ := trodAll_nil r1
  obtain rfl : args = #[v0, v1] := by cases args; simp_all
  obtain ⟨a0, b0, rfl, ha0, hb0⟩ := open_mask (e := 23) (by kernel_rfl) (by kernel_rfl) (by kernel_rfl) (by kernel_rfl) (hval 0 24 v0 rfl rfl)
  obtain ⟨a1, b1, rfl, ha1, hb1⟩ := open_mask (e := 23) (by kernel_rfl) (by kernel_rfl) (by kernel_rfl) (by kernel_rfl) (hval 1 24 v1 rfl rfl)
  refine (fnExactDistanceOf_walk a0 b0 ha0 hb0 a1 b1 ha1 hb1 W).mono fun e W' ⟨he, hb⟩ => ?_
  subst he
  exact ⟨_, rfl, law_post laidOut rfl Try.underlying4 (of_all (by kernel_rfl)) rfl hW' rfl rfl rfl hb⟩

theorem fnExactDistanceOf_over : Rows.fnExactDistanceOfRow.holds Try.pinned (OpenSpec.ofChange Rows.fnExactDistanceOfSpec) :=
  OpenClaim.holds_of_wide 8 Try.f8 rfl rfl rfl rfl rfl rfl rfl ⟨rfl, rfl, rfl, rfl, rfl⟩ rfl rfl rfl rfl rfl (by kernel_rfl) Try.func8 (by kernel_rfl)
    (of_decide_eq_true (by kernel_rfl)) (by unfold Func.isWrapper; rw [if_neg (of_decide_eq_false (by kernel_rfl))]; exact ⟨rfl, rfl⟩)
    (fun os started H enc _ => fnExactDistanceOf_lifted os started H enc)

/-- The statement. -/
theorem fnExactDistanceOf_holds : Rows.FnExactDistanceOfSaid := fnExactDistanceOf_over
end
end Go.Proofs.Ytaiedpblfnaooac
