/- WearBetween answers, for every two masks, as its model does. No conditions. -/
import Derived.Test.YthkmahcdojoioaaWear2
import Derived.Test.YthkmahcdojoioaaFloat
import Derived.Deep.DeepCutAuto
namespace Go.Proofs.Ythkmahcdojoioaa
open Go.ChangeShapes Go.WideShapes Go.ChangeAt Go.RowKit

theorem toMask_w (a b : Int) (w : World) : Calls Try.prog 22 #[.agg #[.int .u64 a, .int .u64 b]] w fun e w' => e = .returned (.agg #[.int .u64 a, .int .u64 b]) ∧ Below w.heap.size w w' :=
  (toMask_any a b w).mono fun e w' ⟨he, hw⟩ => ⟨he, by subst hw; exact (by repeat' (first | (with_reducible exact Below.refl _ _) | (with_reducible assumption) | (with_reducible refine below_drewN ?_ _) | (with_reducible refine Below.drew ?_) | (with_reducible refine below_new ?_ _) | (with_reducible refine below_next ?_ (by with_reducible assumption)) | (with_reducible refine Below.setCell ?_ ?_ _) | go_size))⟩

set_option maxHeartbeats 1600000 in
theorem fnExactWearBetween_walk (a b : Int) (_ha : U64 a) (_hb : U64 b) (c d : Int) (_hc : U64 c) (_hd : U64 d) (w : World) :
    Calls Try.prog 5 #[.agg #[.int .u64 a, .int .u64 b], .agg #[.int .u64 c, .int .u64 d]] w fun e w' => e = .returned (.bool true) ∧ Below w.heap.size w w' := by
  clear _ha _hb _hc _hd
  have I := Lib.hid fun W => iWearBtw_any a b c d W
  have S := Lib.hid fun W => sWearBtw_any a b c d W
  obtain ⟨x, y, z, u, k, hx⟩ := wvR_parts (maskOk b && maskOk d) (bits .andNot .u64 c a) (bits .andNot .u64 d b) (bits .andNot .u64 a c) (bits .andNot .u64 b d)
  rw [hx] at I S
  clear hx
  have hbw := cell_bw
  go_enter Try.func5, Try.ntmps5
  go_upto_region 1 with fail
  obtain ⟨V, hV⟩ : ∃ V : World, V = ((w.alloc (.cells #[.int .u64 a, .int .u64 b] 23)).alloc (.cells #[.int .u64 c, .int .u64 d] 23)) := ⟨_, rfl⟩
  rw [← hV]
  have hbs := block_alloc2 w (.cells #[.int .u64 a, .int .u64 b] 23) (.cells #[.int .u64 c, .int .u64 d] 23)
  rw [← hV] at hbs
  have hVw : Below w.heap.size w V := by rw [hV]; exact (by repeat' (first | (with_reducible exact Below.refl _ _) | (with_reducible assumption) | (with_reducible refine below_drewN ?_ _) | (with_reducible refine Below.drew ?_) | (with_reducible refine below_new ?_ _) | (with_reducible refine below_next ?_ (by with_reducible assumption)) | (with_reducible refine Below.setCell ?_ ?_ _) | go_size))
  have hVz : V.heap.size = w.heap.size + 2 := by rw [hV]; simp
  clear hV
  obtain ⟨hb0, hb1⟩ := hbs
  refine wp_region_at 8 0 (.cells #[.int .u64 0, .int .u64 0, .int .u64 0, .int .u64 0] 29) (.cells #[.int .u64 x, .int .u64 y, .int .u64 z, .int .u64 u] 29) (by kernel_rfl) rfl rfl rfl (by kernel_rfl) rfl rfl (fun _ _ => by kernel_rfl) ?_
  simp only [Nat.reduceAdd, List.take_succ_cons, List.take_zero, List.drop_succ_cons, List.drop_zero]
  intro w1 h1
  have e0 := cell_of_block (h1.block hb0)
  have z0 : w.heap.size < w1.heap.size := lt_of_block (h1.block hb0)
  have e1 := cell_of_block (h1.block hb1)
  have z1 : w.heap.size + 1 < w1.heap.size := lt_of_block (h1.block hb1)
  repeat (go_big_quiet_step (first | (go_at_call 22; exact calls_bw (toMask_w _ _ _)) | (go_at_call 21; exact calls_bw (S.out _))))
  refine wpQuiet_nil ?_
  intro b hb w2 h2
  refine wpQuiet_nil ?_
  refine ⟨?_, ?_⟩
  · intro w3 h3 hb3
    have f0 := cell_of_block hb3
    have f1 := free_of_block hb3
    go_simp
    exact ⟨((((h3.setCell _ hb).setCell _ hb).setCell _ hb).setCell _ hb), (block_setCell _ (block_setCell _ (block_setCell _ (block_setCell _ hb3))))⟩
  intro w5 h5
  simp only [Act.put, List.setIfInBounds_toArray, List.set_cons_succ, List.set_cons_zero]
  repeat (go_big_quiet_step (fail))
  refine wpQuiet_nil ?_
  intro w6 h6 hb6
  replace hVw : Below w.heap.size w w6 := hVw.trans (Below.mono h6 (by omega))
  replace hb0 := h6.block hb0
  replace hb1 := h6.block hb1
  have hbz : w.heap.size + 2 ≤ b := by omega
  clear h1 e0 z0 e1 z1 h2 h5 h6 hb hVz
  clear w5 w2 w1
  go_upto_region 2 with fail
  refine wp_region_at 8 0 (.cells #[.int .u64 0, .int .u64 0, .int .u64 0, .int .u64 0] 29) (.cells #[.int .u64 x, .int .u64 y, .int .u64 z, .int .u64 u] 29) (by kernel_rfl) rfl rfl rfl (by kernel_rfl) rfl rfl (fun _ _ => by kernel_rfl) ?_
  simp only [Nat.reduceAdd, List.take_succ_cons, List.take_zero, List.drop_succ_cons, List.drop_zero]
  intro w1 h1
  have e0 := cell_of_block (h1.block hb0)
  have z0 : w.heap.size < w1.heap.size := lt_of_block (h1.block hb0)
  have e1 := cell_of_block (h1.block hb1)
  have z1 : w.heap.size + 1 < w1.heap.size := lt_of_block (h1.block hb1)
  repeat (go_big_quiet_step (first | (go_at_call 22; exact calls_bw (toMask_w _ _ _)) | (go_at_call 23; exact calls_bw (I.out _))))
  refine wpQuiet_nil ?_
  intro c hc w2 h2
  refine wpQuiet_nil ?_
  refine ⟨?_, ?_⟩
  · intro w3 h3 hb3
    have f0 := cell_of_block hb3
    have f1 := free_of_block hb3
    go_simp
    exact ⟨((((h3.setCell _ hc).setCell _ hc).setCell _ hc).setCell _ hc), (block_setCell _ (block_setCell _ (block_setCell _ (block_setCell _ hb3))))⟩
  intro w5 h5
  simp only [Act.put, List.setIfInBounds_toArray, List.set_cons_succ, List.set_cons_zero]
  repeat (go_big_quiet_step (fail))
  refine wpQuiet_nil ?_
  intro w7 h7 hb7
  replace hVw : Below w.heap.size w w7 := hVw.trans (Below.mono h7 hVw.size)
  replace hb6 := h7.block hb6
  clear h1 e0 z0 e1 z1 h2 h5 h7 hc hb0 hb1 hbw
  clear w5 w2 w1
  have e0 := cell_of_block hb6
  have e1 := cell_of_block hb7
  have z0 := lt_of_block hb6
  have z1 := lt_of_block hb7
  have hz := hVw.size
  go_wp2_with (go_at_call 24; refine (eqWear_same _ _ _ _ _).mono ?_; rintro e w8 ⟨rfl, hB⟩)
  go_returns
  exact ⟨rfl, hVw.trans (Below.mono hB hz)⟩
/-! ### The frame round the walk -/
section
set_option maxRecDepth 100000 in
theorem fnExactWearBetween_lifted (os : Os) (started : os.Started) (H : Type) (enc : TypeId × Value → H) :
    ReturnsInHanded {} Try.checked os 5 .any (Rows.fnExactWearBetweenSpec.pre6 enc Try.prog Try.f5 Rows.fnExactWearBetweenRow.domain false) (Rows.fnExactWearBetweenSpec.post enc Try.prog Try.f5 false true false false) := by
  refine returnsInHanded_of_change_sized (C := Try.checked) own started (by kernel_rfl) Try.func5
    (ChangeSpec.witness6 (enc := enc) (C := Try.checked) false ⟨#[], #[.agg #[.int .u64 0, .int .u64 0], .agg #[.int .u64 0, .int .u64 0]], []⟩ 8 (by kernel_rfl) (by kernel_rfl) (by kernel_rfl) (by kernel_rfl)) ?_
  intro W base args ds gs before hval hW _ hsz _
  have hW' := hW
  obtain ⟨p, q, hA, hV, rfl, _, _⟩ := hW
  obtain ⟨rfl, rfl⟩ := trodVars_none hV
  have hlt : ∀ x ∈ p, x.block < W.heap.size := fun x hx => by simpa using hW'.lt x (by simpa using hx)
  rw [Try.params5] at hA hval hsz
  obtain ⟨v0, vs0, d0, ds0, p0, q0, hargs, rfl, rfl, h0, r0⟩ := trodAll_cons hA
  obtain ⟨v1, vs1, d1, ds1, p1, q1, rfl, rfl, rfl, h1, r1⟩ := trodAll_cons r0
  obtain ⟨rfl, rfl, rfl⟩ := trodAll_nil r1
  obtain rfl : args = #[v0, v1] := by cases args; simp_all
  obtain ⟨a0, b0, rfl, ha0, hb0⟩ := open_mask (e := 22) (by kernel_rfl) (by kernel_rfl) (by kernel_rfl) (by kernel_rfl) (hval 0 23 v0 rfl rfl)
  obtain ⟨a1, b1, rfl, ha1, hb1⟩ := open_mask (e := 22) (by kernel_rfl) (by kernel_rfl) (by kernel_rfl) (by kernel_rfl) (hval 1 23 v1 rfl rfl)
  refine (fnExactWearBetween_walk a0 b0 ha0 hb0 a1 b1 ha1 hb1 W).mono fun e W' ⟨he, hb⟩ => ?_
  subst he
  exact ⟨_, rfl, law_post laidOut rfl Try.underlying4 (of_all (by kernel_rfl)) rfl hW' rfl rfl rfl hb⟩

theorem fnExactWearBetween_over : Rows.fnExactWearBetweenRow.holds Try.pinned (OpenSpec.ofChange Rows.fnExactWearBetweenSpec) :=
  OpenClaim.holds_of_wide 5 Try.f5 rfl rfl rfl rfl rfl rfl rfl ⟨rfl, rfl, rfl, rfl, rfl⟩ rfl rfl rfl rfl rfl (by kernel_rfl) Try.func5 (by kernel_rfl)
    (of_decide_eq_true (by kernel_rfl)) (by unfold Func.isWrapper; rw [if_neg (of_decide_eq_false (by kernel_rfl))]; exact ⟨rfl, rfl⟩)
    (fun os started H enc _ => fnExactWearBetween_lifted os started H enc)

/-- The statement. -/
theorem fnExactWearBetween_holds : Rows.FnExactWearBetweenSaid := fnExactWearBetween_over
end
end Go.Proofs.Ythkmahcdojoioaa
