/- CompareShares answers, for every two shares, as its model does. No conditions. -/
import Derived.Test.YtdbkplfkilaoeabShC
namespace Go.Proofs.Ytdbkplfkilaoeab
open Go.ChangeShapes Go.WideShapes Go.ChangeAt Go.RowKit

theorem toShare_any (a b : Int) (w : World) :
    Calls Try.prog 8 #[.agg #[.int .i64 a, .int .i64 b]] w fun e w' => e = .returned (.agg #[.int .i64 a, .int .i64 b]) ∧ Below w.heap.size w w' := by
  go_enter Try.func8, Try.ntmps8
  go_wp2
  go_returns
  exact ⟨rfl, (by repeat' (first | (with_reducible exact Below.refl _ _) | (with_reducible assumption) | (with_reducible refine below_drewN ?_ _) | (with_reducible refine Below.drew ?_) | (with_reducible refine below_new ?_ _) | (with_reducible refine below_next ?_ (by with_reducible assumption)) | (with_reducible refine Below.setCell ?_ ?_ _) | go_size))⟩

set_option maxHeartbeats 1600000 in
theorem fnExactCompareShares_walk (p q : Int) (_hp : I64 p) (_hq : I64 q) (r s : Int) (_hr : I64 r) (_hs : I64 s) (w : World) :
    Calls Try.prog 3 #[.agg #[.int .i64 p, .int .i64 q], .agg #[.int .i64 r, .int .i64 s]] w fun e w' => e = .returned (.bool true) ∧ Below w.heap.size w w' := by
  have I := Lib.hid fun W => iCompare_any p q r s W
  have S := Lib.hid fun W => sCompare_any p q r s W
  have T1 := Lib.hid fun W => toShare_any p q W
  have T2 := Lib.hid fun W => toShare_any r s W
  obtain ⟨x, k, hx⟩ := csR_parts p q r s (told p q) (told r s)
  rw [hx] at I S
  have hxx : (x != x) = false := by simp
  have hk : (k != k) = false := by simp
  clear hx
  have hbs := block_alloc2 w (.cells #[.int .i64 p, .int .i64 q] 23) (.cells #[.int .i64 r, .int .i64 s] 23)
  have k0 := cell_of_block hbs.1
  have l0 := cell_of_block hbs.2
  have y0 := lt_of_block hbs.1
  have z0 := lt_of_block hbs.2
  have b0 : Below w.heap.size w ((w.alloc (.cells #[.int .i64 p, .int .i64 q] 23)).alloc (.cells #[.int .i64 r, .int .i64 s] 23)) := below_new (below_new (Below.refl w.heap.size w) _) _
  have hbw := cell_bw
  clear hbs
  go_enter Try.func3, Try.ntmps3
  go_upto_region 1 with fail
  generalize (w.alloc (.cells #[.int .i64 p, .int .i64 q] 23)).alloc (.cells #[.int .i64 r, .int .i64 s] 23) = W at *
  refine region_bw (by kernel_rfl) (by kernel_rfl) ?_
  repeat (go_big_quiet_step (first | (go_at_call 8; exact calls_bw (toShare_any _ _ _)) | (go_at_call 7; exact calls_bw (S.out _))))
  refine wpQuiet_nil ?_; intro wq hq; replace hq := below_of_bw hq; obtain ⟨qc, qf, qz⟩ := bcell hq
  have k1 : ∀ j, wq.cell? ⟨w.heap.size, j, none⟩ = #[Value.int .i64 p, .int .i64 q][j]? := fun j => (qc _ _ y0).trans (k0 j)
  have l1 : ∀ j, wq.cell? ⟨w.heap.size + 1, j, none⟩ = #[Value.int .i64 r, .int .i64 s][j]? := fun j => (qc _ _ z0).trans (l0 j)
  have y1 := qz _ y0
  have z1 := qz _ z0
  have b1 := Lib.hid (b0.trans (Below.mono hq b0.size))
  clear hq qc qf qz k0 l0 y0 z0 b0
  go_upto_region 2 with fail
  refine region_bw (by kernel_rfl) (by kernel_rfl) ?_
  repeat (go_big_quiet_step (first | (go_at_call 8; exact calls_bw (toShare_any _ _ _)) | (go_at_call 9; exact calls_bw (I.out _))))
  refine wpQuiet_nil ?_; intro wq hq; replace hq := below_of_bw hq; obtain ⟨qc, qf, qz⟩ := bcell hq
  go_wp2_with fail
  all_goals go_returns
  all_goals exact ⟨rfl, b1.out.trans (Below.mono hq b1.out.size)⟩
/-! ### The frame round the walk -/
section
set_option maxRecDepth 100000 in
theorem fnExactCompareShares_lifted (os : Os) (started : os.Started) (H : Type) (enc : TypeId × Value → H) :
    ReturnsInHanded {} Try.checked os 3 .any (Rows.fnExactCompareSharesSpec.pre6 enc Try.prog Try.f3 Rows.fnExactCompareSharesRow.domain false) (Rows.fnExactCompareSharesSpec.post enc Try.prog Try.f3 false true false false) := by
  refine returnsInHanded_of_change_sized (C := Try.checked) own started (by kernel_rfl) Try.func3
    (ChangeSpec.witness6 (enc := enc) (C := Try.checked) false ⟨#[], #[.agg #[.int .i64 0, .int .i64 0], .agg #[.int .i64 0, .int .i64 0]], []⟩ 8 (by kernel_rfl) (by kernel_rfl) (by kernel_rfl) (by kernel_rfl)) ?_
  intro W base args ds gs before hval hW _ hsz _
  have hW' := hW
  obtain ⟨p, q, hA, hV, rfl, _, _⟩ := hW
  obtain ⟨rfl, rfl⟩ := trodVars_none hV
  have hlt : ∀ x ∈ p, x.block < W.heap.size := fun x hx => by simpa using hW'.lt x (by simpa using hx)
  rw [Try.params3] at hA hval hsz
  obtain ⟨v0, vs0, d0, ds0, p0, q0, hargs, rfl, rfl, h0, r0⟩ := trodAll_cons hA
  obtain ⟨v1, vs1, d1, ds1, p1, q1, rfl, rfl, rfl, h1, r1⟩ := trodAll_cons r0
  obtain ⟨rfl, rfl, rfl⟩ := trodAll_nil r1
  obtain rfl : args = #[v0, v1] := by cases args; simp_all
  obtain ⟨a0, b0, rfl, ha0, hb0⟩ := open_share (e := 2) Try.underlying23 (by kernel_rfl) (by kernel_rfl) (by kernel_rfl) (hval 0 23 v0 rfl rfl)
  obtain ⟨a1, b1, rfl, ha1, hb1⟩ := open_share (e := 2) Try.underlying23 (by kernel_rfl) (by kernel_rfl) (by kernel_rfl) (hval 1 23 v1 rfl rfl)
  refine (fnExactCompareShares_walk a0 b0 ha0 hb0 a1 b1 ha1 hb1 W).mono fun e W' ⟨he, hb⟩ => ?_
  subst he
  exact ⟨_, rfl, law_post laidOut rfl Try.underlying4 (of_all (by kernel_rfl)) rfl hW' rfl rfl rfl hb⟩

theorem fnExactCompareShares_over : Rows.fnExactCompareSharesRow.holds Try.pinned (OpenSpec.ofChange Rows.fnExactCompareSharesSpec) :=
  OpenClaim.holds_of_wide 3 Try.f3 rfl rfl rfl rfl rfl rfl rfl ⟨rfl, rfl, rfl, rfl, rfl⟩ rfl rfl rfl rfl rfl (by kernel_rfl) Try.func3 (by kernel_rfl)
    (of_decide_eq_true (by kernel_rfl)) (by unfold Func.isWrapper; rw [if_neg (of_decide_eq_false (by kernel_rfl))]; exact ⟨rfl, rfl⟩)
    (fun os started H enc _ => fnExactCompareShares_lifted os started H enc)

/-- The statement. -/
theorem fnExactCompareShares_holds : Rows.FnExactCompareSharesSaid := fnExactCompareShares_over
end
end Go.Proofs.Ytdbkplfkilaoeab
