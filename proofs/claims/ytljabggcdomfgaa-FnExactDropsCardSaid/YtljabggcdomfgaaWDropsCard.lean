/- DropsCard answers, for every query and every mask, as its model does. No conditions. -/
import Derived.Test.YtljabggcdomfgaaDropsCard
namespace Go.Proofs.Ytljabggcdomfgaa
open Go.ChangeShapes Go.WideShapes Go.ChangeAt Go.RowKit

set_option maxHeartbeats 1600000 in
theorem fnExactDropsCard_walk (a b c d : Int) (ha : U64 a) (hb : U64 b) (_hc : U64 c) (_hd : U64 d) (m n : Int) (hm : U64 m) (hn : U64 n) (w : World) :
    Calls Try.prog 7 #[.agg #[.int .u64 a, .int .u64 b, .int .u64 c, .int .u64 d], .agg #[.int .u64 m, .int .u64 n]] w fun e w' => e = .returned (.bool true) ∧ Below w.heap.size w w' := by
  have S := Lib.hid fun W => sDropsCard_any a b c d m n ha hb hm hn W
  have hbw := cell_bw
  clear ha hb _hc _hd hm hn
  go_enter Try.func7, Try.ntmps7
  go_upto_region 1 with fail
  refine region_bw (by kernel_rfl) (by kernel_rfl) ?_
  repeat (go_big_quiet_step (first | (go_at_call 32; exact calls_bw (toQuery_any _ _ _ _ _)) | (go_at_call 26; exact calls_bw (toMask_below _ _ _)) | (go_at_call 34; exact calls_bw (S.out _))))
  refine wpQuiet_nil ?_; intro wq hq; replace hq := below_of_bw hq; obtain ⟨qc, qf, qz⟩ := bcell hq
  have z0 : w.heap.size < wq.heap.size := qz _ (by first | omega | (simp; done) | (simp; omega))
  have z1 : w.heap.size + 1 < wq.heap.size := qz _ (by first | omega | (simp; done) | (simp; omega))
  have c0 : Below w.heap.size w wq := (by repeat' (first | (with_reducible exact Below.refl _ _) | (with_reducible assumption) | (with_reducible refine below_drewN ?_ _) | (with_reducible refine Below.drew ?_) | (with_reducible refine below_new ?_ _) | (with_reducible refine below_next ?_ (by with_reducible assumption)) | (with_reducible refine Below.setCell ?_ ?_ _) | go_size))
  go_upto_region 2 with fail
  refine region_bw (by kernel_rfl) (by kernel_rfl) ?_
  repeat (go_big_quiet_step (first | (go_at_call 32; exact calls_bw (toQuery_any _ _ _ _ _)) | (go_at_call 26; exact calls_bw (toMask_below _ _ _)) | (go_at_call 35; exact calls_bw (iDropsCard_any _ _ _ _ _ _ _))))
  refine wpQuiet_nil ?_; intro wp hp; replace hp := below_of_bw hp; obtain ⟨pc, pf, pz⟩ := bcell hp
  go_wp2
  all_goals go_returns
  all_goals exact ⟨rfl, (by repeat' (first | (with_reducible exact Below.refl _ _) | (with_reducible assumption) | (with_reducible refine below_drewN ?_ _) | (with_reducible refine Below.drew ?_) | (with_reducible refine below_new ?_ _) | (with_reducible refine below_next ?_ (by with_reducible assumption)) | (with_reducible refine Below.setCell ?_ ?_ _) | go_size))⟩

/-! ### The frame round the walk -/
section
set_option maxRecDepth 100000 in
theorem fnExactDropsCard_lifted (os : Os) (started : os.Started) (H : Type) (enc : TypeId × Value → H) :
    ReturnsInHanded {} Try.checked os 7 .any (Rows.fnExactDropsCardSpec.pre6 enc Try.prog Try.f7 Rows.fnExactDropsCardRow.domain false) (Rows.fnExactDropsCardSpec.post enc Try.prog Try.f7 false true false false) := by
  refine returnsInHanded_of_change_sized (C := Try.checked) own started (by kernel_rfl) Try.func7
    (ChangeSpec.witness6 (enc := enc) (C := Try.checked) false ⟨#[], #[.agg #[.int .u64 0, .int .u64 0, .int .u64 0, .int .u64 0], .agg #[.int .u64 0, .int .u64 0]], []⟩ 8 (by kernel_rfl) (by kernel_rfl) (by kernel_rfl) (by kernel_rfl)) ?_
  intro W base args ds gs before hval hW _ hsz _
  have hW' := hW
  obtain ⟨p, q, hA, hV, rfl, _, _⟩ := hW
  obtain ⟨rfl, rfl⟩ := trodVars_none hV
  have hlt : ∀ x ∈ p, x.block < W.heap.size := fun x hx => by simpa using hW'.lt x (by simpa using hx)
  rw [Try.params7] at hA hval hsz
  obtain ⟨v0, vs0, d0, ds0, p0, q0, hargs, rfl, rfl, h0, r0⟩ := trodAll_cons hA
  obtain ⟨v1, vs1, d1, ds1, p1, q1, rfl, rfl, rfl, h1, r1⟩ := trodAll_cons r0
  obtain ⟨rfl, rfl, rfl⟩ := trodAll_nil r1
  obtain rfl : args = #[v0, v1] := by cases args; simp_all
  obtain ⟨a0, b0, c0, d0, rfl, ha0, hb0, hc0, hd0⟩ := open_query (e := 27) Try.underlying54 (by kernel_rfl) (by kernel_rfl) (by kernel_rfl) (hval 0 54 v0 rfl rfl)
  obtain ⟨a1, b1, rfl, ha1, hb1⟩ := open_mask (e := 27) (by kernel_rfl) (by kernel_rfl) (by kernel_rfl) (by kernel_rfl) (hval 1 28 v1 rfl rfl)
  refine (fnExactDropsCard_walk a0 b0 c0 d0 ha0 hb0 hc0 hd0 a1 b1 ha1 hb1 W).mono fun e W' ⟨he, hb⟩ => ?_
  subst he
  exact ⟨_, rfl, law_post laidOut rfl Try.underlying4 (of_all (by kernel_rfl)) rfl hW' rfl rfl rfl hb⟩

theorem fnExactDropsCard_over : Rows.fnExactDropsCardRow.holds Try.pinned (OpenSpec.ofChange Rows.fnExactDropsCardSpec) :=
  OpenClaim.holds_of_wide 7 Try.f7 rfl rfl rfl rfl rfl rfl rfl ⟨rfl, rfl, rfl, rfl, rfl⟩ rfl rfl rfl rfl rfl (by kernel_rfl) Try.func7 (by kernel_rfl)
    (of_decide_eq_true (by kernel_rfl)) (by unfold Func.isWrapper; rw [if_neg (of_decide_eq_false (by kernel_rfl))]; exact ⟨rfl, rfl⟩)
    (fun os started H enc _ => fnExactDropsCard_lifted os started H enc)

/-- The statement. -/
theorem fnExactDropsCard_holds : Rows.FnExactDropsCardSaid := fnExactDropsCard_over
end
end Go.Proofs.Ytljabggcdomfgaa
