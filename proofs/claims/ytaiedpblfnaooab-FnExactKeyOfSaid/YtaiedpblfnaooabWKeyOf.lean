/- KeyOf answers, for every field and every mask, as its model does. No conditions. -/
import Derived.Conc.Holds
import Derived.Leaving
import Derived.Test.YtaiedpblfnaooabKeyC
import Derived.Deep.DeepCutAuto
namespace Go.Proofs.Ytaiedpblfnaooab
open Go.ChangeShapes Go.WideShapes Go.ChangeAt Go.RowKit

theorem toField_b (s : ByteArray) (k st sz : Int) (w : World) : Calls Try.prog 17 #[.agg #[.string s, .int .i8 k, .int .i16 st, .int .i16 sz]] w fun e w' => e = .returned (.agg #[.string s, .int .i8 k, .int .i16 st, .int .i16 sz]) ∧ Below w.heap.size w w' := by
  go_enter Try.func17, Try.ntmps17
  go_wp2
  go_returns
  exact ⟨rfl, (by repeat' (first | (with_reducible exact Below.refl _ _) | (with_reducible assumption) | (with_reducible refine below_drewN ?_ _) | (with_reducible refine Below.drew ?_) | (with_reducible refine below_new ?_ _) | (with_reducible refine below_next ?_ (by with_reducible assumption)) | (with_reducible refine Below.setCell ?_ ?_ _) | go_size))⟩
theorem toMask_b (a b : Int) (w : World) : Calls Try.prog 33 #[.agg #[.int .u64 a, .int .u64 b]] w fun e w' => e = .returned (.agg #[.int .u64 a, .int .u64 b]) ∧ Below w.heap.size w w' :=
  (toMask_any a b w).mono fun e w' ⟨he, hw⟩ => ⟨he, by subst hw; exact (by repeat' (first | (with_reducible exact Below.refl _ _) | (with_reducible assumption) | (with_reducible refine below_drewN ?_ _) | (with_reducible refine Below.drew ?_) | (with_reducible refine below_new ?_ _) | (with_reducible refine below_next ?_ (by with_reducible assumption)) | (with_reducible refine Below.setCell ?_ ?_ _) | go_size))⟩

set_option maxHeartbeats 3200000 in
theorem fnExactKeyOf_walk (s : ByteArray) (k st sz : Int) (hs : s.size ≤ maxLen) (hk : I8 k) (ht : I16 st) (hz : I16 sz) (a b : Int) (ha : U64 a) (hb : U64 b) (w : World) :
    Calls Try.prog 6 #[.agg #[.string s, .int .i8 k, .int .i16 st, .int .i16 sz], .agg #[.int .u64 a, .int .u64 b]] w fun e w' => e = .returned (.bool true) ∧ Below w.heap.size w w' := by
  obtain ⟨x, c, hx⟩ := kyR_parts s k st sz a b
  have S := Lib.hid fun W => sKeyOf_any s k st sz hs ht hz a b ha hb W
  have I := Lib.hid fun W => iKeyOf_any s k st sz hs hk ht hz a b ha hb W
  rw [hx] at S I
  have hbw := cell_bw
  clear hx hk ht hz ha hb
  unfold maxLen at hs
  by_cases hz : 1048576 < s.size
  · have d1 : IntKind.i64.wrap (1048576 - (s.size : Int)) = 1048576 - (s.size : Int) := IntWalk.i64_in _ (by omega)
    have d2 : decide ((1048576 : Int) - (s.size : Int) < 0) = true := by simp; omega
    go_enter Try.func6, Try.ntmps6
    go_wp2
    go_returns
    exact ⟨rfl, (by repeat' (first | (with_reducible exact Below.refl _ _) | (with_reducible assumption) | (with_reducible refine below_drewN ?_ _) | (with_reducible refine Below.drew ?_) | (with_reducible refine below_new ?_ _) | (with_reducible refine below_next ?_ (by with_reducible assumption)) | (with_reducible refine Below.setCell ?_ ?_ _) | go_size))⟩
  · have d1 : IntKind.i64.wrap (1048576 - (s.size : Int)) = 1048576 - (s.size : Int) := IntWalk.i64_in _ (by omega)
    have d2 : decide ((1048576 : Int) - (s.size : Int) < 0) = false := by simp; omega
    have n1 : (x != x) = false := by simp
    have n2 : (c != c) = false := by simp
    go_enter Try.func6, Try.ntmps6
    go_upto_region 5 with (go_in)
    refine region_bw (by kernel_rfl) (by kernel_rfl) ?_
    repeat (go_big_quiet_step (first | (go_at_call 17; exact calls_bw (toField_b _ _ _ _ _)) | (go_at_call 33; exact calls_bw (toMask_b _ _ _)) | (go_at_call 32; exact calls_bw (S.out _))))
    refine wpQuiet_nil ?_; intro wq hq; replace hq := below_of_bw hq; obtain ⟨qc, qf, qz⟩ := bcell hq
    have z0 : w.heap.size < wq.heap.size := qz _ (by first | omega | (simp; done) | (simp; omega))
    have z1 : w.heap.size + 1 < wq.heap.size := qz _ (by first | omega | (simp; done) | (simp; omega))
    have c0 : Below w.heap.size w wq := (by repeat' (first | (with_reducible exact Below.refl _ _) | (with_reducible assumption) | (with_reducible refine below_drewN ?_ _) | (with_reducible refine Below.drew ?_) | (with_reducible refine below_new ?_ _) | (with_reducible refine below_next ?_ (by with_reducible assumption)) | (with_reducible refine Below.setCell ?_ ?_ _) | go_size))
    go_upto_region 6 with fail
    refine region_bw (by kernel_rfl) (by kernel_rfl) ?_
    repeat (go_big_quiet_step (first | (go_at_call 17; exact calls_bw (toField_b _ _ _ _ _)) | (go_at_call 33; exact calls_bw (toMask_b _ _ _)) | (go_at_call 34; exact calls_bw (I.out _))))
    refine wpQuiet_nil ?_; intro wp hp; replace hp := below_of_bw hp; obtain ⟨pc, pf, pz⟩ := bcell hp
    go_wp2
    all_goals go_returns
    all_goals exact ⟨rfl, (by repeat' (first | (with_reducible exact Below.refl _ _) | (with_reducible assumption) | (with_reducible refine below_drewN ?_ _) | (with_reducible refine Below.drew ?_) | (with_reducible refine below_new ?_ _) | (with_reducible refine below_next ?_ (by with_reducible assumption)) | (with_reducible refine Below.setCell ?_ ?_ _) | go_size))⟩

/-! ### The frame round the walk -/
section
set_option maxRecDepth 100000 in
theorem fnExactKeyOf_lifted (os : Os) (started : os.Started) (H : Type) (enc : TypeId × Value → H) :
    ReturnsInHanded {} Try.checked os 6 .any (Rows.fnExactKeyOfSpec.pre6 enc Try.prog Try.f6 Rows.fnExactKeyOfRow.domain false) (Rows.fnExactKeyOfSpec.post enc Try.prog Try.f6 false true false false) := by
  refine returnsInHanded_of_change_sized (C := Try.checked) own started (by kernel_rfl) Try.func6
    (ChangeSpec.witness6 (enc := enc) (C := Try.checked) false ⟨#[], #[.agg #[.string ByteArray.empty, .int .i8 0, .int .i16 0, .int .i16 0], .agg #[.int .u64 0, .int .u64 0]], []⟩ 8 (by kernel_rfl) (by kernel_rfl) (by kernel_rfl) (by kernel_rfl)) ?_
  intro W base args ds gs before hval hW _ hsz _
  have hW' := hW
  obtain ⟨p, q, hA, hV, rfl, _, _⟩ := hW
  obtain ⟨rfl, rfl⟩ := trodVars_none hV
  have hlt : ∀ x ∈ p, x.block < W.heap.size := fun x hx => by simpa using hW'.lt x (by simpa using hx)
  rw [Try.params6] at hA hval hsz
  obtain ⟨v0, vs0, d0, ds0, p0, q0, hargs, rfl, rfl, h0, r0⟩ := trodAll_cons hA
  obtain ⟨v1, vs1, d1, ds1, p1, q1, rfl, rfl, rfl, h1, r1⟩ := trodAll_cons r0
  obtain ⟨rfl, rfl, rfl⟩ := trodAll_nil r1
  obtain rfl : args = #[v0, v1] := by cases args; simp_all
  obtain ⟨s0, k0, st0, sz0, rfl, hs0, hk0, hst0, hsz0⟩ := open_field (s := 9) (k := 22) (e := 23) Try.underlying25 (by kernel_rfl) (by kernel_rfl) (by kernel_rfl) (by kernel_rfl) (by kernel_rfl) (hval 0 25 v0 rfl rfl)
  obtain ⟨a1, b1, rfl, ha1, hb1⟩ := open_mask (e := 47) (by kernel_rfl) (by kernel_rfl) (by kernel_rfl) (by kernel_rfl) (hval 1 48 v1 rfl rfl)
  refine (fnExactKeyOf_walk s0 k0 st0 sz0 hs0 hk0 hst0 hsz0 a1 b1 ha1 hb1 W).mono fun e W' ⟨he, hb⟩ => ?_
  subst he
  exact ⟨_, rfl, law_post laidOut rfl Try.underlying4 (of_all (by kernel_rfl)) rfl hW' rfl rfl rfl hb⟩

theorem fnExactKeyOf_over : Rows.fnExactKeyOfRow.holds Try.pinned (OpenSpec.ofChange Rows.fnExactKeyOfSpec) :=
  OpenClaim.holds_of_wide_leaving 6 Try.f6 rfl rfl rfl rfl rfl rfl rfl ⟨rfl, rfl, rfl, rfl, rfl⟩ rfl rfl rfl rfl rfl (by kernel_rfl) Try.func6 (by kernel_rfl)
    (of_decide_eq_true (by kernel_rfl)) (by unfold Func.isWrapper; rw [if_neg (of_decide_eq_false (by kernel_rfl))]; exact ⟨rfl, rfl⟩)
    (fun os started H enc _ enter => ReturnsInOpen.mono (fun _ _ _ x => ⟨x.2.1, onlyLeaving_of_quiet x.1, x.2.2⟩) (fun _ x => x) (fnExactKeyOf_lifted os started H enc enter))

/-- The statement. -/
theorem fnExactKeyOf_holds : Rows.FnExactKeyOfSaid := fnExactKeyOf_over
end
end Go.Proofs.Ytaiedpblfnaooab
