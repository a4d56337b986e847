/- ShareOf answers, for every two numbers, as its model does. No conditions. -/
import Derived.Test.YtdbkplfkilaoeaaShr
namespace Go.Proofs.Ytdbkplfkilaoeaa
open Go.ChangeShapes Go.WideShapes Go.ChangeAt Go.RowKit

theorem eqShare_same (a b : Int) (w : World) :
    Calls Try.prog 24 #[.agg #[.int .i64 a, .int .i64 b], .agg #[.int .i64 a, .int .i64 b]] w fun e w' => e = .returned (.bool true) ∧ Below w.heap.size w w' := by
  have h1 : (a != a) = false := by simp
  have h2 : (b != b) = false := by simp
  go_enter Try.func24, Try.ntmps24
  go_wp2
  all_goals go_returns
  all_goals exact ⟨rfl, (by repeat' (first | (with_reducible exact Below.refl _ _) | (with_reducible assumption) | (with_reducible refine below_drewN ?_ _) | (with_reducible refine Below.drew ?_) | (with_reducible refine below_new ?_ _) | (with_reducible refine below_next ?_ (by with_reducible assumption)) | (with_reducible refine Below.setCell ?_ ?_ _) | go_size))⟩

set_option maxHeartbeats 1600000 in
theorem fnExactShareOf_walk (p : Int) (_hp : I64 p) (q : Int) (_hq : I64 q) (w : World) :
    Calls Try.prog 6 #[.int .i64 p, .int .i64 q] w fun e w' => e = .returned (.bool true) ∧ Below w.heap.size w w' := by
  have I := Lib.hid fun W => iShareOf_any p q W
  have S := Lib.hid fun W => sShareOf_any p q W
  obtain ⟨x, y, k, hx⟩ := soR_parts p q
  rw [hx] at I S
  have hk : (k != k) = false := by simp
  clear hx
  go_enter Try.func6, Try.ntmps6
  go_wp2_with (first
    | (go_at_call 22; refine (S.out _).mono ?_; rintro e ws ⟨rfl, hBs⟩; have bs := Lib.hid hBs; obtain ⟨hcs, hfs, hzs⟩ := bcell hBs; clear hBs)
    | (go_at_call 23; refine (I.out _).mono ?_; rintro e wi ⟨rfl, hBi⟩; have bi := Lib.hid hBi; obtain ⟨hci, hfi, hzi⟩ := bcell hBi; clear hBi)
    | (go_at_call 24; refine (eqShare_same _ _ _).mono ?_; rintro e we ⟨rfl, hBe⟩; have be := Lib.hid hBe; clear hBe))
  all_goals go_returns
  all_goals exact ⟨rfl, by have := bs.out; have := bi.out; have := be.out; ((repeat' (first | (with_reducible exact Below.refl _ _) | (with_reducible assumption) | (with_reducible refine below_drewN ?_ _) | (with_reducible refine Below.drew ?_) | (with_reducible refine below_new ?_ _) | (with_reducible refine below_next ?_ (by with_reducible assumption)) | (with_reducible refine Below.setCell ?_ ?_ _) | go_size)); done)⟩
/-! ### The frame round the walk -/
section
set_option maxRecDepth 100000 in
theorem fnExactShareOf_lifted (os : Os) (started : os.Started) (H : Type) (enc : TypeId × Value → H) :
    ReturnsInHanded {} Try.checked os 6 .any (Rows.fnExactShareOfSpec.pre6 enc Try.prog Try.f6 Rows.fnExactShareOfRow.domain false) (Rows.fnExactShareOfSpec.post enc Try.prog Try.f6 false true false false) := by
  refine returnsInHanded_of_change_sized (C := Try.checked) own started (by kernel_rfl) Try.func6
    (ChangeSpec.witness6 (enc := enc) (C := Try.checked) false ⟨#[], #[.int .i64 0, .int .i64 0], []⟩ 8 (by kernel_rfl) (by kernel_rfl) (by kernel_rfl) (by kernel_rfl)) ?_
  intro W base args ds gs before hval hW _ hsz _
  have hW' := hW
  obtain ⟨p, q, hA, hV, rfl, _, _⟩ := hW
  obtain ⟨rfl, rfl⟩ := trodVars_none hV
  have hlt : ∀ x ∈ p, x.block < W.heap.size := fun x hx => by simpa using hW'.lt x (by simpa using hx)
  rw [Try.params6] at hA hval hsz
  obtain ⟨v0, vs0, d0, ds0, p0, q0, hargs, rfl, rfl, h0, r0⟩ := trodAll_cons hA
  obtain ⟨v1, vs1, d1, ds1, p1, q1, rfl, rfl, rfl, h1, r1⟩ := trodAll_cons r0
  obtain ⟨rfl, rfl, rfl⟩ := trodAll_nil r1
  obtain rfl : args = #[v0, v1] := by cases args; simp_all
  obtain ⟨n0, rfl, hn0⟩ := open_i64 (by kernel_rfl) (hval 0 2 v0 rfl rfl)
  obtain ⟨n1, rfl, hn1⟩ := open_i64 (by kernel_rfl) (hval 1 2 v1 rfl rfl)
  refine (fnExactShareOf_walk n0 hn0 n1 hn1 W).mono fun e W' ⟨he, hb⟩ => ?_
  subst he
  exact ⟨_, rfl, law_post laidOut rfl Try.underlying4 (of_all (by kernel_rfl)) rfl hW' rfl rfl rfl hb⟩

theorem fnExactShareOf_over : Rows.fnExactShareOfRow.holds Try.pinned (OpenSpec.ofChange Rows.fnExactShareOfSpec) :=
  OpenClaim.holds_of_wide 6 Try.f6 rfl rfl rfl rfl rfl rfl rfl ⟨rfl, rfl, rfl, rfl, rfl⟩ rfl rfl rfl rfl rfl (by kernel_rfl) Try.func6 (by kernel_rfl)
    (of_decide_eq_true (by kernel_rfl)) (by unfold Func.isWrapper; rw [if_neg (of_decide_eq_false (by kernel_rfl))]; exact ⟨rfl, rfl⟩)
    (fun os started H enc _ => fnExactShareOf_lifted os started H enc)

/-- The statement. -/
theorem fnExactShareOf_holds : Rows.FnExactShareOfSaid := fnExactShareOf_over
end
end Go.Proofs.Ytdbkplfkilaoeaa
