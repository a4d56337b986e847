/- LessMask answers, for every two masks, as its model does. No conditions. -/
import Derived.Test.YtnooggjijomljabMasks
import Derived.Deep.DeepCutAuto
namespace Go.Proofs.Ytnooggjijomljab
open Go.ChangeShapes Go.WideShapes Go.ChangeAt Go.RowKit

set_option maxHeartbeats 3200000 in
theorem fnExactLessMask_walk (a b : Int) (_ha : U64 a) (_hb : U64 b) (c d : Int) (_hc : U64 c) (_hd : U64 d) (w : World) :
    Calls Try.prog 3 #[.agg #[.int .u64 a, .int .u64 b], .agg #[.int .u64 c, .int .u64 d]] w fun e w' => e = .returned (.bool true) ∧ Below w.heap.size w w' := by
  clear _ha _hb _hc _hd
  go_enter Try.func3, Try.ntmps3
  go_upto_region 1 with fail
  go_cut [5] (fun p wx => ∃ g : Nat, p = .pointer (some ⟨g, 0, none⟩) ∧ wx.cell? ⟨g, 0, none⟩ = some (.int .u64 (bits .andNot .u64 a c)) ∧ wx.cell? ⟨g, 1, none⟩ = some (.int .u64 (bits .andNot .u64 b d)) ∧ g < wx.heap.size ∧
    wx.cell? ⟨w.heap.size, 0, none⟩ = some (.int .u64 a) ∧ wx.cell? ⟨w.heap.size, 1, none⟩ = some (.int .u64 b) ∧ wx.cell? ⟨w.heap.size + 1, 0, none⟩ = some (.int .u64 c) ∧ wx.cell? ⟨w.heap.size + 1, 1, none⟩ = some (.int .u64 d) ∧ w.heap.size + 2 ≤ wx.heap.size ∧ Below w.heap.size w wx)
  case first =>
    go_region_held3 (fun w' => w'.cell? ⟨w.heap.size, 0, none⟩ = some (.int .u64 a) ∧ w'.cell? ⟨w.heap.size, 1, none⟩ = some (.int .u64 b) ∧ w'.cell? ⟨w.heap.size + 1, 0, none⟩ = some (.int .u64 c) ∧ w'.cell? ⟨w.heap.size + 1, 1, none⟩ = some (.int .u64 d) ∧ w.heap.size + 2 ≤ w'.heap.size ∧ Below w.heap.size w w')
      (first | (go_split_ands; refine ⟨?_, ?_, ?_, ?_, ?_, ?_⟩ <;> first | with_reducible assumption | ((try simp only [World.cell?_drew, World.cell?_drewN]); (repeat (first | rw [World.cell?_alloc_past (hn := (by first | omega | (simp; done) | (simp; omega)))] | rw [World.cell?_setCell_far _ _ _ _ (by first | omega | (simp; done) | (simp; omega))])); first | with_reducible assumption | (simp [go_sem]; done)) | (simp; omega) | ((repeat' (first | (with_reducible exact Below.refl _ _) | (with_reducible assumption) | (with_reducible refine below_drewN ?_ _) | (with_reducible refine Below.drew ?_) | (with_reducible refine below_new ?_ _) | (with_reducible refine below_next ?_ (by with_reducible assumption)) | (with_reducible refine Below.setCell ?_ ?_ _) | go_size)); done)))
      (first
        | (go_at_call 16; refine (toMask_any _ _ _).mono ?_; rintro e w1 ⟨rfl, rfl⟩)
        | (go_at_call 15; refine (sLessMasks_any _ _ _ _ _).mono ?_; rintro e w1 ⟨rfl, rfl⟩))
    all_goals (go_wp2_with fail; go_meet; go_split_ands; refine ⟨_, rfl, ?_, ?_, ?_, ?_, ?_, ?_, ?_, ?_, ?_⟩ <;> first | with_reducible assumption | (simp [go_sem]; done) | ((try simp only [World.cell?_drew, World.cell?_drewN]); (repeat (first | rw [World.cell?_alloc_past (hn := (by first | omega | (simp; done) | (simp; omega)))] | rw [World.cell?_setCell_far _ _ _ _ (by first | omega | (simp; done) | (simp; omega))])); first | with_reducible assumption | (simp [go_sem]; done)) | (simp; omega) | ((repeat' (first | (with_reducible exact Below.refl _ _) | (with_reducible assumption) | (with_reducible refine below_drewN ?_ _) | (with_reducible refine Below.drew ?_) | (with_reducible refine below_new ?_ _) | (with_reducible refine below_next ?_ (by with_reducible assumption)) | (with_reducible refine Below.setCell ?_ ?_ _) | go_size)); done))
  case rest =>
    obtain ⟨g, rfl, g0, g1, hg, e0, e1, e2, e3, hs, hb0⟩ := hcut
    go_upto_region 2 with fail
    go_cut [6] (fun p wx => ∃ q : Nat, p = .pointer (some ⟨q, 0, none⟩) ∧ wx.cell? ⟨q, 0, none⟩ = some (.int .u64 (bits .andNot .u64 a c)) ∧ wx.cell? ⟨q, 1, none⟩ = some (.int .u64 (bits .andNot .u64 b d)) ∧ q < wx.heap.size ∧ wx.cell? ⟨g, 0, none⟩ = some (.int .u64 (bits .andNot .u64 a c)) ∧ wx.cell? ⟨g, 1, none⟩ = some (.int .u64 (bits .andNot .u64 b d)) ∧ g < wx.heap.size ∧ Below w.heap.size w wx)
    case first =>
      go_region_held3 (fun w' => w'.cell? ⟨w.heap.size, 0, none⟩ = some (.int .u64 a) ∧ w'.cell? ⟨w.heap.size, 1, none⟩ = some (.int .u64 b) ∧ w'.cell? ⟨w.heap.size + 1, 0, none⟩ = some (.int .u64 c) ∧ w'.cell? ⟨w.heap.size + 1, 1, none⟩ = some (.int .u64 d) ∧ w.heap.size + 2 ≤ w'.heap.size ∧ Below w.heap.size w w')
        (first | (go_split_ands; refine ⟨?_, ?_, ?_, ?_, ?_, ?_⟩ <;> first | with_reducible assumption | ((try simp only [World.cell?_drew, World.cell?_drewN]); (repeat (first | rw [World.cell?_alloc_past (hn := (by first | omega | (simp; done) | (simp; omega)))] | rw [World.cell?_setCell_far _ _ _ _ (by first | omega | (simp; done) | (simp; omega))])); first | with_reducible assumption | (simp [go_sem]; done)) | (simp; omega) | ((repeat' (first | (with_reducible exact Below.refl _ _) | (with_reducible assumption) | (with_reducible refine below_drewN ?_ _) | (with_reducible refine Below.drew ?_) | (with_reducible refine below_new ?_ _) | (with_reducible refine below_next ?_ (by with_reducible assumption)) | (with_reducible refine Below.setCell ?_ ?_ _) | go_size)); done)))
      (first
          | (go_at_call 16; refine (toMask_any _ _ _).mono ?_; rintro e w1 ⟨rfl, rfl⟩)
          | (go_at_call 17; refine (iLess_any _ _ _ _ _).mono ?_; rintro e w1 ⟨rfl, rfl⟩))
      all_goals (go_wp2_with fail; go_meet; go_split_ands; refine ⟨_, rfl, ?_, ?_, ?_, ?_, ?_, ?_, ?_⟩ <;> first | with_reducible assumption | (simp [go_sem]; done) | ((try simp only [World.cell?_drew, World.cell?_drewN]); (repeat (first | rw [World.cell?_alloc_past (hn := (by first | omega | (simp; done) | (simp; omega)))] | rw [World.cell?_setCell_far _ _ _ _ (by first | omega | (simp; done) | (simp; omega))])); first | with_reducible assumption | (simp [go_sem]; done)) | (simp; omega) | ((repeat' (first | (with_reducible exact Below.refl _ _) | (with_reducible assumption) | (with_reducible refine below_drewN ?_ _) | (with_reducible refine Below.drew ?_) | (with_reducible refine below_new ?_ _) | (with_reducible refine below_next ?_ (by with_reducible assumption)) | (with_reducible refine Below.setCell ?_ ?_ _) | go_size)); done))
    case rest =>
      obtain ⟨q, rfl, q0, q1, hq, f0, f1, hg2, hb1⟩ := hcut
      go_wp2_with (go_at_call 18; refine (eqMask_same _ _ _).mono ?_; rintro e w1 ⟨rfl, hB⟩)
      go_returns
      exact ⟨rfl, (by repeat' (first | (with_reducible exact Below.refl _ _) | (with_reducible assumption) | (with_reducible refine below_drewN ?_ _) | (with_reducible refine Below.drew ?_) | (with_reducible refine below_new ?_ _) | (with_reducible refine below_next ?_ (by with_reducible assumption)) | (with_reducible refine Below.setCell ?_ ?_ _) | go_size))⟩

/-! ### The frame round the walk -/
section
set_option maxRecDepth 100000 in
theorem fnExactLessMask_lifted (os : Os) (started : os.Started) (H : Type) (enc : TypeId × Value → H) :
    ReturnsInHanded {} Try.checked os 3 .any (Rows.fnExactLessMaskSpec.pre6 enc Try.prog Try.f3 Rows.fnExactLessMaskRow.domain false) (Rows.fnExactLessMaskSpec.post enc Try.prog Try.f3 false true false false) := by
  refine returnsInHanded_of_change_sized (C := Try.checked) own started (by kernel_rfl) Try.func3
    (ChangeSpec.witness6 (enc := enc) (C := Try.checked) false ⟨#[], #[.agg #[.int .u64 0, .int .u64 0], .agg #[.int .u64 0, .int .u64 0]], []⟩ 8 (by kernel_rfl) (by kernel_rfl) (by kernel_rfl) (by kernel_rfl)) ?_
  intro W base args ds gs before hval hW _ hsz _
  have hW' := hW
  obtain ⟨p, q, hA, hV, rfl, _, _⟩ := hW
  obtain ⟨rfl, rfl⟩ := trodVars_none hV
  have hlt : ∀ x ∈ p, x.block < W.heap.size := fun x hx => by simpa using hW'.lt x (by simpa using hx)
  rw [Try.params3] at hA hval hsz
  obtain ⟨v0, vs0, d0, ds0, p0, q0, hargs, rfl, rfl, h0, r0⟩ := trodAll_cons hA
  obtain ⟨v1, vs1, d1, ds1, p1, q1, rfl, rfl, rfl, h1, r1⟩ := trodAll_cons r0
  obtain ⟨rfl, rfl, rfl⟩ := trodAll_nil r1
  obtain rfl : args = #[v0, v1] := by cases args; simp_all
  obtain ⟨a0, b0, rfl, ha0, hb0⟩ := open_mask (e := 22) (by kernel_rfl) (by kernel_rfl) (by kernel_rfl) (by kernel_rfl) (hval 0 23 v0 rfl rfl)
  obtain ⟨a1, b1, rfl, ha1, hb1⟩ := open_mask (e := 22) (by kernel_rfl) (by kernel_rfl) (by kernel_rfl) (by kernel_rfl) (hval 1 23 v1 rfl rfl)
  refine (fnExactLessMask_walk a0 b0 ha0 hb0 a1 b1 ha1 hb1 W).mono fun e W' ⟨he, hb⟩ => ?_
  subst he
  exact ⟨_, rfl, law_post laidOut rfl Try.underlying4 (of_all (by kernel_rfl)) rfl hW' rfl rfl rfl hb⟩

theorem fnExactLessMask_over : Rows.fnExactLessMaskRow.holds Try.pinned (OpenSpec.ofChange Rows.fnExactLessMaskSpec) :=
  OpenClaim.holds_of_wide 3 Try.f3 rfl rfl rfl rfl rfl rfl rfl ⟨rfl, rfl, rfl, rfl, rfl⟩ rfl rfl rfl rfl rfl (by kernel_rfl) Try.func3 (by kernel_rfl)
    (of_decide_eq_true (by kernel_rfl)) (by unfold Func.isWrapper; rw [if_neg (of_decide_eq_false (by kernel_rfl))]; exact ⟨rfl, rfl⟩)
    (fun os started H enc _ => fnExactLessMask_lifted os started H enc)

/-- The statement. -/
theorem fnExactLessMask_holds : Rows.FnExactLessMaskSaid := fnExactLessMask_over
end
end Go.Proofs.Ytnooggjijomljab
