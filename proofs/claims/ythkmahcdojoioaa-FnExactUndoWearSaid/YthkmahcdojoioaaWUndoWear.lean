/- UndoWear answers, for all wear, as its model does. No conditions. -/
import Derived.Test.YthkmahcdojoioaaWear2
namespace Go.Proofs.Ythkmahcdojoioaa
open Go.ChangeShapes Go.WideShapes Go.ChangeAt Go.RowKit

set_option maxHeartbeats 1600000 in
theorem fnExactUndoWear_walk (a b c d : Int) (_ha : U64 a) (_hb : U64 b) (_hc : U64 c) (_hd : U64 d) (w : World) :
    Calls Try.prog 6 #[.agg #[.int .u64 a, .int .u64 b, .int .u64 c, .int .u64 d]] w fun e w' => e = .returned (.bool true) ∧ Below w.heap.size w w' := by
  clear _ha _hb _hc _hd
  have I := Lib.hid fun W => iUndo_any a b c d W
  have S := Lib.hid fun W => sUndo_any a b c d W
  obtain ⟨x, y, z, u, k, hx⟩ := wvR_parts (qOk a b c d) c d a b
  rw [hx] at I S
  clear hx
  go_enter Try.func6, Try.ntmps6
  go_wp2_with (first
    | (go_at_call 14; refine (toWear_any _ _ _ _ _).mono ?_; rintro e w1 ⟨rfl, hB1⟩; obtain ⟨hc1, hf1, hz1⟩ := bcell hB1; have y1 : w.heap.size < w1.heap.size := hz1 _ (by first | omega | (simp; done) | (simp; omega)); (try have x1 : ws.heap.size < w1.heap.size := hz1 _ (by first | omega | (simp; done) | (simp; omega))))
    | (go_at_call 25; refine (S.out _).mono ?_; rintro e ws ⟨rfl, hBs⟩; obtain ⟨hcs, hfs, hzs⟩ := bcell hBs; have ys : w.heap.size < ws.heap.size := hzs _ (by first | omega | (simp; done) | (simp; omega)))
    | (go_at_call 26; refine (I.out _).mono ?_; rintro e wi ⟨rfl, hBi⟩; obtain ⟨hci, hfi, hzi⟩ := bcell hBi; have yi : ws.heap.size < wi.heap.size := hzi _ (by first | omega | (simp; done) | (simp; omega)))
    | (go_at_call 24; refine (eqWear_same _ _ _ _ _).mono ?_; rintro e we ⟨rfl, hBe⟩)
    | go_in)
  all_goals go_returns
  all_goals exact ⟨rfl, (by repeat' (first | (with_reducible exact Below.refl _ _) | (with_reducible assumption) | (with_reducible refine below_drewN ?_ _) | (with_reducible refine Below.drew ?_) | (with_reducible refine below_new ?_ _) | (with_reducible refine below_next ?_ (by with_reducible assumption)) | (with_reducible refine Below.setCell ?_ ?_ _) | go_size))⟩
/-! ### The frame round the walk -/
section
set_option maxRecDepth 100000 in
theorem fnExactUndoWear_lifted (os : Os) (started : os.Started) (H : Type) (enc : TypeId × Value → H) :
    ReturnsInHanded {} Try.checked os 6 .any (Rows.fnExactUndoWearSpec.pre6 enc Try.prog Try.f6 Rows.fnExactUndoWearRow.domain false) (Rows.fnExactUndoWearSpec.post enc Try.prog Try.f6 false true false false) := by
  refine returnsInHanded_of_change_sized (C := Try.checked) own started (by kernel_rfl) Try.func6
    (ChangeSpec.witness6 (enc := enc) (C := Try.checked) false ⟨#[], #[.agg #[.int .u64 0, .int .u64 0, .int .u64 0, .int .u64 0]], []⟩ 8 (by kernel_rfl) (by kernel_rfl) (by kernel_rfl) (by kernel_rfl)) ?_
  intro W base args ds gs before hval hW _ hsz _
  have hW' := hW
  obtain ⟨p, q, hA, hV, rfl, _, _⟩ := hW
  obtain ⟨rfl, rfl⟩ := trodVars_none hV
  have hlt : ∀ x ∈ p, x.block < W.heap.size := fun x hx => by simpa using hW'.lt x (by simpa using hx)
  rw [Try.params6] at hA hval hsz
  obtain ⟨v0, vs0, d0, ds0, p0, q0, hargs, rfl, rfl, h0, r0⟩ := trodAll_cons hA
  obtain ⟨rfl, rfl, rfl⟩ := trodAll_nil r0
  obtain rfl : args = #[v0] := by cases args; simp_all
  obtain ⟨a0, b0, c0, d0, rfl, ha0, hb0, hc0, hd0⟩ := open_query (e := 22) Try.underlying25 (by kernel_rfl) (by kernel_rfl) (by kernel_rfl) (hval 0 25 v0 rfl rfl)
  refine (fnExactUndoWear_walk a0 b0 c0 d0 ha0 hb0 hc0 hd0 W).mono fun e W' ⟨he, hb⟩ => ?_
  subst he
  exact ⟨_, rfl, law_post laidOut rfl Try.underlying4 (of_all (by kernel_rfl)) rfl hW' rfl rfl rfl hb⟩

theorem fnExactUndoWear_over : Rows.fnExactUndoWearRow.holds Try.pinned (OpenSpec.ofChange Rows.fnExactUndoWearSpec) :=
  OpenClaim.holds_of_wide 6 Try.f6 rfl rfl rfl rfl rfl rfl rfl ⟨rfl, rfl, rfl, rfl, rfl⟩ rfl rfl rfl rfl rfl (by kernel_rfl) Try.func6 (by kernel_rfl)
    (of_decide_eq_true (by kernel_rfl)) (by unfold Func.isWrapper; rw [if_neg (of_decide_eq_false (by kernel_rfl))]; exact ⟨rfl, rfl⟩)
    (fun os started H enc _ => fnExactUndoWear_lifted os started H enc)

/-- The statement. -/
theorem fnExactUndoWear_holds : Rows.FnExactUndoWearSaid := fnExactUndoWear_over
end
end Go.Proofs.Ythkmahcdojoioaa
