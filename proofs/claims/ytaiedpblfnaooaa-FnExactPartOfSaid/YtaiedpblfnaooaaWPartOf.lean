/- PartOf answers, for every field, as its model does. No conditions. -/
import Derived.Conc.Holds
import Derived.Leaving
import Derived.Test.YtaiedpblfnaooaaPartOf
namespace Go.Proofs.Ytaiedpblfnaooaa
open Go.ChangeShapes Go.WideShapes Go.ChangeAt Go.RowKit

/-- The parts of the answer. -/
def prM (s : ByteArray) (k st sz : Int) : Int × Int := if fieldOk s k st sz then (pt0 k st sz, pt1 k st sz) else (0, 0)
def prC (s : ByteArray) (k st sz : Int) : Int := if fieldOk s k st sz then 0 else 1
theorem partR_parts (s : ByteArray) (k st sz : Int) : ∃ x y c : Int, partR s k st sz = .tuple #[.agg #[.int .u64 x, .int .u64 y], .int .i64 c] := by
  unfold partR; split <;> exact ⟨_, _, _, rfl⟩

set_option maxHeartbeats 3200000 in
theorem fnExactPartOf_walk (s : ByteArray) (k st sz : Int) (hs : s.size ≤ maxLen) (hk : I8 k) (ht : I16 st) (hz : I16 sz) (w : World) :
    Calls Try.prog 9 #[.agg #[.string s, .int .i8 k, .int .i16 st, .int .i16 sz]] w fun e w' => e = .returned (.bool true) ∧ Below w.heap.size w w' := by
  obtain ⟨x, y, c, hx⟩ := partR_parts s k st sz
  have I := Lib.hid fun W => iPartOf_any s k st sz hs hk ht hz W
  have S := Lib.hid fun W => sPartOf_any s k st sz hs hk ht hz W
  rw [hx] at I S
  clear hx hk ht hz
  unfold maxLen at hs
  by_cases hz : 1048576 < s.size
  · have d1 : IntKind.i64.wrap (1048576 - (s.size : Int)) = 1048576 - (s.size : Int) := IntWalk.i64_in _ (by omega)
    have d2 : decide ((1048576 : Int) - (s.size : Int) < 0) = true := by simp; omega
    go_enter Try.func9, Try.ntmps9
    go_wp2
    go_returns
    exact ⟨rfl, (by repeat' (first | (with_reducible exact Below.refl _ _) | (with_reducible assumption) | (with_reducible refine below_drewN ?_ _) | (with_reducible refine Below.drew ?_) | (with_reducible refine below_new ?_ _) | (with_reducible refine below_next ?_ (by with_reducible assumption)) | (with_reducible refine Below.setCell ?_ ?_ _) | go_size))⟩
  · have d1 : IntKind.i64.wrap (1048576 - (s.size : Int)) = 1048576 - (s.size : Int) := IntWalk.i64_in _ (by omega)
    have d2 : decide ((1048576 : Int) - (s.size : Int) < 0) = false := by simp; omega
    go_enter Try.func9, Try.ntmps9
    go_wp2_with (first
      | (go_at_call 53; refine (S.out _).mono ?_; rintro e ws ⟨rfl, hB⟩; obtain ⟨hc, hf, hz⟩ := bcell hB; have y0 : w.heap.size < ws.heap.size := hz _ (by first | omega | (simp; done) | (simp; omega)))
      | (go_at_call 54; refine (I.out _).mono ?_; rintro e wi ⟨rfl, hBi⟩; obtain ⟨hci, hfi, hzi⟩ := bcell hBi; have y1 : ws.heap.size < wi.heap.size := hzi _ (by first | omega | (simp; done) | (simp; omega)))
      | (go_at_call 55; refine (eqMask_same _ _ _).mono ?_; rintro e w1 ⟨rfl, hBe⟩)
      | go_in)
    all_goals go_returns
    all_goals exact ⟨rfl, (by repeat' (first | (with_reducible exact Below.refl _ _) | (with_reducible assumption) | (with_reducible refine below_drewN ?_ _) | (with_reducible refine Below.drew ?_) | (with_reducible refine below_new ?_ _) | (with_reducible refine below_next ?_ (by with_reducible assumption)) | (with_reducible refine Below.setCell ?_ ?_ _) | go_size))⟩

/-! ### The frame round the walk -/
section
set_option maxRecDepth 100000 in
theorem fnExactPartOf_lifted (os : Os) (started : os.Started) (H : Type) (enc : TypeId × Value → H) :
    ReturnsInHanded {} Try.checked os 9 .any (Rows.fnExactPartOfSpec.pre6 enc Try.prog Try.f9 Rows.fnExactPartOfRow.domain false) (Rows.fnExactPartOfSpec.post enc Try.prog Try.f9 false true false false) := by
  refine returnsInHanded_of_change_sized (C := Try.checked) own started (by kernel_rfl) Try.func9
    (ChangeSpec.witness6 (enc := enc) (C := Try.checked) false ⟨#[], #[.agg #[.string ByteArray.empty, .int .i8 0, .int .i16 0, .int .i16 0]], []⟩ 8 (by kernel_rfl) (by kernel_rfl) (by kernel_rfl) (by kernel_rfl)) ?_
  intro W base args ds gs before hval hW _ hsz _
  have hW' := hW
  obtain ⟨p, q, hA, hV, rfl, _, _⟩ := hW
  obtain ⟨rfl, rfl⟩ := trodVars_none hV
  have hlt : ∀ x ∈ p, x.block < W.heap.size := fun x hx => by simpa using hW'.lt x (by simpa using hx)
  rw [Try.params9] at hA hval hsz
  obtain ⟨v0, vs0, d0, ds0, p0, q0, hargs, rfl, rfl, h0, r0⟩ := trodAll_cons hA
  obtain ⟨rfl, rfl, rfl⟩ := trodAll_nil r0
  obtain rfl : args = #[v0] := by cases args; simp_all
  obtain ⟨s0, k0, st0, sz0, rfl, hs0, hk0, hst0, hsz0⟩ := open_field (s := 9) (k := 77) (e := 60) Try.underlying79 (by kernel_rfl) (by kernel_rfl) (by kernel_rfl) (by kernel_rfl) (by kernel_rfl) (hval 0 79 v0 rfl rfl)
  refine (fnExactPartOf_walk s0 k0 st0 sz0 hs0 hk0 hst0 hsz0 W).mono fun e W' ⟨he, hb⟩ => ?_
  subst he
  exact ⟨_, rfl, law_post laidOut rfl Try.underlying4 (of_all (by kernel_rfl)) rfl hW' rfl rfl rfl hb⟩

theorem fnExactPartOf_over : Rows.fnExactPartOfRow.holds Try.pinned (OpenSpec.ofChange Rows.fnExactPartOfSpec) :=
  OpenClaim.holds_of_wide_leaving 9 Try.f9 rfl rfl rfl rfl rfl rfl rfl ⟨rfl, rfl, rfl, rfl, rfl⟩ rfl rfl rfl rfl rfl (by kernel_rfl) Try.func9 (by kernel_rfl)
    (of_decide_eq_true (by kernel_rfl)) (by unfold Func.isWrapper; rw [if_neg (of_decide_eq_false (by kernel_rfl))]; exact ⟨rfl, rfl⟩)
    (fun os started H enc _ enter => ReturnsInOpen.mono (fun _ _ _ x => ⟨x.2.1, onlyLeaving_of_quiet x.1, x.2.2⟩) (fun _ x => x) (fnExactPartOf_lifted os started H enc enter))

/-- The statement. -/
theorem fnExactPartOf_holds : Rows.FnExactPartOfSaid := fnExactPartOf_over
end
end Go.Proofs.Ytaiedpblfnaooaa
