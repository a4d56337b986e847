/- WordHoles answers, for every mix and every text, as its model does. No conditions. -/
import Derived.Test.YtaiedpblfnaooabWordH
namespace Go.Proofs.Ytaiedpblfnaooab
open Go.ChangeShapes Go.WideShapes Go.ChangeAt Go.RowKit

set_option maxHeartbeats 1600000 in
theorem fnExactWordHoles_walk (t z p : Int) (ht : I16 t) (hz : I16 z) (hp : I16 p) (s : ByteArray) (hs : s.size ≤ maxLen) (w : World) :
    Calls Try.prog 8 #[.agg #[.int .i16 t, .int .i16 z, .int .i16 p], .string s] w fun e w' => e = .returned (.bool true) ∧ Below w.heap.size w w' := by
  obtain ⟨F, hF⟩ : ∃ F, mixOk t z p = true → StopF t z p F := by
    cases h : mixOk t z p
    · exact ⟨fun _ => 0, fun e => absurd e (by decide)⟩
    · obtain ⟨t0, z0, tz, p1, p8, pz⟩ := mix_inv h
      obtain ⟨F, hF⟩ := stopF_some (p := p) t0 (show 0 < z by omega) tz (by omega)
      exact ⟨F, fun _ => hF⟩
  have I := Lib.hid fun W => iWordHoles_any t z p ht hz F hF s hs W
  have S := Lib.hid fun W => sWordHoles_any t z p ht hz hp F hF s hs W
  obtain ⟨x, y, c, hx⟩ : ∃ x y c : Int, addV (whC (mixOk t z p) s) (hw0 t z F s) (hw1 t z F s) = .tuple #[.agg #[.int .u64 x, .int .u64 y], .int .i64 c] := ⟨_, _, _, rfl⟩
  rw [hx] at I S
  clear hx ht hz hp hF
  unfold maxLen at hs
  by_cases h1 : 1048576 < s.size
  · have d1 : decide ((1048576 : Int) < (s.size : Int)) = true := by simp; omega
    go_enter Try.func8, Try.ntmps8
    go_wp2
    go_returns
    exact ⟨rfl, (by repeat' (first | (with_reducible exact Below.refl _ _) | (with_reducible assumption) | (with_reducible refine below_drewN ?_ _) | (with_reducible refine Below.drew ?_) | (with_reducible refine below_new ?_ _) | (with_reducible refine below_next ?_ (by with_reducible assumption)) | (with_reducible refine Below.setCell ?_ ?_ _) | go_size))⟩
  have d1 : decide ((1048576 : Int) < (s.size : Int)) = false := by simp; omega
  go_enter Try.func8, Try.ntmps8
  go_wp2_with (first
    | (go_at_call 38; refine (toMix_any _ _ _ _).mono ?_; rintro e w1 ⟨rfl, hB1⟩; obtain ⟨hc1, hf1, hz1⟩ := bcell hB1; have y1 : w.heap.size < w1.heap.size := hz1 _ (by first | omega | (simp; done) | (simp; omega)); (try have x1 : ws.heap.size < w1.heap.size := hz1 _ (by first | omega | (simp; done) | (simp; omega))))
    | (go_at_call 37; refine (S.out _).mono ?_; rintro e ws ⟨rfl, hBs⟩; obtain ⟨hcs, hfs, hzs⟩ := bcell hBs; have ys : w.heap.size < ws.heap.size := hzs _ (by first | omega | (simp; done) | (simp; omega)))
    | (go_at_call 39; refine (I.out _).mono ?_; rintro e wi ⟨rfl, hBi⟩; obtain ⟨hci, hfi, hzi⟩ := bcell hBi; have yi : ws.heap.size < wi.heap.size := hzi _ (by first | omega | (simp; done) | (simp; omega)))
    | (go_at_call 40; refine (eqMask_same _ _ _).mono ?_; rintro e we ⟨rfl, hBe⟩)
    | go_in)
  all_goals go_returns
  all_goals exact ⟨rfl, (by repeat' (first | (with_reducible exact Below.refl _ _) | (with_reducible assumption) | (with_reducible refine below_drewN ?_ _) | (with_reducible refine Below.drew ?_) | (with_reducible refine below_new ?_ _) | (with_reducible refine below_next ?_ (by with_reducible assumption)) | (with_reducible refine Below.setCell ?_ ?_ _) | go_size))⟩
/-! ### The frame round the walk -/
section
set_option maxRecDepth 100000 in
theorem fnExactWordHoles_lifted (os : Os) (started : os.Started) (H : Type) (enc : TypeId × Value → H) :
    ReturnsInHanded {} Try.checked os 8 .any (Rows.fnExactWordHolesSpec.pre6 enc Try.prog Try.f8 Rows.fnExactWordHolesRow.domain false) (Rows.fnExactWordHolesSpec.post enc Try.prog Try.f8 false true false false) := by
  refine returnsInHanded_of_change_sized (C := Try.checked) own started (by kernel_rfl) Try.func8
    (ChangeSpec.witness6 (enc := enc) (C := Try.checked) false ⟨#[], #[.agg #[.int .i16 0, .int .i16 0, .int .i16 0], .string ByteArray.empty], []⟩ 8 (by kernel_rfl) (by kernel_rfl) (by kernel_rfl) (by kernel_rfl)) ?_
  intro W base args ds gs before hval hW _ hsz _
  have hW' := hW
  obtain ⟨p, q, hA, hV, rfl, _, _⟩ := hW
  obtain ⟨rfl, rfl⟩ := trodVars_none hV
  have hlt : ∀ x ∈ p, x.block < W.heap.size := fun x hx => by simpa using hW'.lt x (by simpa using hx)
  rw [Try.params8] at hA hval hsz
  obtain ⟨v0, vs0, d0, ds0, p0, q0, hargs, rfl, rfl, h0, r0⟩ := trodAll_cons hA
  obtain ⟨v1, vs1, d1, ds1, p1, q1, rfl, rfl, rfl, h1, r1⟩ := trodAll_cons r0
  obtain ⟨rfl, rfl, rfl⟩ := trodAll_nil r1
  obtain rfl : args = #[v0, v1] := by cases args; simp_all
  obtain ⟨t0, z0, p0, rfl, ht0, hz0, hp0⟩ := open_mix (e := 23) Try.underlying56 (by kernel_rfl) (by kernel_rfl) (by kernel_rfl) (hval 0 56 v0 rfl rfl)
  obtain ⟨s1, rfl, hs1⟩ := open_str (by kernel_rfl) (hval 1 9 v1 rfl rfl)
  refine (fnExactWordHoles_walk t0 z0 p0 ht0 hz0 hp0 s1 hs1 W).mono fun e W' ⟨he, hb⟩ => ?_
  subst he
  exact ⟨_, rfl, law_post laidOut rfl Try.underlying4 (of_all (by kernel_rfl)) rfl hW' rfl rfl rfl hb⟩

theorem fnExactWordHoles_over : Rows.fnExactWordHolesRow.holds Try.pinned (OpenSpec.ofChange Rows.fnExactWordHolesSpec) :=
  OpenClaim.holds_of_wide 8 Try.f8 rfl rfl rfl rfl rfl rfl rfl ⟨rfl, rfl, rfl, rfl, rfl⟩ rfl rfl rfl rfl rfl (by kernel_rfl) Try.func8 (by kernel_rfl)
    (of_decide_eq_true (by kernel_rfl)) (by unfold Func.isWrapper; rw [if_neg (of_decide_eq_false (by kernel_rfl))]; exact ⟨rfl, rfl⟩)
    (fun os started H enc _ => fnExactWordHoles_lifted os started H enc)

/-- The statement. -/
theorem fnExactWordHoles_holds : Rows.FnExactWordHolesSaid := fnExactWordHoles_over
end
end Go.Proofs.Ytaiedpblfnaooab
