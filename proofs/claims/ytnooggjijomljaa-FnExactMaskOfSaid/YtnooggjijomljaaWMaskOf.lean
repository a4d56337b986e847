/- MaskOf answers, for every slice of holes, as its model does. No conditions. -/
import Derived.Test.YtnooggjijomljaaMaskOf
namespace Go.Proofs.Ytnooggjijomljaa
open Go.ChangeShapes Go.WideShapes Go.ChangeAt Go.RowKit

theorem open_intS {H : Type} {enc : TypeId × Value → H} {P : Program} {W : World} {t e : TypeId} {v : Value} {d : DataW H} {p : List MemPlace} {r : Reach} {b : Nat} (ht : P.underlying t = some (.slice e)) (he : P.underlying e = some (.int .i64)) (hc : P.cellsOf e = 1)
    (hv : Value.okWide P W r b t v) (h : DataW.Trod enc P W 0 (fun _ => true) true t v d p) : ∃ a zs cap, v = .slice a zs.length cap ∧ IntsIn W a zs := by
  obtain ⟨a0, len, cap, rfl⟩ := okWide_slice ht hv
  obtain ⟨fuel, hf⟩ := h
  rcases open_ints ht he hc hf with ⟨hcs, hx⟩ | ⟨a, len', cap', zs, hcs, _, hl, hm, hz, hx, hcell, hwz⟩
  · simp [Value.cells] at hcs
    obtain ⟨rfl, rfl, rfl⟩ := hcs
    exact ⟨none, [], 0, rfl, fun i hi => by simp at hi⟩
  · simp [Value.cells] at hcs
    obtain ⟨rfl, rfl, rfl⟩ := hcs
    simp at hz
    refine ⟨some a, zs.take len, cap, ?_, ?_⟩
    · rw [List.length_take, Nat.min_eq_left (by omega)]
    · intro i hi
      rw [List.length_take] at hi
      obtain ⟨b, off, rfl, hcc⟩ := ints_at hcell (by omega)
      have h2 := hcc i (by omega)
      refine ⟨b, off, rfl, World.block_lt_of_cell? _ _ h2, ?_⟩
      rw [h2]
      simp [List.getD, List.getElem?_take, show i < len by omega]

theorem sMaskOf_t (a : Option Addr) (zs : List Int) (c : Nat) (w : World) (ha : IntsIn w a zs) (hl : zs.length ≤ 17592186044404) :
    Calls Try.prog 54 #[.slice a zs.length c] w fun e w' => e = .returned (.tuple #[.agg #[.int .u64 (moR b0 zs), .int .u64 (moR b1 zs)], .int .i64 (moC zs)]) ∧ Below w.heap.size w w' := sMaskOf_any a zs c w ha hl
theorem iMaskOf_t (a : Option Addr) (zs : List Int) (c : Nat) (w : World) (ha : IntsIn w a zs) (hl : zs.length ≤ 17592186044404) :
    Calls Try.prog 25 #[.slice a zs.length c] w fun e w' => e = .returned (.tuple #[.agg #[.int .u64 (moR b0 zs), .int .u64 (moR b1 zs)], .int .i64 (moC zs)]) ∧ Below w.heap.size w w' := iMaskOf_any a zs c w ha hl

set_option maxHeartbeats 3200000 in
theorem fnExactMaskOf_walk (a : Option Addr) (zs : List Int) (c : Nat) (w : World) (h : IntsIn w a zs) :
    Calls Try.prog 11 #[.slice a zs.length c] w fun e w' => e = .returned (.bool true) ∧ Below w.heap.size w w' := by
  have X := Lib.hid h
  clear h
  by_cases hl : 1048576 < zs.length
  · have hd : decide ((1048576 : Int) < (zs.length : Int)) = true := by simp; omega
    go_enter Try.func11, Try.ntmps11
    go_wp2
    go_returns
    exact ⟨rfl, (by repeat' (first | (with_reducible exact Below.refl _ _) | (with_reducible assumption) | (with_reducible refine below_drewN ?_ _) | (with_reducible refine Below.drew ?_) | (with_reducible refine below_new ?_ _) | (with_reducible refine below_next ?_ (by with_reducible assumption)) | (with_reducible refine Below.setCell ?_ ?_ _) | go_size))⟩
  · have hd : decide ((1048576 : Int) < (zs.length : Int)) = false := by simp; omega
    have hm : zs.length ≤ 17592186044404 := by omega
    clear hl
    have x0 := X.out
    go_enter Try.func11, Try.ntmps11
    go_wp2_with (first
      | (go_at_call 55; refine (toInts_any _ _ _ _ (by first | with_reducible assumption | (refine intsIn_below (by with_reducible assumption) ?_; ((repeat' (first | (with_reducible exact Below.refl _ _) | (with_reducible assumption) | (with_reducible refine below_drewN ?_ _) | (with_reducible refine Below.drew ?_) | (with_reducible refine below_new ?_ _) | (with_reducible refine below_next ?_ (by with_reducible assumption)) | (with_reducible refine Below.setCell ?_ ?_ _) | go_size)); done))) hm).mono ?_; rintro e w1 ⟨v, rfl, hN, hB⟩; obtain ⟨y, rfl, hy⟩ := newInts_in hN; clear hN; obtain ⟨hc, hf, hz⟩ := bcell hB; have q1 : ws.heap.size < w1.heap.size := hz _ (by first | omega | (simp; done) | (simp; omega)))
      | (go_at_call 55; refine (toInts_any _ _ _ _ (by first | with_reducible assumption | (refine intsIn_below (by with_reducible assumption) ?_; ((repeat' (first | (with_reducible exact Below.refl _ _) | (with_reducible assumption) | (with_reducible refine below_drewN ?_ _) | (with_reducible refine Below.drew ?_) | (with_reducible refine below_new ?_ _) | (with_reducible refine below_next ?_ (by with_reducible assumption)) | (with_reducible refine Below.setCell ?_ ?_ _) | go_size)); done))) hm).mono ?_; rintro e w1 ⟨v, rfl, hN, hB⟩; obtain ⟨y, rfl, hy⟩ := newInts_in hN; clear hN)
      | (go_at_call 54; refine (sMaskOf_t _ _ _ _ (by first | with_reducible assumption | (refine intsIn_below (by with_reducible assumption) ?_; ((repeat' (first | (with_reducible exact Below.refl _ _) | (with_reducible assumption) | (with_reducible refine below_drewN ?_ _) | (with_reducible refine Below.drew ?_) | (with_reducible refine below_new ?_ _) | (with_reducible refine below_next ?_ (by with_reducible assumption)) | (with_reducible refine Below.setCell ?_ ?_ _) | go_size)); done))) hm).mono ?_; rintro e ws ⟨rfl, hB⟩; obtain ⟨hc, hf, hz⟩ := bcell hB)
      | (go_at_call 25; refine (iMaskOf_t _ _ _ _ (by first | with_reducible assumption | (refine intsIn_below (by with_reducible assumption) ?_; ((repeat' (first | (with_reducible exact Below.refl _ _) | (with_reducible assumption) | (with_reducible refine below_drewN ?_ _) | (with_reducible refine Below.drew ?_) | (with_reducible refine below_new ?_ _) | (with_reducible refine below_next ?_ (by with_reducible assumption)) | (with_reducible refine Below.setCell ?_ ?_ _) | go_size)); done))) hm).mono ?_; rintro e wi ⟨rfl, hB⟩; obtain ⟨hc, hf, hz⟩ := bcell hB; have q2 : ws.heap.size < wi.heap.size := hz _ (by first | omega | (simp; done) | (simp; omega)))
      | (go_at_call 49; refine (eqMask_same _ _ _).mono ?_; rintro e w1 ⟨rfl, hB⟩)
      | (go_at_call 51; refine (eqInts_same _ _ _ _ _ _ (by first | with_reducible assumption | (refine intsIn_below (by with_reducible assumption) ?_; ((repeat' (first | (with_reducible exact Below.refl _ _) | (with_reducible assumption) | (with_reducible refine below_drewN ?_ _) | (with_reducible refine Below.drew ?_) | (with_reducible refine below_new ?_ _) | (with_reducible refine below_next ?_ (by with_reducible assumption)) | (with_reducible refine Below.setCell ?_ ?_ _) | go_size)); done))) (by first | with_reducible assumption | (refine intsIn_below (by with_reducible assumption) ?_; ((repeat' (first | (with_reducible exact Below.refl _ _) | (with_reducible assumption) | (with_reducible refine below_drewN ?_ _) | (with_reducible refine Below.drew ?_) | (with_reducible refine below_new ?_ _) | (with_reducible refine below_next ?_ (by with_reducible assumption)) | (with_reducible refine Below.setCell ?_ ?_ _) | go_size)); done))) hm).mono ?_; rintro e w1 ⟨rfl, hB⟩))
    all_goals go_returns
    all_goals exact ⟨rfl, (by repeat' (first | (with_reducible exact Below.refl _ _) | (with_reducible assumption) | (with_reducible refine below_drewN ?_ _) | (with_reducible refine Below.drew ?_) | (with_reducible refine below_new ?_ _) | (with_reducible refine below_next ?_ (by with_reducible assumption)) | (with_reducible refine Below.setCell ?_ ?_ _) | go_size))⟩
/-! ### The frame round the walk -/
section
set_option maxRecDepth 100000 in
theorem fnExactMaskOf_lifted (os : Os) (started : os.Started) (H : Type) (enc : TypeId × Value → H) :
    ReturnsInHanded {} Try.checked os 11 .any (Rows.fnExactMaskOfSpec.pre6 enc Try.prog Try.f11 Rows.fnExactMaskOfRow.domain false) (Rows.fnExactMaskOfSpec.post enc Try.prog Try.f11 false true false false) := by
  refine returnsInHanded_of_change_sized (C := Try.checked) own started (by kernel_rfl) Try.func11
    (ChangeSpec.witness6 (enc := enc) (C := Try.checked) false ⟨#[], #[.slice none 0 0], []⟩ 8 (by kernel_rfl) (by kernel_rfl) (by kernel_rfl) (by kernel_rfl)) ?_
  intro W base args ds gs before hval hW _ hsz _
  have hW' := hW
  obtain ⟨p, q, hA, hV, rfl, _, _⟩ := hW
  obtain ⟨rfl, rfl⟩ := trodVars_none hV
  have hlt : ∀ x ∈ p, x.block < W.heap.size := fun x hx => by simpa using hW'.lt x (by simpa using hx)
  rw [Try.params11] at hA hval hsz
  obtain ⟨v0, vs0, d0, ds0, p0, q0, hargs, rfl, rfl, h0, r0⟩ := trodAll_cons hA
  obtain ⟨rfl, rfl, rfl⟩ := trodAll_nil r0
  obtain rfl : args = #[v0] := by cases args; simp_all
  obtain ⟨a0, z0, c0, rfl, hz0⟩ := open_intS (e := 2) (by kernel_rfl) (by kernel_rfl) (by kernel_rfl) (hval 0 32 v0 rfl rfl) h0
  refine (fnExactMaskOf_walk a0 z0 c0 W hz0).mono fun e W' ⟨he, hb⟩ => ?_
  subst he
  exact ⟨_, rfl, law_post laidOut rfl Try.underlying4 (of_all (by kernel_rfl)) rfl hW' rfl rfl rfl hb⟩

theorem fnExactMaskOf_over : Rows.fnExactMaskOfRow.holds Try.pinned (OpenSpec.ofChange Rows.fnExactMaskOfSpec) :=
  OpenClaim.holds_of_wide 11 Try.f11 rfl rfl rfl rfl rfl rfl rfl ⟨rfl, rfl, rfl, rfl, rfl⟩ rfl rfl rfl rfl rfl (by kernel_rfl) Try.func11 (by kernel_rfl)
    (of_decide_eq_true (by kernel_rfl)) (by unfold Func.isWrapper; rw [if_neg (of_decide_eq_false (by kernel_rfl))]; exact ⟨rfl, rfl⟩)
    (fun os started H enc _ => fnExactMaskOf_lifted os started H enc)

/-- The statement. -/
theorem fnExactMaskOf_holds : Rows.FnExactMaskOfSaid := fnExactMaskOf_over
end
end Go.Proofs.Ytnooggjijomljaa
