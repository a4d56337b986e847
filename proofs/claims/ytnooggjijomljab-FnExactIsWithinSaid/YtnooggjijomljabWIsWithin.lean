/- IsWithin answers, for every two masks, as its model does. No conditions. -/
import Derived.Test.YtnooggjijomljabHole
namespace Go.Proofs.Ytnooggjijomljab
open Go.ChangeShapes Go.WideShapes Go.ChangeAt Go.RowKit

theorem within_less (a c : Int) (ha : U64 a) (hc : U64 c) : (bits .andNot .u64 a c == 0) = (bits .and .u64 a c == a) := by
  rw [Go.u64_andNot a c ha.1 ha.2 hc.1 hc.2, Go.u64_and a c ha.1 ha.2 hc.1 hc.2]
  obtain ⟨x, rfl⟩ := Int.eq_ofNat_of_zero_le ha.1
  obtain ⟨y, rfl⟩ := Int.eq_ofNat_of_zero_le hc.1
  simp only [Int.toNat_natCast]
  have hx : x < 2 ^ 64 := by have := ha.2; omega
  have hy : y < 2 ^ 64 := by have := hc.2; omega
  have e : (x &&& (18446744073709551615 - y)) = 0 ↔ x &&& y = x := by
    have hz : ∀ i, (18446744073709551615 - y).testBit i = (decide (i < 64) && !y.testBit i) := fun i => by
      rw [show 18446744073709551615 - y = 2 ^ 64 - (y + 1) from by omega, Nat.testBit_two_pow_sub_succ hy]
    constructor
    · intro h
      apply Nat.eq_of_testBit_eq
      intro i
      have := congrArg (fun n => n.testBit i) h
      simp only [Nat.testBit_and, hz, Nat.zero_testBit] at this
      rw [Nat.testBit_and]
      by_cases hi : i < 64
      · cases hxi : x.testBit i <;> cases hyi : y.testBit i <;> simp_all
      · have : x.testBit i = false := Nat.testBit_lt_two_pow (Nat.lt_of_lt_of_le hx (Nat.pow_le_pow_right (by decide) (by omega)))
        simp [this]
    · intro h
      apply Nat.eq_of_testBit_eq
      intro i
      have := congrArg (fun n => n.testBit i) h
      simp only [Nat.testBit_and, hz, Nat.zero_testBit] at *
      cases hxi : x.testBit i <;> cases hyi : y.testBit i <;> simp_all
  rw [Bool.eq_iff_iff]
  simp only [beq_iff_eq]
  constructor
  · intro h; exact congrArg (fun n : Nat => (n : Int)) (e.1 (by exact_mod_cast h))
  · intro h; exact congrArg (fun n : Nat => (n : Int)) (e.2 (by exact_mod_cast h))

set_option maxHeartbeats 1600000 in
theorem sIsWithin_any (a b c d : Int) (ha : U64 a) (hb : U64 b) (hc : U64 c) (hd : U64 d) (w : World) :
    Calls Try.prog 19 #[.agg #[.int .u64 a, .int .u64 b], .agg #[.int .u64 c, .int .u64 d]] w fun e w' => e = .returned (.bool (bits .and .u64 a c == a && bits .and .u64 b d == b)) ∧ Below w.heap.size w w' := by
  have he := eq_mask
  have h1 := Lib.hid (within_less a c ha hc)
  have h2 := Lib.hid (within_less b d hb hd)
  clear ha hb hc hd
  go_enter Try.func19, Try.ntmps19
  go_wp2_with (first
    | (go_at_call 49; refine (sLess_any _ _ _ _ _).mono ?_; rintro e w1 ⟨rfl, rfl⟩))
  all_goals go_returns
  all_goals refine ⟨?_, (by repeat' (first | (with_reducible exact Below.refl _ _) | (with_reducible assumption) | (with_reducible refine below_drewN ?_ _) | (with_reducible refine Below.drew ?_) | (with_reducible refine below_new ?_ _) | (with_reducible refine below_next ?_ (by with_reducible assumption)) | (with_reducible refine Below.setCell ?_ ?_ _) | go_size))⟩
  all_goals (rw [← h1.out, ← h2.out]; rfl)

set_option maxHeartbeats 3200000 in
theorem fnExactIsWithin_walk (a b : Int) (ha : U64 a) (hb : U64 b) (c d : Int) (hc : U64 c) (hd : U64 d) (w : World) :
    Calls Try.prog 4 #[.agg #[.int .u64 a, .int .u64 b], .agg #[.int .u64 c, .int .u64 d]] w fun e w' => e = .returned (.bool true) ∧ Below w.heap.size w w' := by
  have A := Lib.hid ha
  have B := Lib.hid hb
  have C := Lib.hid hc
  have D := Lib.hid hd
  clear ha hb hc hd
  go_enter Try.func4, Try.ntmps4
  go_wp2_with fail
  go_region_held3 (fun w' => w'.cell? ⟨w.heap.size, 0, none⟩ = some (.int .u64 a) ∧ w'.cell? ⟨w.heap.size, 1, none⟩ = some (.int .u64 b) ∧ w'.cell? ⟨w.heap.size + 1, 0, none⟩ = some (.int .u64 c) ∧ w'.cell? ⟨w.heap.size + 1, 1, none⟩ = some (.int .u64 d) ∧ w.heap.size + 2 ≤ w'.heap.size ∧ Below w.heap.size w w')
    (first | (go_split_ands; refine ⟨?_, ?_, ?_, ?_, ?_, ?_⟩ <;> first | with_reducible assumption | exact (hB.cell (by first | omega | (simp; done) | (simp; omega))).trans (by with_reducible assumption) | (rw [hB.cell (by first | omega | (simp; done) | (simp; omega))]; ((try simp only [World.cell?_drew, World.cell?_drewN]); (repeat (first | rw [World.cell?_alloc_past (hn := (by first | omega | (simp; done) | (simp; omega)))] | rw [World.cell?_setCell_far _ _ _ _ (by first | omega | (simp; done) | (simp; omega))])); first | with_reducible assumption | (simp; done) | (simp [go_sem]; done))) | ((try simp only [World.cell?_drew, World.cell?_drewN]); (repeat (first | rw [World.cell?_alloc_past (hn := (by first | omega | (simp; done) | (simp; omega)))] | rw [World.cell?_setCell_far _ _ _ _ (by first | omega | (simp; done) | (simp; omega))])); first | with_reducible assumption | (simp; done) | (simp [go_sem]; done)) | (have := hB.size; omega) | (have := hB.size; simp at this; omega) | (simp; omega) | ((repeat' (first | (with_reducible exact Below.refl _ _) | (with_reducible assumption) | (with_reducible refine below_drewN ?_ _) | (with_reducible refine Below.drew ?_) | (with_reducible refine below_new ?_ _) | (with_reducible refine below_next ?_ (by with_reducible assumption)) | (with_reducible refine Below.setCell ?_ ?_ _) | go_size)); done)))
    (first
      | (go_at_call 16; refine (toMask_any _ _ _).mono ?_; rintro e w1 ⟨rfl, rfl⟩)
      | (go_at_call 19; refine (sIsWithin_any _ _ _ _ A.out B.out C.out D.out _).mono ?_; rintro e w1 ⟨rfl, hB⟩)
      | (go_at_call 20; refine (iWithin_any _ _ _ _ _).mono ?_; rintro e w1 ⟨rfl, hB⟩))
  all_goals go_wp2_with fail
  all_goals go_split_ands
  go_region_held3 (fun w' => w'.cell? ⟨w.heap.size, 0, none⟩ = some (.int .u64 a) ∧ w'.cell? ⟨w.heap.size, 1, none⟩ = some (.int .u64 b) ∧ w'.cell? ⟨w.heap.size + 1, 0, none⟩ = some (.int .u64 c) ∧ w'.cell? ⟨w.heap.size + 1, 1, none⟩ = some (.int .u64 d) ∧ w.heap.size + 2 ≤ w'.heap.size ∧ Below w.heap.size w w')
    (first | (go_split_ands; refine ⟨?_, ?_, ?_, ?_, ?_, ?_⟩ <;> first | with_reducible assumption | exact (hB.cell (by first | omega | (simp; done) | (simp; omega))).trans (by with_reducible assumption) | (rw [hB.cell (by first | omega | (simp; done) | (simp; omega))]; ((try simp only [World.cell?_drew, World.cell?_drewN]); (repeat (first | rw [World.cell?_alloc_past (hn := (by first | omega | (simp; done) | (simp; omega)))] | rw [World.cell?_setCell_far _ _ _ _ (by first | omega | (simp; done) | (simp; omega))])); first | with_reducible assumption | (simp; done) | (simp [go_sem]; done))) | ((try simp only [World.cell?_drew, World.cell?_drewN]); (repeat (first | rw [World.cell?_alloc_past (hn := (by first | omega | (simp; done) | (simp; omega)))] | rw [World.cell?_setCell_far _ _ _ _ (by first | omega | (simp; done) | (simp; omega))])); first | with_reducible assumption | (simp; done) | (simp [go_sem]; done)) | (have := hB.size; omega) | (have := hB.size; simp at this; omega) | (simp; omega) | ((repeat' (first | (with_reducible exact Below.refl _ _) | (with_reducible assumption) | (with_reducible refine below_drewN ?_ _) | (with_reducible refine Below.drew ?_) | (with_reducible refine below_new ?_ _) | (with_reducible refine below_next ?_ (by with_reducible assumption)) | (with_reducible refine Below.setCell ?_ ?_ _) | go_size)); done)))
    (first
      | (go_at_call 16; refine (toMask_any _ _ _).mono ?_; rintro e w1 ⟨rfl, rfl⟩)
      | (go_at_call 19; refine (sIsWithin_any _ _ _ _ A.out B.out C.out D.out _).mono ?_; rintro e w1 ⟨rfl, hB⟩)
      | (go_at_call 20; refine (iWithin_any _ _ _ _ _).mono ?_; rintro e w1 ⟨rfl, hB⟩))
  all_goals go_wp2
  all_goals go_returns
  all_goals (go_split_ands; exact ⟨by simp, (by repeat' (first | (with_reducible exact Below.refl _ _) | (with_reducible assumption) | (with_reducible refine below_drewN ?_ _) | (with_reducible refine Below.drew ?_) | (with_reducible refine below_new ?_ _) | (with_reducible refine below_next ?_ (by with_reducible assumption)) | (with_reducible refine Below.setCell ?_ ?_ _) | go_size))⟩)

/-! ### The frame round the walk -/
section
set_option maxRecDepth 100000 in
theorem fnExactIsWithin_lifted (os : Os) (started : os.Started) (H : Type) (enc : TypeId × Value → H) :
    ReturnsInHanded {} Try.checked os 4 .any (Rows.fnExactIsWithinSpec.pre6 enc Try.prog Try.f4 Rows.fnExactIsWithinRow.domain false) (Rows.fnExactIsWithinSpec.post enc Try.prog Try.f4 false true false false) := by
  refine returnsInHanded_of_change_sized (C := Try.checked) own started (by kernel_rfl) Try.func4
    (ChangeSpec.witness6 (enc := enc) (C := Try.checked) false ⟨#[], #[.agg #[.int .u64 0, .int .u64 0], .agg #[.int .u64 0, .int .u64 0]], []⟩ 8 (by kernel_rfl) (by kernel_rfl) (by kernel_rfl) (by kernel_rfl)) ?_
  intro W base args ds gs before hval hW _ hsz _
  have hW' := hW
  obtain ⟨p, q, hA, hV, rfl, _, _⟩ := hW
  obtain ⟨rfl, rfl⟩ := trodVars_none hV
  have hlt : ∀ x ∈ p, x.block < W.heap.size := fun x hx => by simpa using hW'.lt x (by simpa using hx)
  rw [Try.params4] at hA hval hsz
  obtain ⟨v0, vs0, d0, ds0, p0, q0, hargs, rfl, rfl, h0, r0⟩ := trodAll_cons hA
  obtain ⟨v1, vs1, d1, ds1, p1, q1, rfl, rfl, rfl, h1, r1⟩ := trodAll_cons r0
  obtain ⟨rfl, rfl, rfl⟩ := trodAll_nil r1
  obtain rfl : args = #[v0, v1] := by cases args; simp_all
  obtain ⟨a0, b0, rfl, ha0, hb0⟩ := open_mask (e := 22) (by kernel_rfl) (by kernel_rfl) (by kernel_rfl) (by kernel_rfl) (hval 0 23 v0 rfl rfl)
  obtain ⟨a1, b1, rfl, ha1, hb1⟩ := open_mask (e := 22) (by kernel_rfl) (by kernel_rfl) (by kernel_rfl) (by kernel_rfl) (hval 1 23 v1 rfl rfl)
  refine (fnExactIsWithin_walk a0 b0 ha0 hb0 a1 b1 ha1 hb1 W).mono fun e W' ⟨he, hb⟩ => ?_
  subst he
  exact ⟨_, rfl, law_post laidOut rfl Try.underlying4 (of_all (by kernel_rfl)) rfl hW' rfl rfl rfl hb⟩

theorem fnExactIsWithin_over : Rows.fnExactIsWithinRow.holds Try.pinned (OpenSpec.ofChange Rows.fnExactIsWithinSpec) :=
  OpenClaim.holds_of_wide 4 Try.f4 rfl rfl rfl rfl rfl rfl rfl ⟨rfl, rfl, rfl, rfl, rfl⟩ rfl rfl rfl rfl rfl (by kernel_rfl) Try.func4 (by kernel_rfl)
    (of_decide_eq_true (by kernel_rfl)) (by unfold Func.isWrapper; rw [if_neg (of_decide_eq_false (by kernel_rfl))]; exact ⟨rfl, rfl⟩)
    (fun os started H enc _ => fnExactIsWithin_lifted os started H enc)

/-- The statement. -/
theorem fnExactIsWithin_holds : Rows.FnExactIsWithinSaid := fnExactIsWithin_over
end
end Go.Proofs.Ytnooggjijomljab
