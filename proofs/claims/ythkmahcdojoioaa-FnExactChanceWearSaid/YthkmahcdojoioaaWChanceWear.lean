/- ChanceWear answers, for every card, every seed and all chances, as its model does. No conditions. -/
import Derived.Test.YthkmahcdojoioaaChanceS
import Derived.Test.YthkmahcdojoioaaDeck2
namespace Go.Proofs.Ythkmahcdojoioaa
open Go.ChangeShapes Go.WideShapes Go.ChangeAt Go.RowKit

theorem open_u32 {P : Program} {w : World} {r : Reach} {base : Nat} {t : TypeId} {v : Value} (hu : P.underlying t = some (.int .u32)) (h : Value.okWide P w r base t v) : ∃ n : Int, v = .int .u32 n ∧ (0 ≤ n ∧ n < 4294967296) := by
  unfold Value.okWide at h
  rw [hu] at h
  obtain ⟨n, rfl, h1, h2⟩ := cell_int hu h
  simp [IntKind.min, IntKind.max, IntKind.signed, IntKind.bits] at h1 h2
  exact ⟨n, rfl, ⟨by omega, by omega⟩⟩

/-- Two new boxes. -/
theorem two_new {W v : World} {C D : Array Value} {t u : TypeId} (hv : v = (W.alloc (.cells C t)).alloc (.cells D u)) :
    v.heap[W.heap.size]? = some (.cells C t (0, 0)) ∧ v.heap[W.heap.size + 1]? = some (.cells D u (0, 0)) ∧ Ab W v := by
  subst hv
  have hb := block_alloc2 W (.cells C t) (.cells D u)
  exact ⟨hb.1, hb.2, below_new (below_new (Below.refl _ _) _) _⟩

/-- Both ways give one card. -/
theorem ch_same (_s : ByteArray) {a b : Int} (ha : U64 a) (hb : U64 b) (torn filled sd : Int) :
    bits .or .u64 (bits .andNot .u64 a ((cw a b torn filled sd 96).f0 : Int)) ((cw a b torn filled sd 96).t0 : Int) = bits .andNot .u64 (bits .or .u64 a ((cw a b torn filled sd 96).t0 : Int)) ((cw a b torn filled sd 96).f0 : Int) ∧
    bits .or .u64 (bits .andNot .u64 b ((cw a b torn filled sd 96).f1 : Int)) ((cw a b torn filled sd 96).t1 : Int) = bits .andNot .u64 (bits .or .u64 b ((cw a b torn filled sd 96).t1 : Int)) ((cw a b torn filled sd 96).f1 : Int) := by
  have f := cw_fits a b torn filled sd 96 (Nat.le_refl _)
  have u : ∀ n : Nat, n < 2 ^ 64 → U64 (n : Int) := fun n h => ⟨by omega, by omega⟩
  refine ⟨wear_on ha (u _ f.f0) (u _ f.t0) ?_, wear_on hb (u _ f.f1) (u _ f.t1) ?_⟩
  · rw [Go.u64_and_nat _ _ f.t0 f.f0, f.d0]; rfl
  · rw [Go.u64_and_nat _ _ f.t1 f.f1, f.d1]; rfl

set_option maxHeartbeats 1600000 in
theorem fnExactChanceWear_walk (s : ByteArray) (a b : Int) (hs : s.size ≤ maxLen) (ha : U64 a) (hb : U64 b) (sd : Int) (hsd : 0 ≤ sd ∧ sd < 4294967296) (torn : Int) (_ht : I64 torn) (filled : Int) (_hf : I64 filled) (w : World) :
    Calls Try.prog 9 #[.agg #[.string s, .int .u64 a, .int .u64 b], .int .u32 sd, .int .i64 torn, .int .i64 filled] w fun e w' => e = .returned (.bool true) ∧ Below w.heap.size w w' := by
  clear _ht _hf
  obtain ⟨R, hI, hS⟩ : ∃ R : Value, (∃ (r : ByteArray) (x' y' a' b' c' d' z' k : Int), R = .tuple #[.agg #[.string r, .int .u64 x', .int .u64 y'], .agg #[.int .u64 a', .int .u64 b', .int .u64 c', .int .u64 d'], .int .u32 z', .int .i64 k]) ∧
      (∀ W : World, (Calls Try.prog 32 #[.agg #[.string s, .int .u64 a, .int .u64 b], .int .u32 sd, .int .i64 torn, .int .i64 filled] W fun e w' => e = .returned R ∧ Below W.heap.size W w') ∧
        (Calls Try.prog 31 #[.agg #[.string s, .int .u64 a, .int .u64 b], .int .u32 sd, .int .i64 torn, .int .i64 filled] W fun e w' => e = .returned R ∧ Below W.heap.size W w')) := by
    cases hk : (cardOk s b && (chOk torn && chOk filled))
    · exact ⟨_, chR_parts _ _ _ _ _ _ _ _ _, fun W => ⟨iChance_bad s a b hs sd torn filled 0 0 0 0 0 0 0 hk W, sChance_bad s a b hs sd torn filled 0 0 0 0 0 0 0 hk W⟩⟩
    · simp only [Bool.and_eq_true] at hk
      obtain ⟨k1, k2, k3⟩ := hk
      have e := ch_same s ha hb torn filled sd
      refine ⟨_, chR_parts _ _ _ _ _ _ _ _ _, fun W => ⟨?_, sChance_good s a b hs ha hb sd hsd.1 hsd.2 torn filled k1 k2 k3 W⟩⟩
      rw [← e.1, ← e.2]
      exact iChance_good s a b hs ha hb sd hsd.1 hsd.2 torn filled k1 k2 k3 W
  obtain ⟨r, x', y', a', b', c', d', z', k, rfl⟩ := hI
  have I := Lib.hid fun W => (hS W).1
  have S := Lib.hid fun W => (hS W).2
  have Z1 := Lib.hid fun W => szCard_any s a b 1048576 hs (by decide) (by decide) W
  have HB := Lib.hid (block_alloc w (.cells #[.string s, .int .u64 a, .int .u64 b] 33))
  have BB := Lib.hid (below_new (Below.refl w.heap.size w) (.cells #[.string s, .int .u64 a, .int .u64 b] 33))
  clear hS hs ha hb hsd
  have nz : (z' != z') = false := by simp
  have nk : (k != k) = false := by simp
  by_cases h1 : szc 1048576 s.size < 0
  · have d1 : decide (szc 1048576 s.size < 0) = true := decide_eq_true h1
    clear I S h1
    go_enter Try.func9, Try.ntmps9
    go_wp2_with (go_at_call 16; refine (Z1.out _).mono ?_; rintro e v1 ⟨rfl, hB⟩; have k1 := Lib.hid (BB.out.trans (Below.mono hB BB.out.size)); clear hB)
    go_returns
    exact ⟨rfl, k1.out⟩
  have d1 : decide (szc 1048576 s.size < 0) = false := decide_eq_false h1
  clear h1
  generalize szc 1048576 s.size = zz at *
  go_enter Try.func9, Try.ntmps9
  go_upto_region 6 with (first
    | (go_at_call 16; refine (Z1.out _).mono ?_; rintro e v1 ⟨rfl, hB⟩; have k1 := Lib.hid (BB.out.trans (Below.mono hB BB.out.size)); have b1 := Lib.hid (Ab.block hB HB.out); have c0 := cell_of_block b1.out; clear hB)
    | (go_at_call 18; refine (toCard_b _ _ _ _).mono ?_; rintro e v2 ⟨rfl, hB⟩; have k2 := Lib.hid (k1.out.trans (Below.mono hB k1.out.size)); have b2 := Lib.hid (Ab.block hB b1.out); clear hB)
    | (go_at_call 31; refine (S.out _).mono ?_; rintro e v3 ⟨rfl, hB⟩; have k3 := Lib.hid (k2.out.trans (Below.mono hB k2.out.size)); have b3 := Lib.hid (Ab.block hB b2.out); clear hB c0))
  generalize hv5 : World.alloc _ _ = v5
  obtain ⟨r0, r1, r2⟩ := two_new hv5.symm
  have m0 := Lib.hid r0
  have m1 := Lib.hid r1
  have k5 := Lib.hid (k3.out.trans (Below.mono r2 k3.out.size))
  have b5 := Lib.hid (Ab.block r2 b3.out)
  clear hv5 r0 r1 r2
  have c0 := cell_of_block b5.out
  generalize v3.heap.size = g0 at *
  go_upto_region 7 with (first
    | (go_at_call 18; refine (toCard_b _ _ _ _).mono ?_; rintro e v6 ⟨rfl, hB⟩; have k6 := Lib.hid (k5.out.trans (Below.mono hB k5.out.size)); have p0 := Lib.hid (Ab.block hB m0.out); have p1 := Lib.hid (Ab.block hB m1.out); clear hB)
    | (go_at_call 32; refine (I.out _).mono ?_; rintro e v7 ⟨rfl, hB⟩; have k7 := Lib.hid (k6.out.trans (Below.mono hB k6.out.size)); have q0 := Lib.hid (Ab.block hB p0.out); have q1 := Lib.hid (Ab.block hB p1.out); clear hB c0))
  generalize hv8 : World.alloc _ _ = v8
  obtain ⟨r0, r1, r2⟩ := two_new hv8.symm
  have k8 := Lib.hid (k7.out.trans (Below.mono r2 k7.out.size))
  have l0 := Ab.block r2 q0.out
  have l1 := Ab.block r2 q1.out
  have r0' := Lib.hid r0
  have r1' := Lib.hid r1
  have l0' := Lib.hid l0
  have l1' := Lib.hid l1
  clear hv8 r2
  have c0 := cell_of_block r0
  have c1 := cell_of_block r1
  have c2 := cell_of_block l0
  have c3 := cell_of_block l1
  have z0 := lt_of_block r0
  have z1 := lt_of_block r1
  have z2 := lt_of_block l0
  have z3 := lt_of_block l1
  generalize v7.heap.size = g1 at *
  clear r0 r1 l0 l1
  go_wp2_with (first
    | (go_at_call 20; refine (eqCard_same _ _ _ _).mono ?_; rintro e v9 ⟨rfl, hB⟩; have k9 := Lib.hid (k8.out.trans (Below.mono hB k8.out.size)); clear c0 c1 c2 c3 z0 z1 z2 z3; have c1 := cell_of_block (Ab.block hB r1'.out); have c3 := cell_of_block (Ab.block hB l1'.out); have z1 := lt_of_block (Ab.block hB r1'.out); have z3 := lt_of_block (Ab.block hB l1'.out); clear hB)
    | (go_at_call 24; refine (eqWear_same _ _ _ _ _).mono ?_; rintro e v10 ⟨rfl, hB⟩; have k10 := Lib.hid (k9.out.trans (Below.mono hB k9.out.size)); clear hB))
  all_goals go_returns
  all_goals exact ⟨rfl, k10.out⟩
/-! ### The frame round the walk -/
section
set_option maxRecDepth 100000 in
theorem fnExactChanceWear_lifted (os : Os) (started : os.Started) (H : Type) (enc : TypeId × Value → H) :
    ReturnsInHanded {} Try.checked os 9 .any (Rows.fnExactChanceWearSpec.pre6 enc Try.prog Try.f9 Rows.fnExactChanceWearRow.domain false) (Rows.fnExactChanceWearSpec.post enc Try.prog Try.f9 false true false false) := by
  refine returnsInHanded_of_change_sized (C := Try.checked) own started (by kernel_rfl) Try.func9
    (ChangeSpec.witness6 (enc := enc) (C := Try.checked) false ⟨#[], #[.agg #[.string ByteArray.empty, .int .u64 0, .int .u64 0], .int .u32 0, .int .i64 0, .int .i64 0], []⟩ 8 (by kernel_rfl) (by kernel_rfl) (by kernel_rfl) (by kernel_rfl)) ?_
  intro W base args ds gs before hval hW _ hsz _
  have hW' := hW
  obtain ⟨p, q, hA, hV, rfl, _, _⟩ := hW
  obtain ⟨rfl, rfl⟩ := trodVars_none hV
  have hlt : ∀ x ∈ p, x.block < W.heap.size := fun x hx => by simpa using hW'.lt x (by simpa using hx)
  rw [Try.params9] at hA hval hsz
  obtain ⟨v0, vs0, d0, ds0, p0, q0, hargs, rfl, rfl, h0, r0⟩ := trodAll_cons hA
  obtain ⟨v1, vs1, d1, ds1, p1, q1, rfl, rfl, rfl, h1, r1⟩ := trodAll_cons r0
  obtain ⟨v2, vs2, d2, ds2, p2, q2, rfl, rfl, rfl, h2, r2⟩ := trodAll_cons r1
  obtain ⟨v3, vs3, d3, ds3, p3, q3, rfl, rfl, rfl, h3, r3⟩ := trodAll_cons r2
  obtain ⟨rfl, rfl, rfl⟩ := trodAll_nil r3
  obtain rfl : args = #[v0, v1, v2, v3] := by cases args; simp_all
  obtain ⟨s0, a0, b0, rfl, hs0, ha0, hb0⟩ := open_card (s := 9) (e := 22) Try.underlying33 (by kernel_rfl) (by kernel_rfl) (by kernel_rfl) (by kernel_rfl) (hval 0 33 v0 rfl rfl)
  obtain ⟨n1, rfl, hn1⟩ := open_u32 (by kernel_rfl) (hval 1 52 v1 rfl rfl)
  obtain ⟨n2, rfl, hn2⟩ := open_i64 (by kernel_rfl) (hval 2 2 v2 rfl rfl)
  obtain ⟨n3, rfl, hn3⟩ := open_i64 (by kernel_rfl) (hval 3 2 v3 rfl rfl)
  refine (fnExactChanceWear_walk s0 a0 b0 hs0 ha0 hb0 n1 hn1 n2 hn2 n3 hn3 W).mono fun e W' ⟨he, hb⟩ => ?_
  subst he
  exact ⟨_, rfl, law_post laidOut rfl Try.underlying4 (of_all (by kernel_rfl)) rfl hW' rfl rfl rfl hb⟩

theorem fnExactChanceWear_over : Rows.fnExactChanceWearRow.holds Try.pinned (OpenSpec.ofChange Rows.fnExactChanceWearSpec) :=
  OpenClaim.holds_of_wide 9 Try.f9 rfl rfl rfl rfl rfl rfl rfl ⟨rfl, rfl, rfl, rfl, rfl⟩ rfl rfl rfl rfl rfl (by kernel_rfl) Try.func9 (by kernel_rfl)
    (of_decide_eq_true (by kernel_rfl)) (by unfold Func.isWrapper; rw [if_neg (of_decide_eq_false (by kernel_rfl))]; exact ⟨rfl, rfl⟩)
    (fun os started H enc _ => fnExactChanceWear_lifted os started H enc)

/-- The statement. -/
theorem fnExactChanceWear_holds : Rows.FnExactChanceWearSaid := fnExactChanceWear_over
end
end Go.Proofs.Ythkmahcdojoioaa
