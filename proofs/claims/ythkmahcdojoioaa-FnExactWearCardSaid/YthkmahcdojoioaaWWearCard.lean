/- WearCard answers, for every card and all wear, as its model does. No conditions. -/
import Derived.Test.YthkmahcdojoioaaWear2
import Derived.Test.YthkmahcdojoioaaWorn
import Derived.Test.YthkmahcdojoioaaDeck2
import Derived.Test.YthkmahcdojoioaaFloat
import Derived.Deep.DeepCutAuto
namespace Go.Proofs.Ythkmahcdojoioaa
open Go.ChangeShapes Go.WideShapes Go.ChangeAt Go.RowKit


/-- Valid wear: the order in which it tears and fills does not matter. -/
theorem wc_same (s : ByteArray) {m n a b c d : Int} (hm : U64 m) (hn : U64 n) (ha : U64 a) (hb : U64 b) (hc : U64 c) (hd : U64 d) :
    wcR (cardOk s n && qOk a b c d) s (bits .or .u64 (bits .andNot .u64 m c) a) (bits .or .u64 (bits .andNot .u64 n d) b) = wcR (cardOk s n && qOk a b c d) s (bits .andNot .u64 (bits .or .u64 m a) c) (bits .andNot .u64 (bits .or .u64 n b) d) := by
  cases h : qOk a b c d
  · rw [Bool.and_false]; rfl
  · unfold qOk meetZ at h
    simp only [Bool.and_eq_true, beq_iff_eq] at h
    rw [wear_on hm hc ha h.2.1, wear_on hn hd hb h.2.2]

set_option maxHeartbeats 1600000 in
theorem fnExactWearCard_walk (s : ByteArray) (m n : Int) (hs : s.size ≤ maxLen) (_hm : U64 m) (_hn : U64 n) (a b c d : Int) (_ha : U64 a) (_hb : U64 b) (_hc : U64 c) (_hd : U64 d) (w : World) :
    Calls Try.prog 4 #[.agg #[.string s, .int .u64 m, .int .u64 n], .agg #[.int .u64 a, .int .u64 b, .int .u64 c, .int .u64 d]] w fun e w' => e = .returned (.bool true) ∧ Below w.heap.size w w' := by
  have I := Lib.hid fun W => iWearCard_any s m n hs a b c d W
  have S := Lib.hid fun W => sWearCard_any s m n hs a b c d W
  rw [wc_same s _hm _hn _ha _hb _hc _hd] at I
  obtain ⟨r, x, y, q, hx⟩ := wcR_parts (cardOk s n && qOk a b c d) s (bits .andNot .u64 (bits .or .u64 m a) c) (bits .andNot .u64 (bits .or .u64 n b) d)
  rw [hx] at I S
  have Z1 := Lib.hid fun W => szCard_any s m n 1048576 hs (by decide) (by decide) W
  have HB := Lib.hid (block_alloc2 w (.cells #[.string s, .int .u64 m, .int .u64 n] 33) (.cells #[.int .u64 a, .int .u64 b, .int .u64 c, .int .u64 d] 25))
  clear hx _hm _hn _ha _hb _hc _hd hs
  by_cases h1 : szc 1048576 s.size < 0
  · have d1 : decide (szc 1048576 s.size < 0) = true := decide_eq_true h1
    clear I S h1
    go_enter Try.func4, Try.ntmps4
    go_wp2_with (go_at_call 16; refine (Z1.out _).mono ?_; rintro e V ⟨rfl, hB⟩; have hb0 := Ab.block hB HB.out.1; have hb1 := Ab.block hB HB.out.2; have hVw : Below w.heap.size w V := (below_new (below_new (Below.refl _ _) _) _).trans (Below.mono hB (by simp <;> omega)))
    go_returns
    exact ⟨rfl, hVw⟩
  have d1 : decide (szc 1048576 s.size < 0) = false := decide_eq_false h1
  clear h1
  have hbw := cell_bw
  go_enter Try.func4, Try.ntmps4
  go_upto_region 5 with (go_at_call 16; refine (Z1.out _).mono ?_; rintro e V ⟨rfl, hB⟩; have hb0 := Ab.block hB HB.out.1; have hb1 := Ab.block hB HB.out.2; have hVw : Below w.heap.size w V := (below_new (below_new (Below.refl _ _) _) _).trans (Below.mono hB (by simp <;> omega)))
  have hVz : w.heap.size + 2 ≤ V.heap.size := by have := lt_of_block hb1; omega
  clear hB
  refine wp_region_at 8 0 (.cells #[.string ByteArray.empty, .int .u64 0, .int .u64 0] 36) (.cells #[.string r, .int .u64 x, .int .u64 y] 36) (by kernel_rfl) rfl rfl rfl (by kernel_rfl) rfl rfl (fun _ _ => by kernel_rfl) ?_
  simp only [Nat.reduceAdd, List.take_succ_cons, List.take_zero, List.drop_succ_cons, List.drop_zero]
  intro w1 h1
  have e0 := cell_of_block (h1.block hb0)
  have z0 : w.heap.size < w1.heap.size := lt_of_block (h1.block hb0)
  have e1 := cell_of_block (h1.block hb1)
  have z1 : w.heap.size + 1 < w1.heap.size := lt_of_block (h1.block hb1)
  repeat (go_big_quiet_step (first | (go_at_call 18; exact calls_bw (toCard_b _ _ _ _)) | (go_at_call 14; exact calls_bw (toWear_any _ _ _ _ _)) | (go_at_call 17; exact calls_bw (S.out _))))
  refine wpQuiet_nil ?_
  intro b hb w2 h2
  refine wpQuiet_nil ?_
  refine ⟨?_, ?_⟩
  · intro w3 h3 hb3
    have f0 := cell_of_block hb3
    have f1 := free_of_block hb3
    go_simp
    exact ⟨(((h3.setCell _ hb).setCell _ hb).setCell _ hb), (block_setCell _ (block_setCell _ (block_setCell _ hb3)))⟩
  intro w5 h5
  simp only [Act.put, List.setIfInBounds_toArray, List.set_cons_succ, List.set_cons_zero]
  repeat (go_big_quiet_step (fail))
  refine wpQuiet_nil ?_
  intro w6 h6 hb6
  replace hVw : Below w.heap.size w w6 := hVw.trans (Below.mono h6 (by omega))
  replace hb0 := h6.block hb0
  replace hb1 := h6.block hb1
  have hbz : w.heap.size + 2 ≤ b := by omega
  clear h1 e0 z0 e1 z1 h2 h5 h6 hb hVz
  clear w5 w2 w1
  go_upto_region 6 with fail
  refine wp_region_at 8 0 (.cells #[.string ByteArray.empty, .int .u64 0, .int .u64 0] 36) (.cells #[.string r, .int .u64 x, .int .u64 y] 36) (by kernel_rfl) rfl rfl rfl (by kernel_rfl) rfl rfl (fun _ _ => by kernel_rfl) ?_
  simp only [Nat.reduceAdd, List.take_succ_cons, List.take_zero, List.drop_succ_cons, List.drop_zero]
  intro w1 h1
  have e0 := cell_of_block (h1.block hb0)
  have z0 : w.heap.size < w1.heap.size := lt_of_block (h1.block hb0)
  have e1 := cell_of_block (h1.block hb1)
  have z1 : w.heap.size + 1 < w1.heap.size := lt_of_block (h1.block hb1)
  repeat (go_big_quiet_step (first | (go_at_call 18; exact calls_bw (toCard_b _ _ _ _)) | (go_at_call 14; exact calls_bw (toWear_any _ _ _ _ _)) | (go_at_call 19; exact calls_bw (I.out _))))
  refine wpQuiet_nil ?_
  intro c hc w2 h2
  refine wpQuiet_nil ?_
  refine ⟨?_, ?_⟩
  · intro w3 h3 hb3
    have f0 := cell_of_block hb3
    have f1 := free_of_block hb3
    go_simp
    exact ⟨(((h3.setCell _ hc).setCell _ hc).setCell _ hc), (block_setCell _ (block_setCell _ (block_setCell _ hb3)))⟩
  intro w5 h5
  simp only [Act.put, List.setIfInBounds_toArray, List.set_cons_succ, List.set_cons_zero]
  repeat (go_big_quiet_step (fail))
  refine wpQuiet_nil ?_
  intro w7 h7 hb7
  replace hVw : Below w.heap.size w w7 := hVw.trans (Below.mono h7 hVw.size)
  replace hb6 := h7.block hb6
  clear h1 e0 z0 e1 z1 h2 h5 h7 hc hb0 hb1 hbw
  clear w5 w2 w1
  have e0 := cell_of_block hb6
  have e1 := cell_of_block hb7
  have z0 := lt_of_block hb6
  have z1 := lt_of_block hb7
  have hz := hVw.size
  go_wp2_with (go_at_call 20; refine (eqCard_same _ _ _ _).mono ?_; rintro e w8 ⟨rfl, hB⟩)
  go_returns
  exact ⟨rfl, hVw.trans (Below.mono hB hz)⟩
/-! ### The frame round the walk -/
section
set_option maxRecDepth 100000 in
theorem fnExactWearCard_lifted (os : Os) (started : os.Started) (H : Type) (enc : TypeId × Value → H) :
    ReturnsInHanded {} Try.checked os 4 .any (Rows.fnExactWearCardSpec.pre6 enc Try.prog Try.f4 Rows.fnExactWearCardRow.domain false) (Rows.fnExactWearCardSpec.post enc Try.prog Try.f4 false true false false) := by
  refine returnsInHanded_of_change_sized (C := Try.checked) own started (by kernel_rfl) Try.func4
    (ChangeSpec.witness6 (enc := enc) (C := Try.checked) false ⟨#[], #[.agg #[.string ByteArray.empty, .int .u64 0, .int .u64 0], .agg #[.int .u64 0, .int .u64 0, .int .u64 0, .int .u64 0]], []⟩ 8 (by kernel_rfl) (by kernel_rfl) (by kernel_rfl) (by kernel_rfl)) ?_
  intro W base args ds gs before hval hW _ hsz _
  have hW' := hW
  obtain ⟨p, q, hA, hV, rfl, _, _⟩ := hW
  obtain ⟨rfl, rfl⟩ := trodVars_none hV
  have hlt : ∀ x ∈ p, x.block < W.heap.size := fun x hx => by simpa using hW'.lt x (by simpa using hx)
  rw [Try.params4] at hA hval hsz
  obtain ⟨v0, vs0, d0, ds0, p0, q0, hargs, rfl, rfl, h0, r0⟩ := trodAll_cons hA
  obtain ⟨v1, vs1, d1, ds1, p1, q1, rfl, rfl, rfl, h1, r1⟩ := trodAll_cons r0
  obtain ⟨rfl, rfl, rfl⟩ := trodAll_nil r1
  obtain rfl : args = #[v0, v1] := by cases args; simp_all
  obtain ⟨s0, a0, b0, rfl, hs0, ha0, hb0⟩ := open_card (s := 9) (e := 22) Try.underlying33 (by kernel_rfl) (by kernel_rfl) (by kernel_rfl) (by kernel_rfl) (hval 0 33 v0 rfl rfl)
  obtain ⟨a1, b1, c1, d1, rfl, ha1, hb1, hc1, hd1⟩ := open_query (e := 22) Try.underlying25 (by kernel_rfl) (by kernel_rfl) (by kernel_rfl) (hval 1 25 v1 rfl rfl)
  refine (fnExactWearCard_walk s0 a0 b0 hs0 ha0 hb0 a1 b1 c1 d1 ha1 hb1 hc1 hd1 W).mono fun e W' ⟨he, hb⟩ => ?_
  subst he
  exact ⟨_, rfl, law_post laidOut rfl Try.underlying4 (of_all (by kernel_rfl)) rfl hW' rfl rfl rfl hb⟩

theorem fnExactWearCard_over : Rows.fnExactWearCardRow.holds Try.pinned (OpenSpec.ofChange Rows.fnExactWearCardSpec) :=
  OpenClaim.holds_of_wide 4 Try.f4 rfl rfl rfl rfl rfl rfl rfl ⟨rfl, rfl, rfl, rfl, rfl⟩ rfl rfl rfl rfl rfl (by kernel_rfl) Try.func4 (by kernel_rfl)
    (of_decide_eq_true (by kernel_rfl)) (by unfold Func.isWrapper; rw [if_neg (of_decide_eq_false (by kernel_rfl))]; exact ⟨rfl, rfl⟩)
    (fun os started H enc _ => fnExactWearCard_lifted os started H enc)

/-- The statement. -/
theorem fnExactWearCard_holds : Rows.FnExactWearCardSaid := fnExactWearCard_over
end
end Go.Proofs.Ythkmahcdojoioaa
