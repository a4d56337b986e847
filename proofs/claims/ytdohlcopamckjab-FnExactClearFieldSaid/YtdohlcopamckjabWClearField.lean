/- ClearField answers, for every card and every field, as its model does. No conditions. -/
import Derived.Test.YtdohlcopamckjabClear
import Derived.Test.YtdohlcopamckjabBase
import Derived.Test.YtdohlcopamckjabFloat
import Derived.Deep.DeepCutAuto
namespace Go.Proofs.Ytdohlcopamckjab
open Go.ChangeShapes Go.WideShapes Go.ChangeAt Go.RowKit


set_option maxHeartbeats 800000 in
theorem toCard_b (s : ByteArray) (a b : Int) (w : World) :
    Calls Try.prog 18 #[.agg #[.string s, .int .u64 a, .int .u64 b]] w fun e w' => e = .returned (.agg #[.string s, .int .u64 a, .int .u64 b]) ∧ Below w.heap.size w w' := by
  go_enter Try.func18, Try.ntmps18
  go_wp2_with (go_at_call 63; refine (toMask_any _ _ _).mono ?_; rintro e w1 ⟨rfl, rfl⟩)
  go_returns
  exact ⟨rfl, (by repeat' (first | (with_reducible exact Below.refl _ _) | (with_reducible assumption) | (with_reducible refine below_drewN ?_ _) | (with_reducible refine Below.drew ?_) | (with_reducible refine below_new ?_ _) | (with_reducible refine below_next ?_ (by with_reducible assumption)) | (with_reducible refine Below.setCell ?_ ?_ _) | go_size))⟩

set_option maxHeartbeats 800000 in
theorem eqCard_same (s : ByteArray) (a b : Int) (w : World) :
    Calls Try.prog 21 #[.agg #[.string s, .int .u64 a, .int .u64 b], .agg #[.string s, .int .u64 a, .int .u64 b]] w fun e w' => e = .returned (.bool true) ∧ Below w.heap.size w w' := by
  go_enter Try.func21, Try.ntmps21
  go_wp2_with (go_at_call 68; refine (eqMask_same _ _ _).mono ?_; rintro e w1 ⟨rfl, hB⟩; obtain ⟨hc, hf, hz⟩ := bcell hB)
  all_goals go_returns
  all_goals exact ⟨rfl, (by repeat' (first | (with_reducible exact Below.refl _ _) | (with_reducible assumption) | (with_reducible refine below_drewN ?_ _) | (with_reducible refine Below.drew ?_) | (with_reducible refine below_new ?_ _) | (with_reducible refine below_next ?_ (by with_reducible assumption)) | (with_reducible refine Below.setCell ?_ ?_ _) | go_size))⟩

theorem toField_b (s : ByteArray) (k st sz : Int) (w : World) : Calls Try.prog 19 #[.agg #[.string s, .int .i8 k, .int .i16 st, .int .i16 sz]] w fun e w' => e = .returned (.agg #[.string s, .int .i8 k, .int .i16 st, .int .i16 sz]) ∧ Below w.heap.size w w' := by
  go_enter Try.func19, Try.ntmps19
  go_wp2
  go_returns
  exact ⟨rfl, (by repeat' (first | (with_reducible exact Below.refl _ _) | (with_reducible assumption) | (with_reducible refine below_drewN ?_ _) | (with_reducible refine Below.drew ?_) | (with_reducible refine below_new ?_ _) | (with_reducible refine below_next ?_ (by with_reducible assumption)) | (with_reducible refine Below.setCell ?_ ?_ _) | go_size))⟩

def szc (l : Int) (n : Nat) : Int := if l - (n : Int) < 0 then -1 else l - (n : Int)
theorem szc_no {l : Int} {n : Nat} (h : l - (n : Int) < 0) : szc l n = -1 := by unfold szc; rw [if_pos h]
theorem szc_yes {l : Int} {n : Nat} (h : ¬ l - (n : Int) < 0) : szc l n = l - (n : Int) := by unfold szc; rw [if_neg h]

set_option maxHeartbeats 800000 in
theorem szCard_any (s : ByteArray) (a b l : Int) (hs : s.size ≤ maxLen) (l0 : 0 ≤ l) (l1 : l ≤ 1048576) (w : World) :
    Calls Try.prog 15 #[.agg #[.string s, .int .u64 a, .int .u64 b], .int .i64 l] w fun e w' => e = .returned (.int .i64 (szc l s.size)) ∧ Below w.heap.size w w' := by
  unfold maxLen at hs
  have d1 : IntKind.i64.wrap (l - (s.size : Int)) = l - (s.size : Int) := IntWalk.i64_in _ (by omega)
  by_cases h : l - (s.size : Int) < 0
  · have d2 : decide (l - (s.size : Int) < 0) = true := by simp; omega
    rw [szc_no h]
    go_enter Try.func15, Try.ntmps15
    go_wp2
    go_returns
    exact ⟨rfl, (by repeat' (first | (with_reducible exact Below.refl _ _) | (with_reducible assumption) | (with_reducible refine below_drewN ?_ _) | (with_reducible refine Below.drew ?_) | (with_reducible refine below_new ?_ _) | (with_reducible refine below_next ?_ (by with_reducible assumption)) | (with_reducible refine Below.setCell ?_ ?_ _) | go_size))⟩
  · have d2 : decide (l - (s.size : Int) < 0) = false := by simp; omega
    rw [szc_yes h]
    go_enter Try.func15, Try.ntmps15
    go_wp2
    go_returns
    exact ⟨rfl, (by repeat' (first | (with_reducible exact Below.refl _ _) | (with_reducible assumption) | (with_reducible refine below_drewN ?_ _) | (with_reducible refine Below.drew ?_) | (with_reducible refine below_new ?_ _) | (with_reducible refine below_next ?_ (by with_reducible assumption)) | (with_reducible refine Below.setCell ?_ ?_ _) | go_size))⟩

set_option maxHeartbeats 800000 in
theorem szField_any (s : ByteArray) (k st sz l : Int) (hs : s.size ≤ maxLen) (l0 : 0 ≤ l) (l1 : l ≤ 1048576) (w : World) :
    Calls Try.prog 16 #[.agg #[.string s, .int .i8 k, .int .i16 st, .int .i16 sz], .int .i64 l] w fun e w' => e = .returned (.int .i64 (szc l s.size)) ∧ Below w.heap.size w w' := by
  unfold maxLen at hs
  have d1 : IntKind.i64.wrap (l - (s.size : Int)) = l - (s.size : Int) := IntWalk.i64_in _ (by omega)
  by_cases h : l - (s.size : Int) < 0
  · have d2 : decide (l - (s.size : Int) < 0) = true := by simp; omega
    rw [szc_no h]
    go_enter Try.func16, Try.ntmps16
    go_wp2
    go_returns
    exact ⟨rfl, (by repeat' (first | (with_reducible exact Below.refl _ _) | (with_reducible assumption) | (with_reducible refine below_drewN ?_ _) | (with_reducible refine Below.drew ?_) | (with_reducible refine below_new ?_ _) | (with_reducible refine below_next ?_ (by with_reducible assumption)) | (with_reducible refine Below.setCell ?_ ?_ _) | go_size))⟩
  · have d2 : decide (l - (s.size : Int) < 0) = false := by simp; omega
    rw [szc_yes h]
    go_enter Try.func16, Try.ntmps16
    go_wp2
    go_returns
    exact ⟨rfl, (by repeat' (first | (with_reducible exact Below.refl _ _) | (with_reducible assumption) | (with_reducible refine below_drewN ?_ _) | (with_reducible refine Below.drew ?_) | (with_reducible refine below_new ?_ _) | (with_reducible refine below_next ?_ (by with_reducible assumption)) | (with_reducible refine Below.setCell ?_ ?_ _) | go_size))⟩

set_option maxHeartbeats 1600000 in
theorem fnExactClearField_walk (s : ByteArray) (a b : Int) (hs : s.size ≤ maxLen) (_ha : U64 a) (_hb : U64 b) (n : ByteArray) (k st sz : Int) (hn : n.size ≤ maxLen) (hk : I8 k) (ht : I16 st) (hz : I16 sz) (w : World) :
    Calls Try.prog 3 #[.agg #[.string s, .int .u64 a, .int .u64 b], .agg #[.string n, .int .i8 k, .int .i16 st, .int .i16 sz]] w fun e w' => e = .returned (.bool true) ∧ Below w.heap.size w w' := by
  have I := Lib.hid fun W => iClear_any s a b hs n k st sz hn hk ht hz W
  have S := Lib.hid fun W => sClear_any s a b hs n k st sz hn hk ht hz W
  obtain ⟨r, x, y, c, hx⟩ := clR_parts s a b k st sz (cardOk s b && fieldOk n k st sz)
  rw [hx] at I S
  have Z1 := Lib.hid fun W => szCard_any s a b 1048576 hs (by decide) (by decide) W
  have HB := Lib.hid (block_alloc2 w (.cells #[.string s, .int .u64 a, .int .u64 b] 25) (.cells #[.string n, .int .i8 k, .int .i16 st, .int .i16 sz] 29))
  clear hx hk ht hz
  by_cases h1 : (1048576 : Int) - (s.size : Int) < 0
  · have d1 : decide (szc 1048576 s.size < 0) = true := by rw [szc_no h1]; rfl
    clear I S h1 hs hn
    go_enter Try.func3, Try.ntmps3
    go_wp2_with (go_at_call 15; refine (Z1.out _).mono ?_; rintro e v1 ⟨rfl, hB⟩; have B0 := Ab.block hB HB.out.1; have B1 := Ab.block hB HB.out.2; have c0 := cell_of_block B0; have c1 := cell_of_block B1; have B0 := Lib.hid B0; have B1 := Lib.hid B1; have k3 : Below w.heap.size w v1 := (below_new (below_new (Below.refl _ _) _) _).trans (Below.mono hB (by simp <;> omega)))
    go_returns
    exact ⟨rfl, k3⟩
  have e1 := szc_yes h1
  have d1 : decide (szc 1048576 s.size < 0) = false := by rw [e1]; exact decide_eq_false h1
  have Z2 := Lib.hid fun W => szField_any n k st sz (szc 1048576 s.size) hn (by omega) (by omega) W
  clear h1 e1 hs hn
  generalize szc 1048576 s.size = l at *
  by_cases h2 : szc l n.size < 0
  · have d2 : decide (szc l n.size < 0) = true := decide_eq_true h2
    clear I S h2
    go_enter Try.func3, Try.ntmps3
    go_wp2_with (first | (go_at_call 15; refine (Z1.out _).mono ?_; rintro e v1 ⟨rfl, hB⟩; have B0 := Ab.block hB HB.out.1; have B1 := Ab.block hB HB.out.2; have c0 := cell_of_block B0; have c1 := cell_of_block B1; have B0 := Lib.hid B0; have B1 := Lib.hid B1; have k3 : Below w.heap.size w v1 := (below_new (below_new (Below.refl _ _) _) _).trans (Below.mono hB (by simp <;> omega))) | (go_at_call 16; refine (Z2.out _).mono ?_; rintro e V ⟨rfl, hB2⟩; clear c0 c1; have hb0 := Ab.block hB2 B0.out; have hb1 := Ab.block hB2 B1.out; have hVw : Below w.heap.size w V := k3.trans (Below.mono hB2 k3.size)))
    go_returns
    exact ⟨rfl, hVw⟩
  have d2 : decide (szc l n.size < 0) = false := decide_eq_false h2
  clear h2
  have hbw := cell_bw
  go_enter Try.func3, Try.ntmps3
  go_upto_region 8 with (first | (go_at_call 15; refine (Z1.out _).mono ?_; rintro e v1 ⟨rfl, hB⟩; have B0 := Ab.block hB HB.out.1; have B1 := Ab.block hB HB.out.2; have c0 := cell_of_block B0; have c1 := cell_of_block B1; have B0 := Lib.hid B0; have B1 := Lib.hid B1; have k3 : Below w.heap.size w v1 := (below_new (below_new (Below.refl _ _) _) _).trans (Below.mono hB (by simp <;> omega))) | (go_at_call 16; refine (Z2.out _).mono ?_; rintro e V ⟨rfl, hB2⟩; clear c0 c1; have hb0 := Ab.block hB2 B0.out; have hb1 := Ab.block hB2 B1.out; have hVw : Below w.heap.size w V := k3.trans (Below.mono hB2 k3.size)))
  have hVz : w.heap.size + 2 ≤ V.heap.size := by have := lt_of_block hb1; omega
  clear hB hB2 B0 B1 k3
  refine wp_region_at 8 0 (.cells #[.string ByteArray.empty, .int .u64 0, .int .u64 0] 34) (.cells #[.string r, .int .u64 x, .int .u64 y] 34) (by kernel_rfl) rfl rfl rfl (by kernel_rfl) rfl rfl (fun _ _ => by kernel_rfl) ?_
  simp only [Nat.reduceAdd, List.take_succ_cons, List.take_zero, List.drop_succ_cons, List.drop_zero]
  intro w1 h1
  have e0 := cell_of_block (h1.block hb0)
  have z0 : w.heap.size < w1.heap.size := lt_of_block (h1.block hb0)
  have e1 := cell_of_block (h1.block hb1)
  have z1 : w.heap.size + 1 < w1.heap.size := lt_of_block (h1.block hb1)
  repeat (go_big_quiet_step (first | (go_at_call 18; exact calls_bw (toCard_b _ _ _ _)) | (go_at_call 19; exact calls_bw (toField_b _ _ _ _ _)) | (go_at_call 17; exact calls_bw (S.out _))))
  refine wpQuiet_nil ?_
  intro b hb w2 h2
  refine wpQuiet_nil ?_
  refine ⟨?_, ?_⟩
  · intro w3 h3 hb3
    have f0 := cell_of_block hb3
    have f1 := free_of_block hb3
    go_simp
    exact ⟨(((h3.setCell _ hb).setCell _ hb).setCell _ hb), (block_setCell _ (block_setCell _ (block_setCell _ hb3)))⟩
  intro w5 h5
  simp only [Act.put, List.setIfInBounds_toArray, List.set_cons_succ, List.set_cons_zero]
  repeat (go_big_quiet_step (fail))
  refine wpQuiet_nil ?_
  intro w6 h6 hb6
  replace hVw : Below w.heap.size w w6 := hVw.trans (Below.mono h6 (by omega))
  replace hb0 := h6.block hb0
  replace hb1 := h6.block hb1
  have hbz : w.heap.size + 2 ≤ b := by omega
  clear h1 e0 z0 e1 z1 h2 h5 h6 hb hVz
  clear w5 w2 w1
  go_upto_region 9 with fail
  refine wp_region_at 8 0 (.cells #[.string ByteArray.empty, .int .u64 0, .int .u64 0] 34) (.cells #[.string r, .int .u64 x, .int .u64 y] 34) (by kernel_rfl) rfl rfl rfl (by kernel_rfl) rfl rfl (fun _ _ => by kernel_rfl) ?_
  simp only [Nat.reduceAdd, List.take_succ_cons, List.take_zero, List.drop_succ_cons, List.drop_zero]
  intro w1 h1
  have e0 := cell_of_block (h1.block hb0)
  have z0 : w.heap.size < w1.heap.size := lt_of_block (h1.block hb0)
  have e1 := cell_of_block (h1.block hb1)
  have z1 : w.heap.size + 1 < w1.heap.size := lt_of_block (h1.block hb1)
  repeat (go_big_quiet_step (first | (go_at_call 18; exact calls_bw (toCard_b _ _ _ _)) | (go_at_call 19; exact calls_bw (toField_b _ _ _ _ _)) | (go_at_call 20; exact calls_bw (I.out _))))
  refine wpQuiet_nil ?_
  intro c hc w2 h2
  refine wpQuiet_nil ?_
  refine ⟨?_, ?_⟩
  · intro w3 h3 hb3
    have f0 := cell_of_block hb3
    have f1 := free_of_block hb3
    go_simp
    exact ⟨(((h3.setCell _ hc).setCell _ hc).setCell _ hc), (block_setCell _ (block_setCell _ (block_setCell _ hb3)))⟩
  intro w5 h5
  simp only [Act.put, List.setIfInBounds_toArray, List.set_cons_succ, List.set_cons_zero]
  repeat (go_big_quiet_step (fail))
  refine wpQuiet_nil ?_
  intro w7 h7 hb7
  replace hVw : Below w.heap.size w w7 := hVw.trans (Below.mono h7 hVw.size)
  replace hb6 := h7.block hb6
  clear h1 e0 z0 e1 z1 h2 h5 h7 hc hb0 hb1 hbw
  clear w5 w2 w1
  have e0 := cell_of_block hb6
  have e1 := cell_of_block hb7
  have z0 := lt_of_block hb6
  have z1 := lt_of_block hb7
  have hz := hVw.size
  go_wp2_with (go_at_call 21; refine (eqCard_same _ _ _ _).mono ?_; rintro e w8 ⟨rfl, hB⟩)
  go_returns
  exact ⟨rfl, hVw.trans (Below.mono hB hz)⟩
/-! ### The frame round the walk -/
section
set_option maxRecDepth 100000 in
theorem fnExactClearField_lifted (os : Os) (started : os.Started) (H : Type) (enc : TypeId × Value → H) :
    ReturnsInHanded {} Try.checked os 3 .any (Rows.fnExactClearFieldSpec.pre6 enc Try.prog Try.f3 Rows.fnExactClearFieldRow.domain false) (Rows.fnExactClearFieldSpec.post enc Try.prog Try.f3 false true false false) := by
  refine returnsInHanded_of_change_sized (C := Try.checked) own started (by kernel_rfl) Try.func3
    (ChangeSpec.witness6 (enc := enc) (C := Try.checked) false ⟨#[], #[.agg #[.string ByteArray.empty, .int .u64 0, .int .u64 0], .agg #[.string ByteArray.empty, .int .i8 0, .int .i16 0, .int .i16 0]], []⟩ 8 (by kernel_rfl) (by kernel_rfl) (by kernel_rfl) (by kernel_rfl)) ?_
  intro W base args ds gs before hval hW _ hsz _
  have hW' := hW
  obtain ⟨p, q, hA, hV, rfl, _, _⟩ := hW
  obtain ⟨rfl, rfl⟩ := trodVars_none hV
  have hlt : ∀ x ∈ p, x.block < W.heap.size := fun x hx => by simpa using hW'.lt x (by simpa using hx)
  rw [Try.params3] at hA hval hsz
  obtain ⟨v0, vs0, d0, ds0, p0, q0, hargs, rfl, rfl, h0, r0⟩ := trodAll_cons hA
  obtain ⟨v1, vs1, d1, ds1, p1, q1, rfl, rfl, rfl, h1, r1⟩ := trodAll_cons r0
  obtain ⟨rfl, rfl, rfl⟩ := trodAll_nil r1
  obtain rfl : args = #[v0, v1] := by cases args; simp_all
  obtain ⟨s0, a0, b0, rfl, hs0, ha0, hb0⟩ := open_card (s := 9) (e := 22) Try.underlying25 (by kernel_rfl) (by kernel_rfl) (by kernel_rfl) (by kernel_rfl) (hval 0 25 v0 rfl rfl)
  obtain ⟨s1, k1, st1, sz1, rfl, hs1, hk1, hst1, hsz1⟩ := open_field (s := 9) (k := 26) (e := 27) Try.underlying29 (by kernel_rfl) (by kernel_rfl) (by kernel_rfl) (by kernel_rfl) (by kernel_rfl) (hval 1 29 v1 rfl rfl)
  refine (fnExactClearField_walk s0 a0 b0 hs0 ha0 hb0 s1 k1 st1 sz1 hs1 hk1 hst1 hsz1 W).mono fun e W' ⟨he, hb⟩ => ?_
  subst he
  exact ⟨_, rfl, law_post laidOut rfl Try.underlying4 (of_all (by kernel_rfl)) rfl hW' rfl rfl rfl hb⟩

theorem fnExactClearField_over : Rows.fnExactClearFieldRow.holds Try.pinned (OpenSpec.ofChange Rows.fnExactClearFieldSpec) :=
  OpenClaim.holds_of_wide 3 Try.f3 rfl rfl rfl rfl rfl rfl rfl ⟨rfl, rfl, rfl, rfl, rfl⟩ rfl rfl rfl rfl rfl (by kernel_rfl) Try.func3 (by kernel_rfl)
    (of_decide_eq_true (by kernel_rfl)) (by unfold Func.isWrapper; rw [if_neg (of_decide_eq_false (by kernel_rfl))]; exact ⟨rfl, rfl⟩)
    (fun os started H enc _ => fnExactClearField_lifted os started H enc)

/-- The statement. -/
theorem fnExactClearField_holds : Rows.FnExactClearFieldSaid := fnExactClearField_over
end
end Go.Proofs.Ytdohlcopamckjab
