/- Contracts: wear turned over, between masks, behind wear, counted; the program's and the model's. -/
import Derived.Test.YthkmahcdojoioaaWear
import Derived.Test.YthkmahcdojoioaaBoxes
import Derived.Test.YthkmahcdojoioaaCount
import Derived.Deep.DeepCutAuto
namespace Go.Proofs.Ythkmahcdojoioaa
open Go.ChangeShapes Go.WideShapes Go.ChangeAt Go.RowKit

theorem eRet {x y : Value} (h : x = y) : Ending.returned x = Ending.returned y := by rw [h]
/-- Four numbers, or none. -/
def wvR (ok : Bool) (x y z u : Int) : Value := .tuple #[.agg #[.int .u64 (if ok then x else 0), .int .u64 (if ok then y else 0), .int .u64 (if ok then z else 0), .int .u64 (if ok then u else 0)], .int .i64 (if ok then 0 else 1)]
theorem wvR_no (x y z u : Int) : .tuple #[.agg #[.int .u64 0, .int .u64 0, .int .u64 0, .int .u64 0], .int .i64 1] = wvR false x y z u := rfl
theorem wvR_yes (x y z u : Int) : .tuple #[.agg #[.int .u64 x, .int .u64 y, .int .u64 z, .int .u64 u], .int .i64 0] = wvR true x y z u := rfl
theorem wvR_parts (ok : Bool) (x y z u : Int) : ∃ p q r s c : Int, wvR ok x y z u = .tuple #[.agg #[.int .u64 p, .int .u64 q, .int .u64 r, .int .u64 s], .int .i64 c] := ⟨_, _, _, _, _, rfl⟩
theorem iMask_is {b : Int} (a : Int) {x : Bool} (h : (b / 4294967296 == 0) = x) : Hid (∀ w : World, Calls Try.prog 44 #[.agg #[.int .u64 a, .int .u64 b]] w fun e w' => e = .returned (.bool x) ∧ Below w.heap.size w w') := Lib.hid fun w => by
  cases x <;> go_enter Try.func44, Try.ntmps44 <;> go_wp2 <;> go_returns
  all_goals exact ⟨by simp , (by repeat' (first | (with_reducible exact Below.refl _ _) | (with_reducible assumption) | (with_reducible refine below_drewN ?_ _) | (with_reducible refine Below.drew ?_) | (with_reducible refine below_new ?_ _) | (with_reducible refine below_next ?_ (by with_reducible assumption)) | (with_reducible refine Below.setCell ?_ ?_ _) | go_size))⟩
theorem wblock_three (w : World) (o p q : Obj) : (((w.alloc o).alloc p).alloc q).heap[w.heap.size]? = some o ∧ (((w.alloc o).alloc p).alloc q).heap[w.heap.size + 1]? = some p ∧ (((w.alloc o).alloc p).alloc q).heap[w.heap.size + 2]? = some q := by
  show (((w.heap.push o).push p).push q)[w.heap.size]? = some o ∧ (((w.heap.push o).push p).push q)[w.heap.size + 1]? = some p ∧ (((w.heap.push o).push p).push q)[w.heap.size + 2]? = some q
  refine ⟨?_, ?_, ?_⟩
  · rw [Array.getElem?_push, if_neg (by simp; omega), Array.getElem?_push, if_neg (by simp)]; simp
  · rw [Array.getElem?_push, if_neg (by simp), Array.getElem?_push, if_pos (by simp)]
  · rw [Array.getElem?_push, if_pos (by simp)]

set_option maxHeartbeats 800000 in
theorem iUndo_any (a b c d : Int) (w : World) :
    Calls Try.prog 26 #[.agg #[.int .u64 a, .int .u64 b, .int .u64 c, .int .u64 d]] w fun e w' => e = .returned (wvR (qOk a b c d) c d a b) ∧ Below w.heap.size w w' := by
  have V := Lib.hid fun W => iWr_any a b c d W
  have HB := Lib.hid (block_alloc2 w (.cells #[.int .u64 a, .int .u64 b, .int .u64 c, .int .u64 d] 29) (.cells #[.int .u64 0, .int .u64 0, .int .u64 0, .int .u64 0] 29))
  cases h : qOk a b c d
  · rw [h] at V
    clear h
    go_enter Try.func26, Try.ntmps26
    go_wp2_with (go_at_call 15; refine (V.out _).mono ?_; rintro e w1 ⟨rfl, hB⟩; have B0 := Ab.block hB HB.out.1; have B1 := Ab.block hB HB.out.2; have c0 := cell_of_block B0; have c1 := cell_of_block B1; have g1 := free_of_block B1; have k2 : Below w.heap.size w w1 := (below_new (below_new (Below.refl _ _) _) _).trans (Below.mono hB (by simp; omega)))
    refine bodyPost_ret (by simp [results, Try.results26, go_sem, c1]; try rfl) rfl ?_
    exact ⟨eRet (wvR_no ..), ((((k2.setCell (by simp <;> omega) _).setCell (by simp <;> omega) _).setCell (by simp <;> omega) _).setCell (by simp <;> omega) _)⟩
  · rw [h] at V
    clear h
    go_enter Try.func26, Try.ntmps26
    go_wp2_with (go_at_call 15; refine (V.out _).mono ?_; rintro e w1 ⟨rfl, hB⟩; have B0 := Ab.block hB HB.out.1; have B1 := Ab.block hB HB.out.2; have c0 := cell_of_block B0; have c1 := cell_of_block B1; have g1 := free_of_block B1; have k2 : Below w.heap.size w w1 := (below_new (below_new (Below.refl _ _) _) _).trans (Below.mono hB (by simp; omega)))
    refine bodyPost_ret (by simp [results, Try.results26, go_sem, c1]; try rfl) rfl ?_
    exact ⟨eRet (wvR_yes ..), ((((k2.setCell (by simp <;> omega) _).setCell (by simp <;> omega) _).setCell (by simp <;> omega) _).setCell (by simp <;> omega) _)⟩

set_option maxHeartbeats 800000 in
theorem sUndo_any (a b c d : Int) (w : World) :
    Calls Try.prog 25 #[.agg #[.int .u64 a, .int .u64 b, .int .u64 c, .int .u64 d]] w fun e w' => e = .returned (wvR (qOk a b c d) c d a b) ∧ Below w.heap.size w w' := by
  have V := Lib.hid fun W h0 h1 h2 h3 => sWr_any a b c d w.heap.size 0 W h0 h1 h2 h3
  have HB := Lib.hid (block_alloc2 w (.cells #[.int .u64 a, .int .u64 b, .int .u64 c, .int .u64 d] 29) (.cells #[.int .u64 0, .int .u64 0, .int .u64 0, .int .u64 0] 29))
  cases h : qOk a b c d
  · rw [h] at V
    clear h
    go_enter Try.func25, Try.ntmps25
    go_wp2_with (go_at_call 43; refine Calls.mono (V.out _ ?_ ?_ ?_ ?_) ?_; exact cell_of_block HB.out.1 0; exact cell_of_block HB.out.1 1; exact cell_of_block HB.out.1 2; exact cell_of_block HB.out.1 3; rintro e w1 ⟨rfl, hB⟩; have B0 := Ab.block hB HB.out.1; have B1 := Ab.block hB HB.out.2; have c0 := cell_of_block B0; have c1 := cell_of_block B1; have g1 := free_of_block B1; have k2 : Below w.heap.size w w1 := (below_new (below_new (Below.refl _ _) _) _).trans (Below.mono hB (by simp; omega)))
    refine bodyPost_ret (by simp [results, Try.results25, go_sem, c1]; try rfl) rfl ?_
    exact ⟨eRet (wvR_no ..), ((((k2.setCell (by simp <;> omega) _).setCell (by simp <;> omega) _).setCell (by simp <;> omega) _).setCell (by simp <;> omega) _)⟩
  · rw [h] at V
    clear h
    go_enter Try.func25, Try.ntmps25
    go_wp2_with (go_at_call 43; refine Calls.mono (V.out _ ?_ ?_ ?_ ?_) ?_; exact cell_of_block HB.out.1 0; exact cell_of_block HB.out.1 1; exact cell_of_block HB.out.1 2; exact cell_of_block HB.out.1 3; rintro e w1 ⟨rfl, hB⟩; have B0 := Ab.block hB HB.out.1; have B1 := Ab.block hB HB.out.2; have c0 := cell_of_block B0; have c1 := cell_of_block B1; have g1 := free_of_block B1; have k2 : Below w.heap.size w w1 := (below_new (below_new (Below.refl _ _) _) _).trans (Below.mono hB (by simp; omega)))
    refine bodyPost_ret (by simp [results, Try.results25, go_sem, c1]; try rfl) rfl ?_
    exact ⟨eRet (wvR_yes ..), ((((k2.setCell (by simp <;> omega) _).setCell (by simp <;> omega) _).setCell (by simp <;> omega) _).setCell (by simp <;> omega) _)⟩

set_option maxHeartbeats 800000 in
theorem iBtw_any (a b c d : Int) (w : World) :
    Calls Try.prog 52 #[.agg #[.int .u64 a, .int .u64 b], .agg #[.int .u64 c, .int .u64 d]] w fun e w' => e = .returned (.agg #[.int .u64 (bits .andNot .u64 c a), .int .u64 (bits .andNot .u64 d b), .int .u64 (bits .andNot .u64 a c), .int .u64 (bits .andNot .u64 b d)]) ∧ Below w.heap.size w w' := by
  have HB := Lib.hid (wblock_three w (.cells #[.int .u64 a, .int .u64 b] 27) (.cells #[.int .u64 c, .int .u64 d] 27) (.cells #[.int .u64 0, .int .u64 0, .int .u64 0, .int .u64 0] 29))
  have k3 : Below w.heap.size w (((w.alloc (.cells #[.int .u64 a, .int .u64 b] 27)).alloc (.cells #[.int .u64 c, .int .u64 d] 27)).alloc (.cells #[.int .u64 0, .int .u64 0, .int .u64 0, .int .u64 0] 29)) := (below_new (below_new (below_new (Below.refl _ _) _) _) _)
  have hbw := cell_bw
  go_enter Try.func52, Try.ntmps52
  go_upto_region 1 with fail
  generalize ((w.alloc (.cells #[.int .u64 a, .int .u64 b] 27)).alloc (.cells #[.int .u64 c, .int .u64 d] 27)).alloc (.cells #[.int .u64 0, .int .u64 0, .int .u64 0, .int .u64 0] 29) = W at *
  refine wp_region_last 7 (by kernel_rfl) rfl rfl (by kernel_rfl) (by kernel_rfl) rfl ?_
  simp only [List.take_succ_cons, List.take_zero]
  intro w3 h3
  have c0 := cell_of_block (h3.block HB.out.1)
  have z0 := lt_of_block (h3.block HB.out.1)
  have c1 := cell_of_block (h3.block HB.out.2.1)
  have z1 := lt_of_block (h3.block HB.out.2.1)
  repeat (go_big_quiet_step (first | (go_at_call_of 56 (Value.int IntKind.u64 a); exact calls_bw (iLess_below _ _ _ _ _)) | (go_at_call 56; exact calls_bw (iLess_below _ _ _ _ _))))
  refine wpQuiet_nil ?_
  intro w4 h4
  have l3 : Below w.heap.size w w4 := k3.trans (Below.mono h4 k3.size)
  have f2 := cell_of_block (h4.block HB.out.2.2)
  have g2 := free_of_block (h4.block HB.out.2.2)
  clear c0 c1 z0 z1 h4 h3 k3
  go_simp
  simp only [Yld]
  go_wp2
  refine bodyPost_ret (by simp [results, Try.results52, go_sem, f2]; try rfl) rfl ?_
  exact ⟨rfl, ((((l3.setCell (by simp <;> omega) _).setCell (by simp <;> omega) _).setCell (by simp <;> omega) _).setCell (by simp <;> omega) _)⟩
set_option maxHeartbeats 800000 in
theorem iWearBtw_any (a b c d : Int) (w : World) :
    Calls Try.prog 23 #[.agg #[.int .u64 a, .int .u64 b], .agg #[.int .u64 c, .int .u64 d]] w fun e w' => e = .returned (wvR (maskOk b && maskOk d) (bits .andNot .u64 c a) (bits .andNot .u64 d b) (bits .andNot .u64 a c) (bits .andNot .u64 b d)) ∧ Below w.heap.size w w' := by
  have HB := Lib.hid (wblock_three w (.cells #[.int .u64 a, .int .u64 b] 27) (.cells #[.int .u64 c, .int .u64 d] 27) (.cells #[.int .u64 0, .int .u64 0, .int .u64 0, .int .u64 0] 29))
  have kk : Below w.heap.size w (((w.alloc (.cells #[.int .u64 a, .int .u64 b] 27)).alloc (.cells #[.int .u64 c, .int .u64 d] 27)).alloc (.cells #[.int .u64 0, .int .u64 0, .int .u64 0, .int .u64 0] 29)) := (below_new (below_new (below_new (Below.refl _ _) _) _) _)
  have KK := Lib.hid kk
  clear kk
  have B := Lib.hid fun W => iBtw_any a b c d W
  unfold maskOk

  cases h1 : (b / 4294967296 == 0)
  · have M1 := iMask_is a h1
    go_enter Try.func23, Try.ntmps23
    go_wp2_with (go_at_call_of 44 (Value.int IntKind.u64 b); refine (M1.out _).mono ?_; rintro e w1 ⟨rfl, hB1⟩; have b10 := Ab.block hB1 HB.out.1; have b11 := Ab.block hB1 HB.out.2.1; have b12 := Ab.block hB1 HB.out.2.2; have k1 : Below w.heap.size w w1 := KK.out.trans (Below.mono hB1 KK.out.size); have x1 := cell_of_block b11; have c2 := cell_of_block b12; have g2 := free_of_block b12; have x0 := cell_of_block b10; have b10 := Lib.hid b10; have b11 := Lib.hid b11; have b12 := Lib.hid b12)
    refine bodyPost_ret (by simp [results, Try.results23, go_sem, c2]; try rfl) rfl ?_
    exact ⟨eRet (wvR_no ..), ((((k1.setCell (by simp <;> omega) _).setCell (by simp <;> omega) _).setCell (by simp <;> omega) _).setCell (by simp <;> omega) _)⟩
  · have M1 := iMask_is a h1
    cases h2 : (d / 4294967296 == 0)
    · have M2 := iMask_is c h2
      clear h1 h2
      go_enter Try.func23, Try.ntmps23
      go_wp2_with (first | (go_at_call_of 44 (Value.int IntKind.u64 b); refine (M1.out _).mono ?_; rintro e w1 ⟨rfl, hB1⟩; have b10 := Ab.block hB1 HB.out.1; have b11 := Ab.block hB1 HB.out.2.1; have b12 := Ab.block hB1 HB.out.2.2; have k1 : Below w.heap.size w w1 := KK.out.trans (Below.mono hB1 KK.out.size); have x1 := cell_of_block b11; have c2 := cell_of_block b12; have g2 := free_of_block b12; have x0 := cell_of_block b10; have b10 := Lib.hid b10; have b11 := Lib.hid b11; have b12 := Lib.hid b12) | (go_at_call_of 44 (Value.int IntKind.u64 d); refine (M2.out _).mono ?_; rintro e w2 ⟨rfl, hB2⟩; have b20 := Ab.block hB2 b10.out; have b21 := Ab.block hB2 b11.out; have b22 := Ab.block hB2 b12.out; have k2 : Below w.heap.size w w2 := k1.trans (Below.mono hB2 k1.size); clear x1 c2 g2 x0 k1; have x1 := cell_of_block b21; have c2 := cell_of_block b22; have g2 := free_of_block b22; have x0 := cell_of_block b20; have b22 := Lib.hid b22))
      refine bodyPost_ret (by simp [results, Try.results23, go_sem, c2]; try rfl) rfl ?_
      exact ⟨eRet (wvR_no ..), ((((k2.setCell (by simp <;> omega) _).setCell (by simp <;> omega) _).setCell (by simp <;> omega) _).setCell (by simp <;> omega) _)⟩
    · have M2 := iMask_is c h2
      clear h1 h2
      go_enter Try.func23, Try.ntmps23
      go_wp2_with (first | (go_at_call_of 44 (Value.int IntKind.u64 b); refine (M1.out _).mono ?_; rintro e w1 ⟨rfl, hB1⟩; have b10 := Ab.block hB1 HB.out.1; have b11 := Ab.block hB1 HB.out.2.1; have b12 := Ab.block hB1 HB.out.2.2; have k1 : Below w.heap.size w w1 := KK.out.trans (Below.mono hB1 KK.out.size); have x1 := cell_of_block b11; have c2 := cell_of_block b12; have g2 := free_of_block b12; have x0 := cell_of_block b10; have b10 := Lib.hid b10; have b11 := Lib.hid b11; have b12 := Lib.hid b12) | (go_at_call_of 44 (Value.int IntKind.u64 d); refine (M2.out _).mono ?_; rintro e w2 ⟨rfl, hB2⟩; have b20 := Ab.block hB2 b10.out; have b21 := Ab.block hB2 b11.out; have b22 := Ab.block hB2 b12.out; have k2 : Below w.heap.size w w2 := k1.trans (Below.mono hB2 k1.size); clear x1 c2 g2 x0 k1; have x1 := cell_of_block b21; have c2 := cell_of_block b22; have g2 := free_of_block b22; have x0 := cell_of_block b20; have b22 := Lib.hid b22) | (go_at_call 52; refine (B.out _).mono ?_; rintro e w3 ⟨rfl, hB3⟩; have k3 : Below w.heap.size w w3 := k2.trans (Below.mono hB3 k2.size); clear x1 x0 c2 g2 k2; have c2 := cell_of_block (Ab.block hB3 b22.out); have g2 := free_of_block (Ab.block hB3 b22.out)))
      refine bodyPost_ret (by simp [results, Try.results23, go_sem, c2]; try rfl) rfl ?_
      exact ⟨eRet (wvR_yes ..), ((((k3.setCell (by simp <;> omega) _).setCell (by simp <;> omega) _).setCell (by simp <;> omega) _).setCell (by simp <;> omega) _)⟩

set_option maxHeartbeats 800000 in
theorem sBtw_any (a b c d : Int) (w : World) :
    Calls Try.prog 51 #[.agg #[.int .u64 a, .int .u64 b], .agg #[.int .u64 c, .int .u64 d]] w fun e w' => e = .returned (.agg #[.int .u64 (bits .andNot .u64 c a), .int .u64 (bits .andNot .u64 d b), .int .u64 (bits .andNot .u64 a c), .int .u64 (bits .andNot .u64 b d)]) ∧ Below w.heap.size w w' := by
  have HB := Lib.hid (wblock_three w (.cells #[.int .u64 a, .int .u64 b] 27) (.cells #[.int .u64 c, .int .u64 d] 27) (.cells #[.int .u64 0, .int .u64 0, .int .u64 0, .int .u64 0] 29))
  have k3 : Below w.heap.size w (((w.alloc (.cells #[.int .u64 a, .int .u64 b] 27)).alloc (.cells #[.int .u64 c, .int .u64 d] 27)).alloc (.cells #[.int .u64 0, .int .u64 0, .int .u64 0, .int .u64 0] 29)) := (below_new (below_new (below_new (Below.refl _ _) _) _) _)
  have hbw := cell_bw
  go_enter Try.func51, Try.ntmps51
  go_upto_region 1 with fail
  generalize ((w.alloc (.cells #[.int .u64 a, .int .u64 b] 27)).alloc (.cells #[.int .u64 c, .int .u64 d] 27)).alloc (.cells #[.int .u64 0, .int .u64 0, .int .u64 0, .int .u64 0] 29) = W at *
  refine wp_region_last 7 (by kernel_rfl) rfl rfl (by kernel_rfl) (by kernel_rfl) rfl ?_
  simp only [List.take_succ_cons, List.take_zero]
  intro w3 h3
  have c0 := cell_of_block (h3.block HB.out.1)
  have z0 := lt_of_block (h3.block HB.out.1)
  have c1 := cell_of_block (h3.block HB.out.2.1)
  have z1 := lt_of_block (h3.block HB.out.2.1)
  repeat (go_big_quiet_step (first | (go_at_call_of 54 (Value.int IntKind.u64 a); exact calls_bw (sLess_below _ _ _ _ _)) | (go_at_call 54; exact calls_bw (sLess_below _ _ _ _ _))))
  refine wpQuiet_nil ?_
  intro w4 h4
  have l3 : Below w.heap.size w w4 := k3.trans (Below.mono h4 k3.size)
  have f2 := cell_of_block (h4.block HB.out.2.2)
  have g2 := free_of_block (h4.block HB.out.2.2)
  clear c0 c1 z0 z1 h4 h3 k3
  go_simp
  simp only [Yld]
  go_wp2
  refine bodyPost_ret (by simp [results, Try.results51, go_sem, f2]; try rfl) rfl ?_
  exact ⟨rfl, ((((l3.setCell (by simp <;> omega) _).setCell (by simp <;> omega) _).setCell (by simp <;> omega) _).setCell (by simp <;> omega) _)⟩
set_option maxHeartbeats 800000 in
theorem sWearBtw_any (a b c d : Int) (w : World) :
    Calls Try.prog 21 #[.agg #[.int .u64 a, .int .u64 b], .agg #[.int .u64 c, .int .u64 d]] w fun e w' => e = .returned (wvR (maskOk b && maskOk d) (bits .andNot .u64 c a) (bits .andNot .u64 d b) (bits .andNot .u64 a c) (bits .andNot .u64 b d)) ∧ Below w.heap.size w w' := by
  have HB := Lib.hid (wblock_three w (.cells #[.int .u64 a, .int .u64 b] 27) (.cells #[.int .u64 c, .int .u64 d] 27) (.cells #[.int .u64 0, .int .u64 0, .int .u64 0, .int .u64 0] 29))
  have kk : Below w.heap.size w (((w.alloc (.cells #[.int .u64 a, .int .u64 b] 27)).alloc (.cells #[.int .u64 c, .int .u64 d] 27)).alloc (.cells #[.int .u64 0, .int .u64 0, .int .u64 0, .int .u64 0] 29)) := (below_new (below_new (below_new (Below.refl _ _) _) _) _)
  have KK := Lib.hid kk
  clear kk
  have B := Lib.hid fun W => sBtw_any a b c d W
  unfold maskOk

  cases h1 : (b / 4294967296 == 0)
  · have M1 := sMask_is a h1
    go_enter Try.func21, Try.ntmps21
    go_wp2_with (go_at_call_of 50 (Value.int IntKind.u64 b); refine (M1.out _).mono ?_; rintro e w1 ⟨rfl, hB1⟩; have b10 := Ab.block hB1 HB.out.1; have b11 := Ab.block hB1 HB.out.2.1; have b12 := Ab.block hB1 HB.out.2.2; have k1 : Below w.heap.size w w1 := KK.out.trans (Below.mono hB1 KK.out.size); have x1 := cell_of_block b11; have c2 := cell_of_block b12; have g2 := free_of_block b12; have x0 := cell_of_block b10; have b10 := Lib.hid b10; have b11 := Lib.hid b11; have b12 := Lib.hid b12)
    refine bodyPost_ret (by simp [results, Try.results21, go_sem, c2]; try rfl) rfl ?_
    exact ⟨eRet (wvR_no ..), ((((k1.setCell (by simp <;> omega) _).setCell (by simp <;> omega) _).setCell (by simp <;> omega) _).setCell (by simp <;> omega) _)⟩
  · have M1 := sMask_is a h1
    cases h2 : (d / 4294967296 == 0)
    · have M2 := sMask_is c h2
      clear h1 h2
      go_enter Try.func21, Try.ntmps21
      go_wp2_with (first | (go_at_call_of 50 (Value.int IntKind.u64 b); refine (M1.out _).mono ?_; rintro e w1 ⟨rfl, hB1⟩; have b10 := Ab.block hB1 HB.out.1; have b11 := Ab.block hB1 HB.out.2.1; have b12 := Ab.block hB1 HB.out.2.2; have k1 : Below w.heap.size w w1 := KK.out.trans (Below.mono hB1 KK.out.size); have x1 := cell_of_block b11; have c2 := cell_of_block b12; have g2 := free_of_block b12; have x0 := cell_of_block b10; have b10 := Lib.hid b10; have b11 := Lib.hid b11; have b12 := Lib.hid b12) | (go_at_call_of 50 (Value.int IntKind.u64 d); refine (M2.out _).mono ?_; rintro e w2 ⟨rfl, hB2⟩; have b20 := Ab.block hB2 b10.out; have b21 := Ab.block hB2 b11.out; have b22 := Ab.block hB2 b12.out; have k2 : Below w.heap.size w w2 := k1.trans (Below.mono hB2 k1.size); clear x1 c2 g2 x0 k1; have x1 := cell_of_block b21; have c2 := cell_of_block b22; have g2 := free_of_block b22; have x0 := cell_of_block b20; have b22 := Lib.hid b22))
      refine bodyPost_ret (by simp [results, Try.results21, go_sem, c2]; try rfl) rfl ?_
      exact ⟨eRet (wvR_no ..), ((((k2.setCell (by simp <;> omega) _).setCell (by simp <;> omega) _).setCell (by simp <;> omega) _).setCell (by simp <;> omega) _)⟩
    · have M2 := sMask_is c h2
      clear h1 h2
      go_enter Try.func21, Try.ntmps21
      go_wp2_with (first | (go_at_call_of 50 (Value.int IntKind.u64 b); refine (M1.out _).mono ?_; rintro e w1 ⟨rfl, hB1⟩; have b10 := Ab.block hB1 HB.out.1; have b11 := Ab.block hB1 HB.out.2.1; have b12 := Ab.block hB1 HB.out.2.2; have k1 : Below w.heap.size w w1 := KK.out.trans (Below.mono hB1 KK.out.size); have x1 := cell_of_block b11; have c2 := cell_of_block b12; have g2 := free_of_block b12; have x0 := cell_of_block b10; have b10 := Lib.hid b10; have b11 := Lib.hid b11; have b12 := Lib.hid b12) | (go_at_call_of 50 (Value.int IntKind.u64 d); refine (M2.out _).mono ?_; rintro e w2 ⟨rfl, hB2⟩; have b20 := Ab.block hB2 b10.out; have b21 := Ab.block hB2 b11.out; have b22 := Ab.block hB2 b12.out; have k2 : Below w.heap.size w w2 := k1.trans (Below.mono hB2 k1.size); clear x1 c2 g2 x0 k1; have x1 := cell_of_block b21; have c2 := cell_of_block b22; have g2 := free_of_block b22; have x0 := cell_of_block b20; have b22 := Lib.hid b22) | (go_at_call 51; refine (B.out _).mono ?_; rintro e w3 ⟨rfl, hB3⟩; have k3 : Below w.heap.size w w3 := k2.trans (Below.mono hB3 k2.size); clear x1 x0 c2 g2 k2; have c2 := cell_of_block (Ab.block hB3 b22.out); have g2 := free_of_block (Ab.block hB3 b22.out)))
      refine bodyPost_ret (by simp [results, Try.results21, go_sem, c2]; try rfl) rfl ?_
      exact ⟨eRet (wvR_yes ..), ((((k3.setCell (by simp <;> omega) _).setCell (by simp <;> omega) _).setCell (by simp <;> omega) _).setCell (by simp <;> omega) _)⟩

set_option maxHeartbeats 1600000 in
theorem iAfter_any (a b c d m n o p : Int) (w : World) :
    Calls Try.prog 28 #[.agg #[.int .u64 a, .int .u64 b, .int .u64 c, .int .u64 d], .agg #[.int .u64 m, .int .u64 n, .int .u64 o, .int .u64 p]] w fun e w' => e = .returned (wvR (qOk a b c d && qOk m n o p) (bits .or .u64 m (bits .andNot .u64 a o)) (bits .or .u64 n (bits .andNot .u64 b p)) (bits .or .u64 o (bits .andNot .u64 c m)) (bits .or .u64 p (bits .andNot .u64 d n))) ∧ Below w.heap.size w w' := by
  have V1 := Lib.hid fun W => iWr_any a b c d W
  have V2 := Lib.hid fun W => iWr_any m n o p W
  have HB := Lib.hid (wblock_three w (.cells #[.int .u64 a, .int .u64 b, .int .u64 c, .int .u64 d] 29) (.cells #[.int .u64 m, .int .u64 n, .int .u64 o, .int .u64 p] 29) (.cells #[.int .u64 0, .int .u64 0, .int .u64 0, .int .u64 0] 29))
  have tok1 : True := trivial
  cases h : qOk a b c d
  · rw [h] at V1
    clear h V2
    go_enter Try.func28, Try.ntmps28
    go_wp2_with (go_at_call_of 15 (Value.int IntKind.u64 a); refine (V1.out _).mono ?_; rintro e w1 ⟨rfl, hB⟩; have B0 := Ab.block hB HB.out.1; have B1 := Ab.block hB HB.out.2.1; have B2 := Ab.block hB HB.out.2.2; have c0 := cell_of_block B0; have c1 := cell_of_block B1; have c2 := cell_of_block B2; have g2 := free_of_block B2; have B0 := Lib.hid B0; have B1 := Lib.hid B1; have B2 := Lib.hid B2; have k3 : Below w.heap.size w w1 := (below_new (below_new (below_new (Below.refl _ _) _) _) _).trans (Below.mono hB (by simp; omega)))
    refine bodyPost_ret (by simp [results, Try.results28, go_sem, c2]; try rfl) rfl ?_
    exact ⟨eRet (wvR_no ..), ((((k3.setCell (by simp <;> omega) _).setCell (by simp <;> omega) _).setCell (by simp <;> omega) _).setCell (by simp <;> omega) _)⟩
  · rw [h] at V1
    clear h
    cases h2 : qOk m n o p
    · rw [h2] at V2
      clear h2
      go_enter Try.func28, Try.ntmps28
      go_wp2_with (first | (go_at_call_of 15 (Value.int IntKind.u64 a); refine (V1.out _).mono ?_; rintro e w1 ⟨rfl, hB⟩; have B0 := Ab.block hB HB.out.1; have B1 := Ab.block hB HB.out.2.1; have B2 := Ab.block hB HB.out.2.2; have c0 := cell_of_block B0; have c1 := cell_of_block B1; have c2 := cell_of_block B2; have g2 := free_of_block B2; have B0 := Lib.hid B0; have B1 := Lib.hid B1; have B2 := Lib.hid B2; have k3 : Below w.heap.size w w1 := (below_new (below_new (below_new (Below.refl _ _) _) _) _).trans (Below.mono hB (by simp; omega))) | (go_at_call_of 15 (Value.int IntKind.u64 m); refine (V2.out _).mono ?_; rintro e w2 ⟨rfl, hB2⟩; clear c0 c1 c2 g2; have D0 := Ab.block hB2 B0.out; have D1 := Ab.block hB2 B1.out; have D2 := Ab.block hB2 B2.out; have c2 := cell_of_block D2; have g2 := free_of_block D2; have D0 := Lib.hid D0; have D1 := Lib.hid D1; have D2 := Lib.hid D2; have j3 : Below w.heap.size w w2 := k3.trans (Below.mono hB2 k3.size)))
      refine bodyPost_ret (by simp [results, Try.results28, go_sem, c2]; try rfl) rfl ?_
      exact ⟨eRet (wvR_no ..), ((((j3.setCell (by simp <;> omega) _).setCell (by simp <;> omega) _).setCell (by simp <;> omega) _).setCell (by simp <;> omega) _)⟩
    · rw [h2] at V2
      clear h2
      have hbw := cell_bw
      go_enter Try.func28, Try.ntmps28
      go_upto_region 3 with (first | (go_at_call_of 15 (Value.int IntKind.u64 a); refine (V1.out _).mono ?_; rintro e w1 ⟨rfl, hB⟩; have B0 := Ab.block hB HB.out.1; have B1 := Ab.block hB HB.out.2.1; have B2 := Ab.block hB HB.out.2.2; have c0 := cell_of_block B0; have c1 := cell_of_block B1; have c2 := cell_of_block B2; have g2 := free_of_block B2; have B0 := Lib.hid B0; have B1 := Lib.hid B1; have B2 := Lib.hid B2; have k3 : Below w.heap.size w w1 := (below_new (below_new (below_new (Below.refl _ _) _) _) _).trans (Below.mono hB (by simp; omega))) | (go_at_call_of 15 (Value.int IntKind.u64 m); refine (V2.out _).mono ?_; rintro e w2 ⟨rfl, hB2⟩; clear c0 c1 c2 g2; have D0 := Ab.block hB2 B0.out; have D1 := Ab.block hB2 B1.out; have D2 := Ab.block hB2 B2.out; have c2 := cell_of_block D2; have g2 := free_of_block D2; have D0 := Lib.hid D0; have D1 := Lib.hid D1; have D2 := Lib.hid D2; have j3 : Below w.heap.size w w2 := k3.trans (Below.mono hB2 k3.size)))
      refine wp_region_store 17 (by kernel_rfl) rfl rfl rfl (by kernel_rfl) (by kernel_rfl) rfl ?_
      simp only [Nat.reduceAdd, List.take_succ_cons, List.take_zero, List.drop_succ_cons, List.drop_zero]
      clear c2 g2
      intro w3 h3
      have c0 := cell_of_block (h3.block D0.out)
      have z0 := lt_of_block (h3.block D0.out)
      have c1 := cell_of_block (h3.block D1.out)
      have z1 := lt_of_block (h3.block D1.out)
      repeat (go_big_quiet_step (first | (go_at_call 56; exact calls_bw (iLess_below _ _ _ _ _)) | (go_at_call 55; exact calls_bw (iJoin_below _ _ _ _ _))))
      refine wpQuiet_nil ?_
      intro w4 h4
      have l3 : Below w.heap.size w w4 := j3.trans (Below.mono h4 j3.size)
      have f2 := cell_of_block (h4.block D2.out)
      have g2 := free_of_block (h4.block D2.out)
      clear c0 c1 z0 z1 h4 h3 hbw
      go_simp
      simp only [Yld, pureRun, pureVal, Act.put, Act.eval, List.setIfInBounds_toArray, List.set_cons_succ, List.set_cons_zero]
      go_wp2
      refine bodyPost_ret (by simp [results, Try.results28, go_sem, f2]; try rfl) rfl ?_
      exact ⟨eRet (wvR_yes ..), ((((l3.setCell (by simp <;> omega) _).setCell (by simp <;> omega) _).setCell (by simp <;> omega) _).setCell (by simp <;> omega) _)⟩

set_option maxHeartbeats 1600000 in
theorem sAfter_any (a b c d m n o p : Int) (w : World) :
    Calls Try.prog 27 #[.agg #[.int .u64 a, .int .u64 b, .int .u64 c, .int .u64 d], .agg #[.int .u64 m, .int .u64 n, .int .u64 o, .int .u64 p]] w fun e w' => e = .returned (wvR (qOk a b c d && qOk m n o p) (bits .or .u64 m (bits .andNot .u64 a o)) (bits .or .u64 n (bits .andNot .u64 b p)) (bits .or .u64 o (bits .andNot .u64 c m)) (bits .or .u64 p (bits .andNot .u64 d n))) ∧ Below w.heap.size w w' := by
  have V1 := Lib.hid fun W h0 h1 h2 h3 => sWr_any a b c d w.heap.size 0 W h0 h1 h2 h3
  have V2 := Lib.hid fun W h0 h1 h2 h3 => sWr_any m n o p (w.heap.size + 1) 0 W h0 h1 h2 h3
  have HB := Lib.hid (wblock_three w (.cells #[.int .u64 a, .int .u64 b, .int .u64 c, .int .u64 d] 29) (.cells #[.int .u64 m, .int .u64 n, .int .u64 o, .int .u64 p] 29) (.cells #[.int .u64 0, .int .u64 0, .int .u64 0, .int .u64 0] 29))
  have tok1 : True := trivial
  cases h : qOk a b c d
  · rw [h] at V1
    clear h V2
    go_enter Try.func27, Try.ntmps27
    go_wp2_with (go_at_call 43; have _t := tok1; clear _t tok1; refine Calls.mono (V1.out _ ?_ ?_ ?_ ?_) ?_; exact cell_of_block HB.out.1 0; exact cell_of_block HB.out.1 1; exact cell_of_block HB.out.1 2; exact cell_of_block HB.out.1 3; rintro e w1 ⟨rfl, hB⟩; have B0 := Ab.block hB HB.out.1; have B1 := Ab.block hB HB.out.2.1; have B2 := Ab.block hB HB.out.2.2; have c0 := cell_of_block B0; have c1 := cell_of_block B1; have c2 := cell_of_block B2; have g2 := free_of_block B2; have B0 := Lib.hid B0; have B1 := Lib.hid B1; have B2 := Lib.hid B2; have k3 : Below w.heap.size w w1 := (below_new (below_new (below_new (Below.refl _ _) _) _) _).trans (Below.mono hB (by simp; omega)))
    refine bodyPost_ret (by simp [results, Try.results27, go_sem, c2]; try rfl) rfl ?_
    exact ⟨eRet (wvR_no ..), ((((k3.setCell (by simp <;> omega) _).setCell (by simp <;> omega) _).setCell (by simp <;> omega) _).setCell (by simp <;> omega) _)⟩
  · rw [h] at V1
    clear h
    cases h2 : qOk m n o p
    · rw [h2] at V2
      clear h2
      go_enter Try.func27, Try.ntmps27
      go_wp2_with (first | (go_at_call 43; have _t := tok1; clear _t tok1; refine Calls.mono (V1.out _ ?_ ?_ ?_ ?_) ?_; exact cell_of_block HB.out.1 0; exact cell_of_block HB.out.1 1; exact cell_of_block HB.out.1 2; exact cell_of_block HB.out.1 3; rintro e w1 ⟨rfl, hB⟩; have B0 := Ab.block hB HB.out.1; have B1 := Ab.block hB HB.out.2.1; have B2 := Ab.block hB HB.out.2.2; have c0 := cell_of_block B0; have c1 := cell_of_block B1; have c2 := cell_of_block B2; have g2 := free_of_block B2; have B0 := Lib.hid B0; have B1 := Lib.hid B1; have B2 := Lib.hid B2; have k3 : Below w.heap.size w w1 := (below_new (below_new (below_new (Below.refl _ _) _) _) _).trans (Below.mono hB (by simp; omega))) | (go_at_call 43; refine Calls.mono (V2.out _ ?_ ?_ ?_ ?_) ?_; exact cell_of_block B1.out 0; exact cell_of_block B1.out 1; exact cell_of_block B1.out 2; exact cell_of_block B1.out 3; rintro e w2 ⟨rfl, hB2⟩; clear c0 c1 c2 g2; have D0 := Ab.block hB2 B0.out; have D1 := Ab.block hB2 B1.out; have D2 := Ab.block hB2 B2.out; have c2 := cell_of_block D2; have g2 := free_of_block D2; have D0 := Lib.hid D0; have D1 := Lib.hid D1; have D2 := Lib.hid D2; have j3 : Below w.heap.size w w2 := k3.trans (Below.mono hB2 k3.size)))
      refine bodyPost_ret (by simp [results, Try.results27, go_sem, c2]; try rfl) rfl ?_
      exact ⟨eRet (wvR_no ..), ((((j3.setCell (by simp <;> omega) _).setCell (by simp <;> omega) _).setCell (by simp <;> omega) _).setCell (by simp <;> omega) _)⟩
    · rw [h2] at V2
      clear h2
      have hbw := cell_bw
      go_enter Try.func27, Try.ntmps27
      go_upto_region 3 with (first | (go_at_call 43; have _t := tok1; clear _t tok1; refine Calls.mono (V1.out _ ?_ ?_ ?_ ?_) ?_; exact cell_of_block HB.out.1 0; exact cell_of_block HB.out.1 1; exact cell_of_block HB.out.1 2; exact cell_of_block HB.out.1 3; rintro e w1 ⟨rfl, hB⟩; have B0 := Ab.block hB HB.out.1; have B1 := Ab.block hB HB.out.2.1; have B2 := Ab.block hB HB.out.2.2; have c0 := cell_of_block B0; have c1 := cell_of_block B1; have c2 := cell_of_block B2; have g2 := free_of_block B2; have B0 := Lib.hid B0; have B1 := Lib.hid B1; have B2 := Lib.hid B2; have k3 : Below w.heap.size w w1 := (below_new (below_new (below_new (Below.refl _ _) _) _) _).trans (Below.mono hB (by simp; omega))) | (go_at_call 43; refine Calls.mono (V2.out _ ?_ ?_ ?_ ?_) ?_; exact cell_of_block B1.out 0; exact cell_of_block B1.out 1; exact cell_of_block B1.out 2; exact cell_of_block B1.out 3; rintro e w2 ⟨rfl, hB2⟩; clear c0 c1 c2 g2; have D0 := Ab.block hB2 B0.out; have D1 := Ab.block hB2 B1.out; have D2 := Ab.block hB2 B2.out; have c2 := cell_of_block D2; have g2 := free_of_block D2; have D0 := Lib.hid D0; have D1 := Lib.hid D1; have D2 := Lib.hid D2; have j3 : Below w.heap.size w w2 := k3.trans (Below.mono hB2 k3.size)))
      refine wp_region_store 17 (by kernel_rfl) rfl rfl rfl (by kernel_rfl) (by kernel_rfl) rfl ?_
      simp only [Nat.reduceAdd, List.take_succ_cons, List.take_zero, List.drop_succ_cons, List.drop_zero]
      clear c2 g2
      intro w3 h3
      have c0 := cell_of_block (h3.block D0.out)
      have z0 := lt_of_block (h3.block D0.out)
      have c1 := cell_of_block (h3.block D1.out)
      have z1 := lt_of_block (h3.block D1.out)
      repeat (go_big_quiet_step (first | (go_at_call 54; exact calls_bw (sLess_below _ _ _ _ _)) | (go_at_call 53; exact calls_bw (sJoin_below _ _ _ _ _))))
      refine wpQuiet_nil ?_
      intro w4 h4
      have l3 : Below w.heap.size w w4 := j3.trans (Below.mono h4 j3.size)
      have f2 := cell_of_block (h4.block D2.out)
      have g2 := free_of_block (h4.block D2.out)
      clear c0 c1 z0 z1 h4 h3 hbw
      go_simp
      simp only [Yld, pureRun, pureVal, Act.put, Act.eval, List.setIfInBounds_toArray, List.set_cons_succ, List.set_cons_zero]
      go_wp2
      refine bodyPost_ret (by simp [results, Try.results27, go_sem, f2]; try rfl) rfl ?_
      exact ⟨eRet (wvR_yes ..), ((((l3.setCell (by simp <;> omega) _).setCell (by simp <;> omega) _).setCell (by simp <;> omega) _).setCell (by simp <;> omega) _)⟩

set_option maxHeartbeats 800000 in
theorem iOn_any (a b c d m n : Int) (w : World) :
    Calls Try.prog 49 #[.agg #[.int .u64 a, .int .u64 b, .int .u64 c, .int .u64 d], .agg #[.int .u64 m, .int .u64 n]] w fun e w' => e = .returned (.agg #[.int .u64 (bits .or .u64 (bits .andNot .u64 m c) a), .int .u64 (bits .or .u64 (bits .andNot .u64 n d) b)]) ∧ Below w.heap.size w w' := by
  have HB := Lib.hid (wblock_three w (.cells #[.int .u64 a, .int .u64 b, .int .u64 c, .int .u64 d] 29) (.cells #[.int .u64 m, .int .u64 n] 27) (.cells #[.int .u64 0, .int .u64 0] 27))
  have k3 : Below w.heap.size w (((w.alloc (.cells #[.int .u64 a, .int .u64 b, .int .u64 c, .int .u64 d] 29)).alloc (.cells #[.int .u64 m, .int .u64 n] 27)).alloc (.cells #[.int .u64 0, .int .u64 0] 27)) := (below_new (below_new (below_new (Below.refl _ _) _) _) _)
  have hbw := cell_bw
  go_enter Try.func49, Try.ntmps49
  go_upto_region 1 with fail
  generalize ((w.alloc (.cells #[.int .u64 a, .int .u64 b, .int .u64 c, .int .u64 d] 29)).alloc (.cells #[.int .u64 m, .int .u64 n] 27)).alloc (.cells #[.int .u64 0, .int .u64 0] 27) = W at *
  refine wp_region_last 7 (by kernel_rfl) rfl rfl (by kernel_rfl) (by kernel_rfl) rfl ?_
  simp only [List.take_succ_cons, List.take_zero]
  intro w3 h3
  have c0 := cell_of_block (h3.block HB.out.1)
  have z0 := lt_of_block (h3.block HB.out.1)
  have c1 := cell_of_block (h3.block HB.out.2.1)
  have z1 := lt_of_block (h3.block HB.out.2.1)
  repeat (go_big_quiet_step (first | (go_at_call 56; exact calls_bw (iLess_below _ _ _ _ _)) | (go_at_call 55; exact calls_bw (iJoin_below _ _ _ _ _))))
  refine wpQuiet_nil ?_
  intro w4 h4
  have l3 : Below w.heap.size w w4 := k3.trans (Below.mono h4 k3.size)
  have f2 := cell_of_block (h4.block HB.out.2.2)
  have g2 := free_of_block (h4.block HB.out.2.2)
  clear c0 c1 z0 z1 h4 h3 k3
  go_simp
  simp only [Yld]
  go_wp2
  refine bodyPost_ret (by simp [results, Try.results49, go_sem, f2]; try rfl) rfl ?_
  exact ⟨rfl, ((l3.setCell (by simp <;> omega) _).setCell (by simp <;> omega) _)⟩

set_option maxHeartbeats 800000 in
theorem sOn_any (a b c d m n : Int) (g : Nat) (w : World) (hg : w.heap[g]? = some (.cells #[.int .u64 a, .int .u64 b, .int .u64 c, .int .u64 d] 29 (0, 0))) :
    Calls Try.prog 47 #[.agg #[.int .u64 m, .int .u64 n], .pointer (some ⟨g, 0, none⟩)] w fun e w' => e = .returned (.agg #[.int .u64 (bits .andNot .u64 (bits .or .u64 m a) c), .int .u64 (bits .andNot .u64 (bits .or .u64 n b) d)]) ∧ Below w.heap.size w w' := by
  have HB := Lib.hid (block_alloc2 w (.cells #[.int .u64 m, .int .u64 n] 27) (.cells #[.int .u64 0, .int .u64 0] 27))
  have k3 : Below w.heap.size w ((w.alloc (.cells #[.int .u64 m, .int .u64 n] 27)).alloc (.cells #[.int .u64 0, .int .u64 0] 27)) := (below_new (below_new (Below.refl _ _) _) _)
  have HG := Lib.hid (Ab.block k3 hg)
  clear hg
  have hbw := cell_bw
  go_enter Try.func47, Try.ntmps47
  go_upto_region 1 with fail
  generalize (w.alloc (.cells #[.int .u64 m, .int .u64 n] 27)).alloc (.cells #[.int .u64 0, .int .u64 0] 27) = W at *
  refine wp_region_last 11 (by kernel_rfl) rfl rfl (by kernel_rfl) (by kernel_rfl) rfl ?_
  simp only [List.take_succ_cons, List.take_zero]
  intro w3 h3
  have c0 := cell_of_block (h3.block HB.out.1)
  have z0 := lt_of_block (h3.block HB.out.1)
  have c1 := cell_of_block (h3.block HG.out)
  have z1 := lt_of_block (h3.block HG.out)
  repeat (go_big_quiet_step (first | (go_at_call 54; exact calls_bw (sLess_below _ _ _ _ _)) | (go_at_call 53; exact calls_bw (sJoin_below _ _ _ _ _))))
  refine wpQuiet_nil ?_
  intro w4 h4
  have l3 : Below w.heap.size w w4 := k3.trans (Below.mono h4 k3.size)
  have f2 := cell_of_block (h4.block HB.out.2)
  have g2 := free_of_block (h4.block HB.out.2)
  clear c0 c1 z0 z1 h4 h3 k3
  go_simp
  simp only [Yld]
  go_wp2
  refine bodyPost_ret (by simp [results, Try.results47, go_sem, f2]; try rfl) rfl ?_
  exact ⟨rfl, ((l3.setCell (by simp <;> omega) _).setCell (by simp <;> omega) _)⟩

/-- A card, or none. -/
def wcR (ok : Bool) (s : ByteArray) (x y : Int) : Value := .tuple #[.agg #[.string (if ok then s else ByteArray.empty), .int .u64 (if ok then x else 0), .int .u64 (if ok then y else 0)], .int .i64 (if ok then 0 else 1)]
theorem wcR_no (s : ByteArray) (x y : Int) : .tuple #[.agg #[.string ByteArray.empty, .int .u64 0, .int .u64 0], .int .i64 1] = wcR false s x y := rfl
theorem wcR_yes (s : ByteArray) (x y : Int) : .tuple #[.agg #[.string s, .int .u64 x, .int .u64 y], .int .i64 0] = wcR true s x y := rfl
theorem wcR_parts (ok : Bool) (s : ByteArray) (x y : Int) : ∃ (r : ByteArray) (p q c : Int), wcR ok s x y = .tuple #[.agg #[.string r, .int .u64 p, .int .u64 q], .int .i64 c] := ⟨_, _, _, _, rfl⟩

set_option maxHeartbeats 1600000 in
theorem iWearCard_any (s : ByteArray) (m n : Int) (hs : s.size ≤ maxLen) (a b c d : Int) (w : World) :
    Calls Try.prog 19 #[.agg #[.string s, .int .u64 m, .int .u64 n], .agg #[.int .u64 a, .int .u64 b, .int .u64 c, .int .u64 d]] w fun e w' => e = .returned (wcR (cardOk s n && qOk a b c d) s (bits .or .u64 (bits .andNot .u64 m c) a) (bits .or .u64 (bits .andNot .u64 n d) b)) ∧ Below w.heap.size w w' := by
  have V1 := Lib.hid fun W => iValidCard_any s m n hs W
  have V2 := Lib.hid fun W => iWr_any a b c d W
  have HB := Lib.hid (wblock_three w (.cells #[.string s, .int .u64 m, .int .u64 n] 36) (.cells #[.int .u64 a, .int .u64 b, .int .u64 c, .int .u64 d] 29) (.cells #[.string ByteArray.empty, .int .u64 0, .int .u64 0] 36))
  clear hs
  cases h : cardOk s n
  · rw [h] at V1
    clear h V2
    go_enter Try.func19, Try.ntmps19
    go_wp2_with (go_at_call 48; refine (V1.out _).mono ?_; rintro e w1 ⟨rfl, hB⟩; have B0 := Ab.block hB HB.out.1; have B1 := Ab.block hB HB.out.2.1; have B2 := Ab.block hB HB.out.2.2; have c0 := cell_of_block B0; have c1 := cell_of_block B1; have c2 := cell_of_block B2; have g2 := free_of_block B2; have g0 := free_of_block B0; have B0 := Lib.hid B0; have B1 := Lib.hid B1; have B2 := Lib.hid B2; have k3 : Below w.heap.size w w1 := (below_new (below_new (below_new (Below.refl _ _) _) _) _).trans (Below.mono hB (by simp; omega)))
    refine bodyPost_ret (by simp [results, Try.results19, go_sem, c2]; try rfl) rfl ?_
    exact ⟨eRet (wcR_no ..), (((k3.setCell (by simp <;> omega) _).setCell (by simp <;> omega) _).setCell (by simp <;> omega) _)⟩
  · rw [h] at V1
    clear h
    cases h2 : qOk a b c d
    · rw [h2] at V2
      clear h2
      go_enter Try.func19, Try.ntmps19
      go_wp2_with (first | (go_at_call 48; refine (V1.out _).mono ?_; rintro e w1 ⟨rfl, hB⟩; have B0 := Ab.block hB HB.out.1; have B1 := Ab.block hB HB.out.2.1; have B2 := Ab.block hB HB.out.2.2; have c0 := cell_of_block B0; have c1 := cell_of_block B1; have c2 := cell_of_block B2; have g2 := free_of_block B2; have g0 := free_of_block B0; have B0 := Lib.hid B0; have B1 := Lib.hid B1; have B2 := Lib.hid B2; have k3 : Below w.heap.size w w1 := (below_new (below_new (below_new (Below.refl _ _) _) _) _).trans (Below.mono hB (by simp; omega))) | (go_at_call 15; refine (V2.out _).mono ?_; rintro e w2 ⟨rfl, hB2⟩; clear c0 c1 c2 g2 g0; have D0 := Ab.block hB2 B0.out; have D1 := Ab.block hB2 B1.out; have D2 := Ab.block hB2 B2.out; have c0 := cell_of_block D0; have c1 := cell_of_block D1; have c2 := cell_of_block D2; have g0 := free_of_block D0; have g2 := free_of_block D2; have D0 := Lib.hid D0; have D1 := Lib.hid D1; have D2 := Lib.hid D2; have j3 : Below w.heap.size w w2 := k3.trans (Below.mono hB2 k3.size)))
      refine bodyPost_ret (by simp [results, Try.results19, go_sem, c2]; try rfl) rfl ?_
      exact ⟨eRet (wcR_no ..), (((j3.setCell (by simp <;> omega) _).setCell (by simp <;> omega) _).setCell (by simp <;> omega) _)⟩
    · rw [h2] at V2
      clear h2
      go_enter Try.func19, Try.ntmps19
      go_wp2_with (first | (go_at_call 48; refine (V1.out _).mono ?_; rintro e w1 ⟨rfl, hB⟩; have B0 := Ab.block hB HB.out.1; have B1 := Ab.block hB HB.out.2.1; have B2 := Ab.block hB HB.out.2.2; have c0 := cell_of_block B0; have c1 := cell_of_block B1; have c2 := cell_of_block B2; have g2 := free_of_block B2; have g0 := free_of_block B0; have B0 := Lib.hid B0; have B1 := Lib.hid B1; have B2 := Lib.hid B2; have k3 : Below w.heap.size w w1 := (below_new (below_new (below_new (Below.refl _ _) _) _) _).trans (Below.mono hB (by simp; omega))) | (go_at_call 15; refine (V2.out _).mono ?_; rintro e w2 ⟨rfl, hB2⟩; clear c0 c1 c2 g2 g0; have D0 := Ab.block hB2 B0.out; have D1 := Ab.block hB2 B1.out; have D2 := Ab.block hB2 B2.out; have c0 := cell_of_block D0; have c1 := cell_of_block D1; have c2 := cell_of_block D2; have g0 := free_of_block D0; have g2 := free_of_block D2; have D0 := Lib.hid D0; have D1 := Lib.hid D1; have D2 := Lib.hid D2; have j3 : Below w.heap.size w w2 := k3.trans (Below.mono hB2 k3.size)) | (go_at_call 49; refine (iOn_any _ _ _ _ _ _ _).mono ?_; rintro e w3 ⟨rfl, hB3⟩; clear c0 c1 c2 g2 g0; have E0 := Ab.block hB3 D0.out; have E2 := Ab.block hB3 D2.out; have c0 := cell_of_block E0; have g0 := free_of_block E0; have c2 := cell_of_block E2; have g2 := free_of_block E2; have z0 := lt_of_block E0; have l3 : Below w.heap.size w w3 := j3.trans (Below.mono hB3 j3.size)))
      refine bodyPost_ret (by simp [results, Try.results19, go_sem, c2]; try rfl) rfl ?_
      exact ⟨eRet (wcR_yes ..), (((((l3.setCell (by simp <;> omega) _).setCell (by simp <;> omega) _).setCell (by simp <;> omega) _).setCell (by simp <;> omega) _).setCell (by simp <;> omega) _)⟩

set_option maxHeartbeats 1600000 in
theorem sWearCard_any (s : ByteArray) (m n : Int) (hs : s.size ≤ maxLen) (a b c d : Int) (w : World) :
    Calls Try.prog 17 #[.agg #[.string s, .int .u64 m, .int .u64 n], .agg #[.int .u64 a, .int .u64 b, .int .u64 c, .int .u64 d]] w fun e w' => e = .returned (wcR (cardOk s n && qOk a b c d) s (bits .andNot .u64 (bits .or .u64 m a) c) (bits .andNot .u64 (bits .or .u64 n b) d)) ∧ Below w.heap.size w w' := by
  have V1 := Lib.hid fun W h0 h1 h2 => sOk_any s n hs w.heap.size 0 W m h0 h1 h2
  have V2 := Lib.hid fun W h0 h1 h2 h3 => sWr_any a b c d (w.heap.size + 1) 0 W h0 h1 h2 h3
  have HB := Lib.hid (wblock_three w (.cells #[.string s, .int .u64 m, .int .u64 n] 36) (.cells #[.int .u64 a, .int .u64 b, .int .u64 c, .int .u64 d] 29) (.cells #[.string ByteArray.empty, .int .u64 0, .int .u64 0] 36))
  clear hs
  cases h : cardOk s n
  · rw [h] at V1
    clear h V2
    go_enter Try.func17, Try.ntmps17
    go_wp2_with (go_at_call 46; refine Calls.mono (V1.out _ ?_ ?_ ?_) ?_; exact cell_of_block HB.out.1 0; exact cell_of_block HB.out.1 1; exact cell_of_block HB.out.1 2; rintro e w1 ⟨rfl, hB⟩; have B0 := Ab.block hB HB.out.1; have B1 := Ab.block hB HB.out.2.1; have B2 := Ab.block hB HB.out.2.2; have c0 := cell_of_block B0; have c1 := cell_of_block B1; have c2 := cell_of_block B2; have g2 := free_of_block B2; have g0 := free_of_block B0; have B0 := Lib.hid B0; have B1 := Lib.hid B1; have B2 := Lib.hid B2; have k3 : Below w.heap.size w w1 := (below_new (below_new (below_new (Below.refl _ _) _) _) _).trans (Below.mono hB (by simp; omega)))
    refine bodyPost_ret (by simp [results, Try.results17, go_sem, c2]; try rfl) rfl ?_
    exact ⟨eRet (wcR_no ..), (((k3.setCell (by simp <;> omega) _).setCell (by simp <;> omega) _).setCell (by simp <;> omega) _)⟩
  · rw [h] at V1
    clear h
    cases h2 : qOk a b c d
    · rw [h2] at V2
      clear h2
      go_enter Try.func17, Try.ntmps17
      go_wp2_with (first | (go_at_call 46; refine Calls.mono (V1.out _ ?_ ?_ ?_) ?_; exact cell_of_block HB.out.1 0; exact cell_of_block HB.out.1 1; exact cell_of_block HB.out.1 2; rintro e w1 ⟨rfl, hB⟩; have B0 := Ab.block hB HB.out.1; have B1 := Ab.block hB HB.out.2.1; have B2 := Ab.block hB HB.out.2.2; have c0 := cell_of_block B0; have c1 := cell_of_block B1; have c2 := cell_of_block B2; have g2 := free_of_block B2; have g0 := free_of_block B0; have B0 := Lib.hid B0; have B1 := Lib.hid B1; have B2 := Lib.hid B2; have k3 : Below w.heap.size w w1 := (below_new (below_new (below_new (Below.refl _ _) _) _) _).trans (Below.mono hB (by simp; omega))) | (go_at_call 43; refine Calls.mono (V2.out _ ?_ ?_ ?_ ?_) ?_; exact cell_of_block B1.out 0; exact cell_of_block B1.out 1; exact cell_of_block B1.out 2; exact cell_of_block B1.out 3; rintro e w2 ⟨rfl, hB2⟩; clear c0 c1 c2 g2 g0; have D0 := Ab.block hB2 B0.out; have D1 := Ab.block hB2 B1.out; have D2 := Ab.block hB2 B2.out; have c0 := cell_of_block D0; have c1 := cell_of_block D1; have c2 := cell_of_block D2; have g0 := free_of_block D0; have g2 := free_of_block D2; have D0 := Lib.hid D0; have D1 := Lib.hid D1; have D2 := Lib.hid D2; have j3 : Below w.heap.size w w2 := k3.trans (Below.mono hB2 k3.size)))
      refine bodyPost_ret (by simp [results, Try.results17, go_sem, c2]; try rfl) rfl ?_
      exact ⟨eRet (wcR_no ..), (((j3.setCell (by simp <;> omega) _).setCell (by simp <;> omega) _).setCell (by simp <;> omega) _)⟩
    · rw [h2] at V2
      clear h2
      go_enter Try.func17, Try.ntmps17
      go_wp2_with (first | (go_at_call 46; refine Calls.mono (V1.out _ ?_ ?_ ?_) ?_; exact cell_of_block HB.out.1 0; exact cell_of_block HB.out.1 1; exact cell_of_block HB.out.1 2; rintro e w1 ⟨rfl, hB⟩; have B0 := Ab.block hB HB.out.1; have B1 := Ab.block hB HB.out.2.1; have B2 := Ab.block hB HB.out.2.2; have c0 := cell_of_block B0; have c1 := cell_of_block B1; have c2 := cell_of_block B2; have g2 := free_of_block B2; have g0 := free_of_block B0; have B0 := Lib.hid B0; have B1 := Lib.hid B1; have B2 := Lib.hid B2; have k3 : Below w.heap.size w w1 := (below_new (below_new (below_new (Below.refl _ _) _) _) _).trans (Below.mono hB (by simp; omega))) | (go_at_call 43; refine Calls.mono (V2.out _ ?_ ?_ ?_ ?_) ?_; exact cell_of_block B1.out 0; exact cell_of_block B1.out 1; exact cell_of_block B1.out 2; exact cell_of_block B1.out 3; rintro e w2 ⟨rfl, hB2⟩; clear c0 c1 c2 g2 g0; have D0 := Ab.block hB2 B0.out; have D1 := Ab.block hB2 B1.out; have D2 := Ab.block hB2 B2.out; have c0 := cell_of_block D0; have c1 := cell_of_block D1; have c2 := cell_of_block D2; have g0 := free_of_block D0; have g2 := free_of_block D2; have D0 := Lib.hid D0; have D1 := Lib.hid D1; have D2 := Lib.hid D2; have j3 : Below w.heap.size w w2 := k3.trans (Below.mono hB2 k3.size)) | (go_at_call 47; refine (sOn_any a b c d _ _ _ _ D1.out).mono ?_; rintro e w3 ⟨rfl, hB3⟩; clear c0 c1 c2 g2 g0; have E0 := Ab.block hB3 D0.out; have E2 := Ab.block hB3 D2.out; have c0 := cell_of_block E0; have g0 := free_of_block E0; have c2 := cell_of_block E2; have g2 := free_of_block E2; have z0 := lt_of_block E0; have l3 : Below w.heap.size w w3 := j3.trans (Below.mono hB3 j3.size)))
      refine bodyPost_ret (by simp [results, Try.results17, go_sem, c2]; try rfl) rfl ?_
      exact ⟨eRet (wcR_yes ..), (((((l3.setCell (by simp <;> omega) _).setCell (by simp <;> omega) _).setCell (by simp <;> omega) _).setCell (by simp <;> omega) _).setCell (by simp <;> omega) _)⟩
end Go.Proofs.Ythkmahcdojoioaa
