/- Contracts: the holes of a valid field, the program's and the model's. -/
import Derived.Test.YtnbijfeidgddmaaGreatDoorPartC
import Derived.Test.YtnbijfeidgddmaaGreatDoorMPartC
import Derived.Test.YtnbijfeidgddmaaGreatDoorRsZ0
import Derived.Deep.DeepCutAuto
namespace Go.Proofs.YtnbijfeidgddmaaGreatDoor
open Go.ChangeShapes Go.WideShapes Go.ChangeAt Go.RowKit

theorem pa_ma (f : Int → Int) (s : Int) : ∀ k, pa f s k = ma f s k
  | 0 => rfl
  | k + 1 => by rw [pa, ma, pa_ma f s k]

set_option maxHeartbeats 1600000 in
theorem iPartK_0 (s : ByteArray) (st sz : Int) (t0 : 0 ≤ st) (z0 : 1 ≤ sz) (zb : sz ≤ 24) (_nb : sz ≤ 24) (tw : st + (sz) ≤ 96) (w : World) :
    Calls Tryz.prog 43 #[.agg #[.string s, .int .i8 0, .int .i16 st, .int .i16 sz]] w fun e w' => e = .returned (.agg #[.int .u64 (mp0 st (sz)), .int .u64 (mp1 st (sz))]) ∧ Below w.heap.size w w' := by
  have t1 : st ≤ 95 := by omega
  have L := Lib.hid fun W => layout_0 s st sz z0 (by omega) W
  have HO := Lib.hid fun W => holes_0 sz z0 (by omega) W
  have F := Lib.hid fun W => iFirst_any (sz) (by omega) (by omega) W
  have U := Lib.hid fun W => iMoveUp_any (fu0 (sz)) (fu1 (sz)) st t0 t1 W
  have hbw := cell_bw
  go_enter Tryz.func43, Tryz.ntmps43
  go_upto_region 1 with fail
  refine wp_region_last 8 (by kernel_rfl) rfl rfl (by kernel_rfl) (by kernel_rfl) rfl ?_
  simp only [List.take_succ_cons, List.take_zero]
  have hb := block_alloc2 w (.cells #[.string s, .int .i8 0, .int .i16 st, .int .i16 sz] 38) (.cells #[.int .u64 0, .int .u64 0] 51)
  intro w1 h1
  have c := cell_of_block (h1.block hb.1)
  have zz := lt_of_block (h1.block hb.1)
  repeat (go_big_quiet_step (first | (go_at_call 73; exact calls_all L.out) | (go_invoke; go_simp; go_at_call 163; exact calls_bw_same (HO.out _)) | (go_at_call 76; exact calls_all F.out) | (go_at_call 75; exact calls_all U.out)))
  refine wpQuiet_nil ?_
  intro w3 h3
  have hb3 := h3.block hb.2
  have f0 := cell_of_block hb3
  have f1 := free_of_block hb3
  go_simp
  simp only [Yld]
  go_wp2
  refine bodyPost_ret (by simp [results, Tryz.results43, go_sem, f0]; try rfl) rfl ?_
  exact ⟨rfl, ((below_new (below_new (Below.refl _ _) _) _).trans (Below.mono h3 (by simp; omega))).setCell (by simp) _ |>.setCell (by simp) _⟩

set_option maxHeartbeats 1600000 in
theorem iPartK_1 (s : ByteArray) (st sz : Int) (t0 : 0 ≤ st) (z0 : 1 ≤ sz) (zb : sz ≤ 24) (nb : 4 * sz ≤ 24) (tw : st + (4 * sz) ≤ 96) (w : World) :
    Calls Tryz.prog 43 #[.agg #[.string s, .int .i8 1, .int .i16 st, .int .i16 sz]] w fun e w' => e = .returned (.agg #[.int .u64 (mp0 st (4 * sz)), .int .u64 (mp1 st (4 * sz))]) ∧ Below w.heap.size w w' := by
  have t1 : st ≤ 95 := by omega
  have L := Lib.hid fun W => layout_1 s st sz z0 (by omega) W
  have HO := Lib.hid fun W => holes_1 sz z0 (by omega) W
  have F := Lib.hid fun W => iFirst_any (4 * sz) (by omega) (by omega) W
  have U := Lib.hid fun W => iMoveUp_any (fu0 (4 * sz)) (fu1 (4 * sz)) st t0 t1 W
  have hbw := cell_bw
  go_enter Tryz.func43, Tryz.ntmps43
  go_upto_region 1 with fail
  refine wp_region_last 8 (by kernel_rfl) rfl rfl (by kernel_rfl) (by kernel_rfl) rfl ?_
  simp only [List.take_succ_cons, List.take_zero]
  have hb := block_alloc2 w (.cells #[.string s, .int .i8 1, .int .i16 st, .int .i16 sz] 38) (.cells #[.int .u64 0, .int .u64 0] 51)
  intro w1 h1
  have c := cell_of_block (h1.block hb.1)
  have zz := lt_of_block (h1.block hb.1)
  repeat (go_big_quiet_step (first | (go_at_call 73; exact calls_all L.out) | (go_invoke; go_simp; go_at_call 175; exact calls_bw_same (HO.out _)) | (go_at_call 76; exact calls_all F.out) | (go_at_call 75; exact calls_all U.out)))
  refine wpQuiet_nil ?_
  intro w3 h3
  have hb3 := h3.block hb.2
  have f0 := cell_of_block hb3
  have f1 := free_of_block hb3
  go_simp
  simp only [Yld]
  go_wp2
  refine bodyPost_ret (by simp [results, Tryz.results43, go_sem, f0]; try rfl) rfl ?_
  exact ⟨rfl, ((below_new (below_new (Below.refl _ _) _) _).trans (Below.mono h3 (by simp; omega))).setCell (by simp) _ |>.setCell (by simp) _⟩

set_option maxHeartbeats 1600000 in
theorem iPartK_2 (s : ByteArray) (st sz : Int) (t0 : 0 ≤ st) (z0 : 1 ≤ sz) (zb : sz ≤ 24) (nb : 5 * sz ≤ 24) (tw : st + (5 * sz) ≤ 96) (w : World) :
    Calls Tryz.prog 43 #[.agg #[.string s, .int .i8 2, .int .i16 st, .int .i16 sz]] w fun e w' => e = .returned (.agg #[.int .u64 (mp0 st (5 * sz)), .int .u64 (mp1 st (5 * sz))]) ∧ Below w.heap.size w w' := by
  have t1 : st ≤ 95 := by omega
  have L := Lib.hid fun W => layout_2 s st sz z0 (by omega) W
  have HO := Lib.hid fun W => holes_2 sz z0 (by omega) W
  have F := Lib.hid fun W => iFirst_any (5 * sz) (by omega) (by omega) W
  have U := Lib.hid fun W => iMoveUp_any (fu0 (5 * sz)) (fu1 (5 * sz)) st t0 t1 W
  have hbw := cell_bw
  go_enter Tryz.func43, Tryz.ntmps43
  go_upto_region 1 with fail
  refine wp_region_last 8 (by kernel_rfl) rfl rfl (by kernel_rfl) (by kernel_rfl) rfl ?_
  simp only [List.take_succ_cons, List.take_zero]
  have hb := block_alloc2 w (.cells #[.string s, .int .i8 2, .int .i16 st, .int .i16 sz] 38) (.cells #[.int .u64 0, .int .u64 0] 51)
  intro w1 h1
  have c := cell_of_block (h1.block hb.1)
  have zz := lt_of_block (h1.block hb.1)
  repeat (go_big_quiet_step (first | (go_at_call 73; exact calls_all L.out) | (go_invoke; go_simp; go_at_call 179; exact calls_bw_same (HO.out _)) | (go_at_call 76; exact calls_all F.out) | (go_at_call 75; exact calls_all U.out)))
  refine wpQuiet_nil ?_
  intro w3 h3
  have hb3 := h3.block hb.2
  have f0 := cell_of_block hb3
  have f1 := free_of_block hb3
  go_simp
  simp only [Yld]
  go_wp2
  refine bodyPost_ret (by simp [results, Tryz.results43, go_sem, f0]; try rfl) rfl ?_
  exact ⟨rfl, ((below_new (below_new (Below.refl _ _) _) _).trans (Below.mono h3 (by simp; omega))).setCell (by simp) _ |>.setCell (by simp) _⟩

set_option maxHeartbeats 1600000 in
theorem iPartK_3 (s : ByteArray) (st sz : Int) (t0 : 0 ≤ st) (z0 : 1 ≤ sz) (zb : sz ≤ 24) (nb : sz + 1 ≤ 24) (tw : st + (sz + 1) ≤ 96) (w : World) :
    Calls Tryz.prog 43 #[.agg #[.string s, .int .i8 3, .int .i16 st, .int .i16 sz]] w fun e w' => e = .returned (.agg #[.int .u64 (mp0 st (sz + 1)), .int .u64 (mp1 st (sz + 1))]) ∧ Below w.heap.size w w' := by
  have t1 : st ≤ 95 := by omega
  have L := Lib.hid fun W => layout_3 s st sz z0 (by omega) W
  have HO := Lib.hid fun W => holes_3 sz z0 (by omega) W
  have F := Lib.hid fun W => iFirst_any (sz + 1) (by omega) (by omega) W
  have U := Lib.hid fun W => iMoveUp_any (fu0 (sz + 1)) (fu1 (sz + 1)) st t0 t1 W
  have hbw := cell_bw
  go_enter Tryz.func43, Tryz.ntmps43
  go_upto_region 1 with fail
  refine wp_region_last 8 (by kernel_rfl) rfl rfl (by kernel_rfl) (by kernel_rfl) rfl ?_
  simp only [List.take_succ_cons, List.take_zero]
  have hb := block_alloc2 w (.cells #[.string s, .int .i8 3, .int .i16 st, .int .i16 sz] 38) (.cells #[.int .u64 0, .int .u64 0] 51)
  intro w1 h1
  have c := cell_of_block (h1.block hb.1)
  have zz := lt_of_block (h1.block hb.1)
  repeat (go_big_quiet_step (first | (go_at_call 73; exact calls_all L.out) | (go_invoke; go_simp; go_at_call 167; exact calls_bw_same (HO.out _)) | (go_at_call 76; exact calls_all F.out) | (go_at_call 75; exact calls_all U.out)))
  refine wpQuiet_nil ?_
  intro w3 h3
  have hb3 := h3.block hb.2
  have f0 := cell_of_block hb3
  have f1 := free_of_block hb3
  go_simp
  simp only [Yld]
  go_wp2
  refine bodyPost_ret (by simp [results, Tryz.results43, go_sem, f0]; try rfl) rfl ?_
  exact ⟨rfl, ((below_new (below_new (Below.refl _ _) _) _).trans (Below.mono h3 (by simp; omega))).setCell (by simp) _ |>.setCell (by simp) _⟩
end Go.Proofs.YtnbijfeidgddmaaGreatDoor
