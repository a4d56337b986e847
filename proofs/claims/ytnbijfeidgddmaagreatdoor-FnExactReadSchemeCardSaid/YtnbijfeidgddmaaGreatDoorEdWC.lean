/- Contract: is an edit valid, the program's. -/
import Derived.Test.YtnbijfeidgddmaaGreatDoorRsZ2
import Derived.Test.YtnbijfeidgddmaaGreatDoorRsZ0
namespace Go.Proofs.YtnbijfeidgddmaaGreatDoor
open Go.ChangeShapes Go.WideShapes Go.ChangeAt Go.RowKit

def hoE (n : Int) : Bool := decide (0 ≤ n ∧ n ≤ 95)
theorem ret_edE {x y : Bool} (h : y = x) : Ending.returned (.bool x) = Ending.returned (.bool y) := by rw [h]

set_option maxRecDepth 100000 in
set_option maxHeartbeats 1600000 in
theorem iValidE_1 (s : ByteArray) (h a b : Int) (hs : s.size ≤ maxLen) (w : World) :
    Calls Tryz.prog 55 #[.agg #[.int .i8 1, .string s, .int .i16 h, .int .u64 a, .int .u64 b]] w fun e w' => e = .returned (.bool (nameOk s && (h == 0 && maskOk b))) ∧ Below w.heap.size w w' := by
  have C := Lib.hid fun W => iChange_1 s h a b W
  have O := Lib.hid fun W => iOfHole_1 s h a b W
  have N := Lib.hid fun W => iName_any s hs W
  have HB := Lib.hid (block_alloc w (.cells #[.int .i8 1, .string s, .int .i16 h, .int .u64 a, .int .u64 b] 53))
  have KK := Lib.hid (below_new (Below.refl w.heap.size w) (.cells #[.int .i8 1, .string s, .int .i16 h, .int .u64 a, .int .u64 b] 53))
  clear hs
  cases hn : nameOk s
  · rw [hn] at N
    rw [Bool.false_and]
    clear hn O
    go_enter Tryz.func55, Tryz.ntmps55
    go_wp2_with (first
      | (go_at_call 85; refine (C.out _).mono ?_; rintro e w1 ⟨rfl, hB⟩; have B1 := Lib.hid (KK.out.trans (Below.mono hB KK.out.size)); have c1 := cell_of_block (Ab.block hB HB.out); clear hB)
      | (go_at_call 72; refine (N.out _).mono ?_; rintro e w2 ⟨rfl, rfl⟩))
    go_returns
    exact ⟨rfl, B1.out⟩
  · rw [hn] at N
    rw [Bool.true_and]
    clear hn
    cases h0 : (h == 0)
    · rw [Bool.false_and]
      go_enter Tryz.func55, Tryz.ntmps55
      go_wp2_with (first
        | (go_at_call 85; refine (C.out _).mono ?_; rintro e w1 ⟨rfl, hB⟩; have B1 := Lib.hid (KK.out.trans (Below.mono hB KK.out.size)); have b1 := Lib.hid (Ab.block hB HB.out); have c1 := cell_of_block b1.out; clear hB)
        | (go_at_call 72; refine (N.out _).mono ?_; rintro e w2 ⟨rfl, rfl⟩)
        | (go_at_call 53; refine (O.out _).mono ?_; rintro e w3 ⟨rfl, hB⟩; have B3 := Lib.hid (B1.out.trans (Below.mono hB B1.out.size)); have b3 := Lib.hid (Ab.block hB b1.out); clear c1; have c3 := cell_of_block b3.out; clear hB))
      go_returns
      exact ⟨rfl, B3.out⟩
    · rw [Bool.true_and]
      unfold maskOk
      cases hm : (b / 4294967296 == 0)
      all_goals
        have M := iMask_is a hm
        clear hm
        go_enter Tryz.func55, Tryz.ntmps55
        go_wp2_with (first
          | (go_at_call 85; refine (C.out _).mono ?_; rintro e w1 ⟨rfl, hB⟩; have B1 := Lib.hid (KK.out.trans (Below.mono hB KK.out.size)); have b1 := Lib.hid (Ab.block hB HB.out); have c1 := cell_of_block b1.out; clear hB)
          | (go_at_call 72; refine (N.out _).mono ?_; rintro e w2 ⟨rfl, rfl⟩)
          | (go_at_call 53; refine (O.out _).mono ?_; rintro e w3 ⟨rfl, hB⟩; have B3 := Lib.hid (B1.out.trans (Below.mono hB B1.out.size)); have b3 := Lib.hid (Ab.block hB b1.out); clear c1; have c3 := cell_of_block b3.out; clear hB)
          | (go_at_call 86; refine (M.out _).mono ?_; rintro e w4 ⟨rfl, hB⟩; have B4 := Lib.hid (B3.out.trans (Below.mono hB B3.out.size)); clear hB))
        go_returns
        exact ⟨rfl, B4.out⟩

set_option maxRecDepth 100000 in
set_option maxHeartbeats 1600000 in
theorem iValidE_2 (s : ByteArray) (h a b : Int) (hs : s.size ≤ maxLen) (w : World) :
    Calls Tryz.prog 55 #[.agg #[.int .i8 2, .string s, .int .i16 h, .int .u64 a, .int .u64 b]] w fun e w' => e = .returned (.bool (nameOk s && (h == 0 && maskOk b))) ∧ Below w.heap.size w w' := by
  have C := Lib.hid fun W => iChange_2 s h a b W
  have O := Lib.hid fun W => iOfHole_2 s h a b W
  have N := Lib.hid fun W => iName_any s hs W
  have HB := Lib.hid (block_alloc w (.cells #[.int .i8 2, .string s, .int .i16 h, .int .u64 a, .int .u64 b] 53))
  have KK := Lib.hid (below_new (Below.refl w.heap.size w) (.cells #[.int .i8 2, .string s, .int .i16 h, .int .u64 a, .int .u64 b] 53))
  clear hs
  cases hn : nameOk s
  · rw [hn] at N
    rw [Bool.false_and]
    clear hn O
    go_enter Tryz.func55, Tryz.ntmps55
    go_wp2_with (first
      | (go_at_call 85; refine (C.out _).mono ?_; rintro e w1 ⟨rfl, hB⟩; have B1 := Lib.hid (KK.out.trans (Below.mono hB KK.out.size)); have c1 := cell_of_block (Ab.block hB HB.out); clear hB)
      | (go_at_call 72; refine (N.out _).mono ?_; rintro e w2 ⟨rfl, rfl⟩))
    go_returns
    exact ⟨rfl, B1.out⟩
  · rw [hn] at N
    rw [Bool.true_and]
    clear hn
    cases h0 : (h == 0)
    · rw [Bool.false_and]
      go_enter Tryz.func55, Tryz.ntmps55
      go_wp2_with (first
        | (go_at_call 85; refine (C.out _).mono ?_; rintro e w1 ⟨rfl, hB⟩; have B1 := Lib.hid (KK.out.trans (Below.mono hB KK.out.size)); have b1 := Lib.hid (Ab.block hB HB.out); have c1 := cell_of_block b1.out; clear hB)
        | (go_at_call 72; refine (N.out _).mono ?_; rintro e w2 ⟨rfl, rfl⟩)
        | (go_at_call 53; refine (O.out _).mono ?_; rintro e w3 ⟨rfl, hB⟩; have B3 := Lib.hid (B1.out.trans (Below.mono hB B1.out.size)); have b3 := Lib.hid (Ab.block hB b1.out); clear c1; have c3 := cell_of_block b3.out; clear hB))
      go_returns
      exact ⟨rfl, B3.out⟩
    · rw [Bool.true_and]
      unfold maskOk
      cases hm : (b / 4294967296 == 0)
      all_goals
        have M := iMask_is a hm
        clear hm
        go_enter Tryz.func55, Tryz.ntmps55
        go_wp2_with (first
          | (go_at_call 85; refine (C.out _).mono ?_; rintro e w1 ⟨rfl, hB⟩; have B1 := Lib.hid (KK.out.trans (Below.mono hB KK.out.size)); have b1 := Lib.hid (Ab.block hB HB.out); have c1 := cell_of_block b1.out; clear hB)
          | (go_at_call 72; refine (N.out _).mono ?_; rintro e w2 ⟨rfl, rfl⟩)
          | (go_at_call 53; refine (O.out _).mono ?_; rintro e w3 ⟨rfl, hB⟩; have B3 := Lib.hid (B1.out.trans (Below.mono hB B1.out.size)); have b3 := Lib.hid (Ab.block hB b1.out); clear c1; have c3 := cell_of_block b3.out; clear hB)
          | (go_at_call 86; refine (M.out _).mono ?_; rintro e w4 ⟨rfl, hB⟩; have B4 := Lib.hid (B3.out.trans (Below.mono hB B3.out.size)); clear hB))
        go_returns
        exact ⟨rfl, B4.out⟩

theorem iHoleE {n : Int} {x : Bool} (h : hoE n = x) : Hid (∀ w : World, Calls Tryz.prog 82 #[.int .i64 n] w fun e w' => e = .returned (.bool x) ∧ w = w') := Lib.hid fun w => by
  subst h
  unfold hoE
  by_cases h0 : 0 ≤ n
  · have d0 : decide (0 ≤ n) = true := decide_eq_true h0
    by_cases h1 : n ≤ 95
    · have d1 : decide (n < 96) = true := decide_eq_true (by omega)
      rw [decide_eq_true ⟨h0, h1⟩]
      go_enter Tryz.func82, Tryz.ntmps82
      go_wp2
      go_returns
      exact ⟨rfl, rfl⟩
    · have d1 : decide (n < 96) = false := decide_eq_false (by omega)
      rw [decide_eq_false (fun q => h1 q.2)]
      go_enter Tryz.func82, Tryz.ntmps82
      go_wp2
      go_returns
      exact ⟨rfl, rfl⟩
  · have d0 : decide (0 ≤ n) = false := decide_eq_false h0
    rw [decide_eq_false (fun q => h0 q.1)]
    go_enter Tryz.func82, Tryz.ntmps82
    go_wp2
    go_returns
    exact ⟨rfl, rfl⟩

set_option maxRecDepth 100000 in
set_option maxHeartbeats 1600000 in
theorem iValidE_3 (s : ByteArray) (h a b : Int) (hs : s.size ≤ maxLen) (hh : I16 h) (w : World) :
    Calls Tryz.prog 55 #[.agg #[.int .i8 3, .string s, .int .i16 h, .int .u64 a, .int .u64 b]] w fun e w' => e = .returned (.bool (nameOk s && (hoE h && (a == 0 && b == 0)))) ∧ Below w.heap.size w w' := by
  have C := Lib.hid fun W => iChange_3 s h a b W
  have O := Lib.hid fun W => iOfHole_3 s h a b W
  have N := Lib.hid fun W => iName_any s hs W
  have eqm := eq_mask
  have x1 : IntKind.i64.wrap h = h := IntWalk.i64_in _ (by have := hh.1; have := hh.2; omega)
  have HB := Lib.hid (block_alloc w (.cells #[.int .i8 3, .string s, .int .i16 h, .int .u64 a, .int .u64 b] 53))
  have KK := Lib.hid (below_new (Below.refl w.heap.size w) (.cells #[.int .i8 3, .string s, .int .i16 h, .int .u64 a, .int .u64 b] 53))
  clear hs hh
  cases hn : nameOk s
  · rw [hn] at N
    rw [Bool.false_and]
    clear hn O
    go_enter Tryz.func55, Tryz.ntmps55
    go_wp2_with (first
      | (go_at_call 85; refine (C.out _).mono ?_; rintro e w1 ⟨rfl, hB⟩; have B1 := Lib.hid (KK.out.trans (Below.mono hB KK.out.size)); have c1 := cell_of_block (Ab.block hB HB.out); clear hB)
      | (go_at_call 72; refine (N.out _).mono ?_; rintro e w2 ⟨rfl, rfl⟩))
    go_returns
    exact ⟨rfl, B1.out⟩
  · rw [hn] at N
    rw [Bool.true_and]
    clear hn
    cases h0 : hoE h
    · have L := iHoleE h0
      rw [Bool.false_and]
      clear h0
      go_enter Tryz.func55, Tryz.ntmps55
      go_wp2_with (first
        | (go_at_call 85; refine (C.out _).mono ?_; rintro e w1 ⟨rfl, hB⟩; have B1 := Lib.hid (KK.out.trans (Below.mono hB KK.out.size)); have b1 := Lib.hid (Ab.block hB HB.out); have c1 := cell_of_block b1.out; clear hB)
        | (go_at_call 72; refine (N.out _).mono ?_; rintro e w2 ⟨rfl, rfl⟩)
        | (go_at_call 53; refine (O.out _).mono ?_; rintro e w3 ⟨rfl, hB⟩; have B3 := Lib.hid (B1.out.trans (Below.mono hB B1.out.size)); have b3 := Lib.hid (Ab.block hB b1.out); clear c1; have c3 := cell_of_block b3.out; clear hB)
        | (go_at_call 82; refine (L.out _).mono ?_; rintro e w4 ⟨rfl, rfl⟩))
      go_returns
      exact ⟨rfl, B3.out⟩
    · have L := iHoleE h0
      rw [Bool.true_and]
      clear h0
      cases hm : (a == 0 && b == 0)
      all_goals
        go_enter Tryz.func55, Tryz.ntmps55
        go_wp2_with (first
          | (go_at_call 85; refine (C.out _).mono ?_; rintro e w1 ⟨rfl, hB⟩; have B1 := Lib.hid (KK.out.trans (Below.mono hB KK.out.size)); have b1 := Lib.hid (Ab.block hB HB.out); have c1 := cell_of_block b1.out; clear hB)
          | (go_at_call 72; refine (N.out _).mono ?_; rintro e w2 ⟨rfl, rfl⟩)
          | (go_at_call 53; refine (O.out _).mono ?_; rintro e w3 ⟨rfl, hB⟩; have B3 := Lib.hid (B1.out.trans (Below.mono hB B1.out.size)); have b3 := Lib.hid (Ab.block hB b1.out); clear c1; have c3 := cell_of_block b3.out; clear hB)
          | (go_at_call 82; refine (L.out _).mono ?_; rintro e w4 ⟨rfl, rfl⟩))
        go_returns
        exact ⟨rfl, B3.out⟩

set_option maxRecDepth 100000 in
set_option maxHeartbeats 1600000 in
theorem iValidE_4 (s : ByteArray) (h a b : Int) (hs : s.size ≤ maxLen) (hh : I16 h) (w : World) :
    Calls Tryz.prog 55 #[.agg #[.int .i8 4, .string s, .int .i16 h, .int .u64 a, .int .u64 b]] w fun e w' => e = .returned (.bool (nameOk s && (hoE h && (a == 0 && b == 0)))) ∧ Below w.heap.size w w' := by
  have C := Lib.hid fun W => iChange_4 s h a b W
  have O := Lib.hid fun W => iOfHole_4 s h a b W
  have N := Lib.hid fun W => iName_any s hs W
  have eqm := eq_mask
  have x1 : IntKind.i64.wrap h = h := IntWalk.i64_in _ (by have := hh.1; have := hh.2; omega)
  have HB := Lib.hid (block_alloc w (.cells #[.int .i8 4, .string s, .int .i16 h, .int .u64 a, .int .u64 b] 53))
  have KK := Lib.hid (below_new (Below.refl w.heap.size w) (.cells #[.int .i8 4, .string s, .int .i16 h, .int .u64 a, .int .u64 b] 53))
  clear hs hh
  cases hn : nameOk s
  · rw [hn] at N
    rw [Bool.false_and]
    clear hn O
    go_enter Tryz.func55, Tryz.ntmps55
    go_wp2_with (first
      | (go_at_call 85; refine (C.out _).mono ?_; rintro e w1 ⟨rfl, hB⟩; have B1 := Lib.hid (KK.out.trans (Below.mono hB KK.out.size)); have c1 := cell_of_block (Ab.block hB HB.out); clear hB)
      | (go_at_call 72; refine (N.out _).mono ?_; rintro e w2 ⟨rfl, rfl⟩))
    go_returns
    exact ⟨rfl, B1.out⟩
  · rw [hn] at N
    rw [Bool.true_and]
    clear hn
    cases h0 : hoE h
    · have L := iHoleE h0
      rw [Bool.false_and]
      clear h0
      go_enter Tryz.func55, Tryz.ntmps55
      go_wp2_with (first
        | (go_at_call 85; refine (C.out _).mono ?_; rintro e w1 ⟨rfl, hB⟩; have B1 := Lib.hid (KK.out.trans (Below.mono hB KK.out.size)); have b1 := Lib.hid (Ab.block hB HB.out); have c1 := cell_of_block b1.out; clear hB)
        | (go_at_call 72; refine (N.out _).mono ?_; rintro e w2 ⟨rfl, rfl⟩)
        | (go_at_call 53; refine (O.out _).mono ?_; rintro e w3 ⟨rfl, hB⟩; have B3 := Lib.hid (B1.out.trans (Below.mono hB B1.out.size)); have b3 := Lib.hid (Ab.block hB b1.out); clear c1; have c3 := cell_of_block b3.out; clear hB)
        | (go_at_call 82; refine (L.out _).mono ?_; rintro e w4 ⟨rfl, rfl⟩))
      go_returns
      exact ⟨rfl, B3.out⟩
    · have L := iHoleE h0
      rw [Bool.true_and]
      clear h0
      cases hm : (a == 0 && b == 0)
      all_goals
        go_enter Tryz.func55, Tryz.ntmps55
        go_wp2_with (first
          | (go_at_call 85; refine (C.out _).mono ?_; rintro e w1 ⟨rfl, hB⟩; have B1 := Lib.hid (KK.out.trans (Below.mono hB KK.out.size)); have b1 := Lib.hid (Ab.block hB HB.out); have c1 := cell_of_block b1.out; clear hB)
          | (go_at_call 72; refine (N.out _).mono ?_; rintro e w2 ⟨rfl, rfl⟩)
          | (go_at_call 53; refine (O.out _).mono ?_; rintro e w3 ⟨rfl, hB⟩; have B3 := Lib.hid (B1.out.trans (Below.mono hB B1.out.size)); have b3 := Lib.hid (Ab.block hB b1.out); clear c1; have c3 := cell_of_block b3.out; clear hB)
          | (go_at_call 82; refine (L.out _).mono ?_; rintro e w4 ⟨rfl, rfl⟩))
        go_returns
        exact ⟨rfl, B3.out⟩

set_option maxRecDepth 100000 in
set_option maxHeartbeats 1600000 in
theorem iValidE_0 (k : Int) (s : ByteArray) (h a b : Int) (w : World) (hk : ¬ (k = 1 ∨ k = 2 ∨ k = 3 ∨ k = 4)) :
    Calls Tryz.prog 55 #[.agg #[.int .i8 k, .string s, .int .i16 h, .int .u64 a, .int .u64 b]] w fun e w' => e = .returned (.bool false) ∧ Below w.heap.size w w' := by
  have C := Lib.hid fun W => iChange_0 k s h a b W hk
  have KK := Lib.hid (below_new (Below.refl w.heap.size w) (.cells #[.int .i8 k, .string s, .int .i16 h, .int .u64 a, .int .u64 b] 53))
  clear hk
  go_enter Tryz.func55, Tryz.ntmps55
  go_wp2_with (go_at_call 85; refine (C.out _).mono ?_; rintro e w1 ⟨rfl, hB⟩; have B1 := Lib.hid (KK.out.trans (Below.mono hB KK.out.size)); clear hB)
  go_returns
  exact ⟨rfl, B1.out⟩
end Go.Proofs.YtnbijfeidgddmaaGreatDoor
