/- Contracts: is an edit valid: one for every edit, the program's and the model's. -/
import Derived.Test.YtnbijfeidgddmaaGreatDoorEdWC
import Derived.Test.YtnbijfeidgddmaaGreatDoorRsZ1
namespace Go.Proofs.YtnbijfeidgddmaaGreatDoor
open Go.ChangeShapes Go.WideShapes Go.ChangeAt Go.RowKit

theorem iValid_any (x : Ed) (hx : x.fits) (w : World) :
    Calls Tryz.prog 55 #[.agg #[.int .i8 x.k, .string x.s, .int .i16 x.h, .int .u64 x.a, .int .u64 x.b]] w fun e w' => e = .returned (.bool (edOk x)) ∧ Below w.heap.size w w' := by
  obtain ⟨k, s, h, a, b⟩ := x
  obtain ⟨_, hs, hh, _⟩ := hx
  simp only at hs hh ⊢
  by_cases h1 : k = 1
  · subst h1; rw [edOk_card (.inl rfl)]; exact iValidE_1 s h a b hs w
  by_cases h2 : k = 2
  · subst h2; rw [edOk_card (.inr rfl)]; exact iValidE_2 s h a b hs w
  by_cases h3 : k = 3
  · subst h3; rw [edOk_hole (.inl rfl)]; exact iValidE_3 s h a b hs hh w
  by_cases h4 : k = 4
  · subst h4; rw [edOk_hole (.inr rfl)]; exact iValidE_4 s h a b hs hh w
  · rw [edOk_none (by show ¬ (k = 1 ∨ k = 2 ∨ k = 3 ∨ k = 4); omega)]; exact iValidE_0 k s h a b w (by omega)

def inE (n lo hi : Int) : Bool := decide (lo ≤ n) && decide (n ≤ hi)
set_option maxHeartbeats 400000 in
theorem sInE (n lo hi : Int) (w : World) : Calls Tryz.prog 64 #[.int .i64 n, .int .i64 lo, .int .i64 hi] w fun e w' => e = .returned (.bool (inE n lo hi)) ∧ w = w' := by
  unfold inE
  by_cases h : lo ≤ n
  · rw [decide_eq_true h, Bool.true_and]
    by_cases h2 : n ≤ hi
    · have d := decide_eq_true h2
      rw [d]
      go_enter Tryz.func64, Tryz.ntmps64
      go_wp2
      go_returns
      exact ⟨rfl, rfl⟩
    · have d := decide_eq_false h2
      rw [d]
      go_enter Tryz.func64, Tryz.ntmps64
      go_wp2
      go_returns
      exact ⟨rfl, rfl⟩
  · have d := decide_eq_false h
    rw [d, Bool.false_and]
    go_enter Tryz.func64, Tryz.ntmps64
    go_wp2
    go_returns
    exact ⟨rfl, rfl⟩

theorem sHoleE {n : Int} {x : Bool} (h : hoE n = x) : Hid (∀ w : World, Calls Tryz.prog 48 #[.int .i64 n] w fun e w' => e = .returned (.bool x) ∧ w = w') := Lib.hid fun w => by
  have hx : inE n 0 95 = x := by rw [← h]; unfold inE hoE; by_cases h0 : 0 ≤ n <;> by_cases h1 : n ≤ 95 <;> simp [h0, h1]
  have I := Lib.hid fun W => sInE n 0 95 W
  rw [hx] at I
  clear h hx
  go_enter Tryz.func48, Tryz.ntmps48
  go_wp2_with (go_at_call 64; refine (I.out _).mono ?_; rintro e w1 ⟨rfl, rfl⟩)
  go_returns
  exact ⟨rfl, rfl⟩

set_option maxRecDepth 100000 in
set_option maxHeartbeats 1600000 in
theorem sEdit_1 (s : ByteArray) (h a b : Int) (hs : s.size ≤ maxLen) (g o : Nat) (w : World) (h0 : w.cell? ⟨g, o, none⟩ = some (.int .i8 1)) (h1 : w.cell? ⟨g, o + 1, none⟩ = some (.string s)) (h2 : w.cell? ⟨g, o + 2, none⟩ = some (.int .i16 h)) (h3 : w.cell? ⟨g, o + 3, none⟩ = some (.int .u64 a)) (h4 : w.cell? ⟨g, o + 4, none⟩ = some (.int .u64 b)) :
    Calls Tryz.prog 49 #[.pointer (some ⟨g, o, none⟩)] w fun e w' => e = .returned (.bool (nameOk s && (h == 0 && maskOk b))) ∧ Below w.heap.size w w' := by
  have N := Lib.hid fun W => sName_any s hs W
  clear hs
  cases hn : nameOk s
  · rw [hn] at N
    rw [Bool.false_and]
    clear hn
    go_enter Tryz.func49, Tryz.ntmps49
    go_wp2_with (go_at_call 63; refine (N.out _).mono ?_; rintro e w2 ⟨rfl, rfl⟩)
    go_returns
    exact ⟨rfl, Below.refl _ _⟩
  · rw [hn] at N
    rw [Bool.true_and]
    clear hn
    cases e0 : (h == 0)
    · rw [Bool.false_and]
      go_enter Tryz.func49, Tryz.ntmps49
      go_wp2_with (go_at_call 63; refine (N.out _).mono ?_; rintro e w2 ⟨rfl, rfl⟩)
      go_returns
      exact ⟨rfl, Below.refl _ _⟩
    · rw [Bool.true_and]
      unfold maskOk
      cases hm : (b / 4294967296 == 0)
      all_goals
        have M := sMask_is a hm
        clear hm
        go_enter Tryz.func49, Tryz.ntmps49
        go_wp2_with (first
          | (go_at_call 63; refine (N.out _).mono ?_; rintro e w2 ⟨rfl, rfl⟩)
          | (go_at_call 80; refine (M.out _).mono ?_; rintro e w4 ⟨rfl, hB⟩))
        go_returns
        exact ⟨rfl, hB⟩

set_option maxRecDepth 100000 in
set_option maxHeartbeats 1600000 in
theorem sEdit_2 (s : ByteArray) (h a b : Int) (hs : s.size ≤ maxLen) (g o : Nat) (w : World) (h0 : w.cell? ⟨g, o, none⟩ = some (.int .i8 2)) (h1 : w.cell? ⟨g, o + 1, none⟩ = some (.string s)) (h2 : w.cell? ⟨g, o + 2, none⟩ = some (.int .i16 h)) (h3 : w.cell? ⟨g, o + 3, none⟩ = some (.int .u64 a)) (h4 : w.cell? ⟨g, o + 4, none⟩ = some (.int .u64 b)) :
    Calls Tryz.prog 49 #[.pointer (some ⟨g, o, none⟩)] w fun e w' => e = .returned (.bool (nameOk s && (h == 0 && maskOk b))) ∧ Below w.heap.size w w' := by
  have N := Lib.hid fun W => sName_any s hs W
  clear hs
  cases hn : nameOk s
  · rw [hn] at N
    rw [Bool.false_and]
    clear hn
    go_enter Tryz.func49, Tryz.ntmps49
    go_wp2_with (go_at_call 63; refine (N.out _).mono ?_; rintro e w2 ⟨rfl, rfl⟩)
    go_returns
    exact ⟨rfl, Below.refl _ _⟩
  · rw [hn] at N
    rw [Bool.true_and]
    clear hn
    cases e0 : (h == 0)
    · rw [Bool.false_and]
      go_enter Tryz.func49, Tryz.ntmps49
      go_wp2_with (go_at_call 63; refine (N.out _).mono ?_; rintro e w2 ⟨rfl, rfl⟩)
      go_returns
      exact ⟨rfl, Below.refl _ _⟩
    · rw [Bool.true_and]
      unfold maskOk
      cases hm : (b / 4294967296 == 0)
      all_goals
        have M := sMask_is a hm
        clear hm
        go_enter Tryz.func49, Tryz.ntmps49
        go_wp2_with (first
          | (go_at_call 63; refine (N.out _).mono ?_; rintro e w2 ⟨rfl, rfl⟩)
          | (go_at_call 80; refine (M.out _).mono ?_; rintro e w4 ⟨rfl, hB⟩))
        go_returns
        exact ⟨rfl, hB⟩

set_option maxRecDepth 100000 in
set_option maxHeartbeats 1600000 in
theorem sEdit_3 (s : ByteArray) (h a b : Int) (hs : s.size ≤ maxLen) (hh : I16 h) (g o : Nat) (w : World) (h0 : w.cell? ⟨g, o, none⟩ = some (.int .i8 3)) (h1 : w.cell? ⟨g, o + 1, none⟩ = some (.string s)) (h2 : w.cell? ⟨g, o + 2, none⟩ = some (.int .i16 h)) (h3 : w.cell? ⟨g, o + 3, none⟩ = some (.int .u64 a)) (h4 : w.cell? ⟨g, o + 4, none⟩ = some (.int .u64 b)) :
    Calls Tryz.prog 49 #[.pointer (some ⟨g, o, none⟩)] w fun e w' => e = .returned (.bool (nameOk s && (hoE h && (a == 0 && b == 0)))) ∧ Below w.heap.size w w' := by
  have N := Lib.hid fun W => sName_any s hs W
  have eqm := eq_mask
  have x1 : IntKind.i64.wrap h = h := IntWalk.i64_in _ (by have := hh.1; have := hh.2; omega)
  clear hs hh
  cases hn : nameOk s
  · rw [hn] at N
    rw [Bool.false_and]
    clear hn
    go_enter Tryz.func49, Tryz.ntmps49
    go_wp2_with (go_at_call 63; refine (N.out _).mono ?_; rintro e w2 ⟨rfl, rfl⟩)
    go_returns
    exact ⟨rfl, Below.refl _ _⟩
  · rw [hn] at N
    rw [Bool.true_and]
    clear hn
    cases e0 : hoE h
    · have L := sHoleE e0
      rw [Bool.false_and]
      clear e0
      go_enter Tryz.func49, Tryz.ntmps49
      go_wp2_with (first
        | (go_at_call 63; refine (N.out _).mono ?_; rintro e w2 ⟨rfl, rfl⟩)
        | (go_at_call 48; refine (L.out _).mono ?_; rintro e w4 ⟨rfl, rfl⟩))
      go_returns
      exact ⟨rfl, Below.refl _ _⟩
    · have L := sHoleE e0
      rw [Bool.true_and]
      clear e0
      cases hm : (a == 0 && b == 0)
      all_goals
        go_enter Tryz.func49, Tryz.ntmps49
        go_wp2_with (first
          | (go_at_call 63; refine (N.out _).mono ?_; rintro e w2 ⟨rfl, rfl⟩)
          | (go_at_call 48; refine (L.out _).mono ?_; rintro e w4 ⟨rfl, rfl⟩))
        go_returns
        exact ⟨rfl, Below.refl _ _⟩

set_option maxRecDepth 100000 in
set_option maxHeartbeats 1600000 in
theorem sEdit_4 (s : ByteArray) (h a b : Int) (hs : s.size ≤ maxLen) (hh : I16 h) (g o : Nat) (w : World) (h0 : w.cell? ⟨g, o, none⟩ = some (.int .i8 4)) (h1 : w.cell? ⟨g, o + 1, none⟩ = some (.string s)) (h2 : w.cell? ⟨g, o + 2, none⟩ = some (.int .i16 h)) (h3 : w.cell? ⟨g, o + 3, none⟩ = some (.int .u64 a)) (h4 : w.cell? ⟨g, o + 4, none⟩ = some (.int .u64 b)) :
    Calls Tryz.prog 49 #[.pointer (some ⟨g, o, none⟩)] w fun e w' => e = .returned (.bool (nameOk s && (hoE h && (a == 0 && b == 0)))) ∧ Below w.heap.size w w' := by
  have N := Lib.hid fun W => sName_any s hs W
  have eqm := eq_mask
  have x1 : IntKind.i64.wrap h = h := IntWalk.i64_in _ (by have := hh.1; have := hh.2; omega)
  clear hs hh
  cases hn : nameOk s
  · rw [hn] at N
    rw [Bool.false_and]
    clear hn
    go_enter Tryz.func49, Tryz.ntmps49
    go_wp2_with (go_at_call 63; refine (N.out _).mono ?_; rintro e w2 ⟨rfl, rfl⟩)
    go_returns
    exact ⟨rfl, Below.refl _ _⟩
  · rw [hn] at N
    rw [Bool.true_and]
    clear hn
    cases e0 : hoE h
    · have L := sHoleE e0
      rw [Bool.false_and]
      clear e0
      go_enter Tryz.func49, Tryz.ntmps49
      go_wp2_with (first
        | (go_at_call 63; refine (N.out _).mono ?_; rintro e w2 ⟨rfl, rfl⟩)
        | (go_at_call 48; refine (L.out _).mono ?_; rintro e w4 ⟨rfl, rfl⟩))
      go_returns
      exact ⟨rfl, Below.refl _ _⟩
    · have L := sHoleE e0
      rw [Bool.true_and]
      clear e0
      cases hm : (a == 0 && b == 0)
      all_goals
        go_enter Tryz.func49, Tryz.ntmps49
        go_wp2_with (first
          | (go_at_call 63; refine (N.out _).mono ?_; rintro e w2 ⟨rfl, rfl⟩)
          | (go_at_call 48; refine (L.out _).mono ?_; rintro e w4 ⟨rfl, rfl⟩))
        go_returns
        exact ⟨rfl, Below.refl _ _⟩

set_option maxRecDepth 100000 in
set_option maxHeartbeats 1600000 in
theorem sEdit_0 (k : Int) (s : ByteArray) (h a b : Int) (hk : ¬ (k = 1 ∨ k = 2 ∨ k = 3 ∨ k = 4)) (g o : Nat) (w : World) (h0 : w.cell? ⟨g, o, none⟩ = some (.int .i8 k)) (_h1 : w.cell? ⟨g, o + 1, none⟩ = some (.string s)) (_h2 : w.cell? ⟨g, o + 2, none⟩ = some (.int .i16 h)) (_h3 : w.cell? ⟨g, o + 3, none⟩ = some (.int .u64 a)) (_h4 : w.cell? ⟨g, o + 4, none⟩ = some (.int .u64 b)) :
    Calls Tryz.prog 49 #[.pointer (some ⟨g, o, none⟩)] w fun e w' => e = .returned (.bool false) ∧ Below w.heap.size w w' := by
  have d1 : (k == 1) = false := beq_eq_false_iff_ne.2 (by omega)
  have d2 : (k == 2) = false := beq_eq_false_iff_ne.2 (by omega)
  have d3 : (k == 3) = false := beq_eq_false_iff_ne.2 (by omega)
  have d4 : (k == 4) = false := beq_eq_false_iff_ne.2 (by omega)
  clear hk _h1 _h2 _h3 _h4
  go_enter Tryz.func49, Tryz.ntmps49
  go_wp2
  go_returns
  exact ⟨rfl, Below.refl _ _⟩

theorem sEdit_any (x : Ed) (hx : x.fits) (g o : Nat) (w : World) (h0 : w.cell? ⟨g, o, none⟩ = some (.int .i8 x.k)) (h1 : w.cell? ⟨g, o + 1, none⟩ = some (.string x.s)) (h2 : w.cell? ⟨g, o + 2, none⟩ = some (.int .i16 x.h)) (h3 : w.cell? ⟨g, o + 3, none⟩ = some (.int .u64 x.a)) (h4 : w.cell? ⟨g, o + 4, none⟩ = some (.int .u64 x.b)) :
    Calls Tryz.prog 49 #[.pointer (some ⟨g, o, none⟩)] w fun e w' => e = .returned (.bool (edOk x)) ∧ Below w.heap.size w w' := by
  obtain ⟨k, s, h, a, b⟩ := x
  obtain ⟨_, hs, hh, _⟩ := hx
  simp only at hs hh h0 h1 h2 h3 h4 ⊢
  by_cases k1 : k = 1
  · subst k1; rw [edOk_card (.inl rfl)]; exact sEdit_1 s h a b hs g o w h0 h1 h2 h3 h4
  by_cases k2 : k = 2
  · subst k2; rw [edOk_card (.inr rfl)]; exact sEdit_2 s h a b hs g o w h0 h1 h2 h3 h4
  by_cases k3 : k = 3
  · subst k3; rw [edOk_hole (.inl rfl)]; exact sEdit_3 s h a b hs hh g o w h0 h1 h2 h3 h4
  by_cases k4 : k = 4
  · subst k4; rw [edOk_hole (.inr rfl)]; exact sEdit_4 s h a b hs hh g o w h0 h1 h2 h3 h4
  · rw [edOk_none (by show ¬ (k = 1 ∨ k = 2 ∨ k = 3 ∨ k = 4); omega)]; exact sEdit_0 k s h a b (by omega) g o w h0 h1 h2 h3 h4
end Go.Proofs.YtnbijfeidgddmaaGreatDoor
