/- What the program answers to two masks, gathered: opaque words, and what is told of them. -/
import Derived.Test.YtoippchkhknhpaaFmM
import Derived.Test.YtoippchkhknhpaaSrcM
namespace Go.Proofs.Ytoippchkhknhpaa
open Go.ChangeShapes Go.WideShapes Go.ChangeAt Go.RowKit

theorem iMeet_bF (a b c d : Int) (w : World) : Calls Try.prog 54 #[.agg #[.int .u64 a, .int .u64 b], .agg #[.int .u64 c, .int .u64 d]] w fun e w' => e = .returned (.agg #[.int .u64 (bits .and .u64 a c), .int .u64 (bits .and .u64 b d)]) ∧ Below w.heap.size w w' :=
  (iMeet_any a b c d w).mono fun e w' ⟨he, hw⟩ => ⟨he, by subst hw; exact (by repeat' (first | (with_reducible exact Below.refl _ _) | (with_reducible assumption) | (with_reducible refine below_drewN ?_ _) | (with_reducible refine Below.drew ?_) | (with_reducible refine below_new ?_ _) | (with_reducible refine below_next ?_ (by with_reducible assumption)) | (with_reducible refine Below.setCell ?_ ?_ _) | go_size))⟩
theorem sJoinM_bF (a b c d : Int) (w : World) : Calls Try.prog 60 #[.agg #[.int .u64 a, .int .u64 b], .agg #[.int .u64 c, .int .u64 d]] w fun e w' => e = .returned (.agg #[.int .u64 (bits .or .u64 a c), .int .u64 (bits .or .u64 b d)]) ∧ Below w.heap.size w w' :=
  (sJoinMasks_any a b c d w).mono fun e w' ⟨he, hw⟩ => ⟨he, by subst hw; exact (by repeat' (first | (with_reducible exact Below.refl _ _) | (with_reducible assumption) | (with_reducible refine below_drewN ?_ _) | (with_reducible refine Below.drew ?_) | (with_reducible refine below_new ?_ _) | (with_reducible refine below_next ?_ (by with_reducible assumption)) | (with_reducible refine Below.setCell ?_ ?_ _) | go_size))⟩
theorem iMaskOk_F {b : Int} (a : Int) (h : (b / 4294967296 == 0) = true) (w : World) : Calls Try.prog 57 #[.agg #[.int .u64 a, .int .u64 b]] w fun e w' => e = .returned (.bool true) ∧ Below w.heap.size w w' := by
  go_enter Try.func57, Try.ntmps57
  go_wp2
  go_returns
  exact ⟨by simp, (by repeat' (first | (with_reducible exact Below.refl _ _) | (with_reducible assumption) | (with_reducible refine below_drewN ?_ _) | (with_reducible refine Below.drew ?_) | (with_reducible refine below_new ?_ _) | (with_reducible refine below_next ?_ (by with_reducible assumption)) | (with_reducible refine Below.setCell ?_ ?_ _) | go_size))⟩
theorem calls_ret {f : FuncId} {args : Array Value} {w : World} {v v' : Value} (h : Calls Try.prog f args w fun e w' => e = .returned v ∧ Below w.heap.size w w') (e : v = v') : Calls Try.prog f args w fun e w' => e = .returned v' ∧ Below w.heap.size w w' := by rw [← e]; exact h

structure FM (X Y U V p0 p1 q0 q1 l0 l1 r0 r1 k0 k1 : Int) (c0 c1 c2 c3 : Nat) (z : Bool) (L : List Int) : Prop where
  meet : ∀ W : World, Calls Try.prog 54 #[.agg #[.int .u64 X, .int .u64 Y], .agg #[.int .u64 U, .int .u64 V]] W fun e w' => e = .returned (.agg #[.int .u64 p0, .int .u64 p1]) ∧ Below W.heap.size W w'
  join : ∀ W : World, Calls Try.prog 55 #[.agg #[.int .u64 X, .int .u64 Y], .agg #[.int .u64 U, .int .u64 V]] W fun e w' => e = .returned (.agg #[.int .u64 q0, .int .u64 q1]) ∧ Below W.heap.size W w'
  less : ∀ W : World, Calls Try.prog 56 #[.agg #[.int .u64 X, .int .u64 Y], .agg #[.int .u64 U, .int .u64 V]] W fun e w' => e = .returned (.agg #[.int .u64 l0, .int .u64 l1]) ∧ Below W.heap.size W w'
  ssel : ∀ W : World, Calls Try.prog 56 #[.agg #[.int .u64 U, .int .u64 V], .agg #[.int .u64 X, .int .u64 Y]] W fun e w' => e = .returned (.agg #[.int .u64 r0, .int .u64 r1]) ∧ Below W.heap.size W w'
  ok1 : ∀ W : World, Calls Try.prog 57 #[.agg #[.int .u64 X, .int .u64 Y]] W fun e w' => e = .returned (.bool true) ∧ Below W.heap.size W w'
  ok2 : ∀ W : World, Calls Try.prog 57 #[.agg #[.int .u64 q0, .int .u64 q1]] W fun e w' => e = .returned (.bool true) ∧ Below W.heap.size W w'
  join2 : ∀ W : World, Calls Try.prog 55 #[.agg #[.int .u64 l0, .int .u64 l1], .agg #[.int .u64 r0, .int .u64 r1]] W fun e w' => e = .returned (.agg #[.int .u64 k0, .int .u64 k1]) ∧ Below W.heap.size W w'
  join3 : ∀ W : World, Calls Try.prog 55 #[.agg #[.int .u64 p0, .int .u64 p1], .agg #[.int .u64 k0, .int .u64 k1]] W fun e w' => e = .returned (.agg #[.int .u64 q0, .int .u64 q1]) ∧ Below W.heap.size W w'
  meet2 : ∀ W : World, Calls Try.prog 54 #[.agg #[.int .u64 l0, .int .u64 l1], .agg #[.int .u64 U, .int .u64 V]] W fun e w' => e = .returned (.agg #[.int .u64 0, .int .u64 0]) ∧ Below W.heap.size W w'
  n0 : ∀ W : World, Calls Try.prog 58 #[.agg #[.int .u64 q0, .int .u64 q1]] W fun e w' => e = .returned (.int .i64 (c0 : Int)) ∧ Below W.heap.size W w'
  n1 : ∀ W : World, Calls Try.prog 58 #[.agg #[.int .u64 p0, .int .u64 p1]] W fun e w' => e = .returned (.int .i64 (c1 : Int)) ∧ Below W.heap.size W w'
  n2 : ∀ W : World, Calls Try.prog 58 #[.agg #[.int .u64 l0, .int .u64 l1]] W fun e w' => e = .returned (.int .i64 (c2 : Int)) ∧ Below W.heap.size W w'
  n3 : ∀ W : World, Calls Try.prog 58 #[.agg #[.int .u64 r0, .int .u64 r1]] W fun e w' => e = .returned (.int .i64 (c3 : Int)) ∧ Below W.heap.size W w'
  w1 : ∀ W : World, Calls Try.prog 59 #[.agg #[.int .u64 p0, .int .u64 p1], .agg #[.int .u64 X, .int .u64 Y]] W fun e w' => e = .returned (.bool true) ∧ Below W.heap.size W w'
  w2 : ∀ W : World, Calls Try.prog 59 #[.agg #[.int .u64 X, .int .u64 Y], .agg #[.int .u64 q0, .int .u64 q1]] W fun e w' => e = .returned (.bool true) ∧ Below W.heap.size W w'
  w3 : ∀ W : World, Calls Try.prog 59 #[.agg #[.int .u64 X, .int .u64 Y], .agg #[.int .u64 U, .int .u64 V]] W fun e w' => e = .returned (.bool z) ∧ Below W.heap.size W w'
  sj : ∀ W : World, Calls Try.prog 60 #[.agg #[.int .u64 X, .int .u64 Y], .agg #[.int .u64 U, .int .u64 V]] W fun e w' => e = .returned (.agg #[.int .u64 q0, .int .u64 q1]) ∧ Below W.heap.size W w'
  hi : ∀ W : World, Calls Try.prog 61 #[.agg #[.int .u64 X, .int .u64 Y]] W (HolR L 0 W)
  hs : ∀ W : World, Calls Try.prog 62 #[.agg #[.int .u64 X, .int .u64 Y]] W (HolR L 0 W)
  mo : ∀ (a : Option Addr) (c : Nat) (W : World), IntsIn W a L → Calls Try.prog 63 #[.slice a L.length c] W fun e w' => e = .returned (.tuple #[.agg #[.int .u64 X, .int .u64 Y], .int .i64 0]) ∧ Below W.heap.size W w'
  n4 : ∀ W : World, Calls Try.prog 58 #[.agg #[.int .u64 X, .int .u64 Y]] W fun e w' => e = .returned (.int .i64 (L.length : Int)) ∧ Below W.heap.size W w'
  isL : L = hol (hasB X Y) 96
  len : L.length ≤ 96
  sum : c0 = c1 + c2 + c3
  b0 : c0 ≤ 128
  sub : (l0 == 0 && l1 == 0) = z

theorem fm_same {x y u v : Nat} (hx : x < 18446744073709551616) (hu : u < 18446744073709551616) (hy : y < 18446744073709551616) (hv : v < 18446744073709551616) :
    (((x &&& u : Nat) : Int) == (x : Int) && ((y &&& v : Nat) : Int) == (y : Int)) = (((lessN x u : Nat) : Int) == 0 && ((lessN y v : Nat) : Int) == 0) := by
  rw [Bool.eq_iff_iff, Bool.and_eq_true, Bool.and_eq_true, beq_iff_eq, beq_iff_eq, beq_iff_eq, beq_iff_eq]
  have h1 := fm5 hx hu
  have h2 := fm5 hy hv
  constructor
  · rintro ⟨a, b⟩
    exact ⟨by have := h1.1 (by omega); omega, by have := h2.1 (by omega); omega⟩
  · rintro ⟨a, b⟩
    exact ⟨by have := h1.2 (by omega); omega, by have := h2.2 (by omega); omega⟩

theorem fm_all (X Y U V : Int) (hX : U64 X) (hY0 : 0 ≤ Y) (hY : Y < 4294967296) (hU : U64 U) (hV0 : 0 ≤ V) (hV : V < 4294967296) : ∃ p0 p1 q0 q1 l0 l1 r0 r1 k0 k1 c0 c1 c2 c3 z L, FM X Y U V p0 p1 q0 q1 l0 l1 r0 r1 k0 k1 c0 c1 c2 c3 z L := by
  obtain ⟨x, rfl⟩ := Int.eq_ofNat_of_zero_le hX.1
  obtain ⟨y, rfl⟩ := Int.eq_ofNat_of_zero_le hY0
  obtain ⟨u, rfl⟩ := Int.eq_ofNat_of_zero_le hU.1
  obtain ⟨v, rfl⟩ := Int.eq_ofNat_of_zero_le hV0
  have gx : x < 18446744073709551616 := by have := hX.2; omega
  have gy : y < 18446744073709551616 := by omega
  have gu : u < 18446744073709551616 := by have := hU.2; omega
  have gv : v < 18446744073709551616 := by omega
  have hy : y < 4294967296 := by omega
  have hv : v < 4294967296 := by omega
  have yv : y ||| v < 2 ^ 32 := Nat.or_lt_two_pow (by omega) (by omega)
  have xu : x ||| u < 2 ^ 64 := Nat.or_lt_two_pow (by omega) (by omega)
  have A : ∀ {a b : Nat}, a < 18446744073709551616 → b < 18446744073709551616 → bits .and .u64 (a : Int) (b : Int) = ((a &&& b : Nat) : Int) := fun ha hb => Go.u64_and_nat _ _ ha hb
  have O : ∀ {a b : Nat}, a < 18446744073709551616 → b < 18446744073709551616 → bits .or .u64 (a : Int) (b : Int) = ((a ||| b : Nat) : Int) := fun ha hb => Go.u64_or_nat _ _ ha hb
  have N : ∀ {a b : Nat}, a < 18446744073709551616 → b < 18446744073709551616 → bits .andNot .u64 (a : Int) (b : Int) = ((lessN a b : Nat) : Int) := fun ha hb => Go.u64_andNot_nat _ _ ha hb
  have lx := less_lt x u gx
  have ly := less_lt y v gy
  have rx := less_lt u x gu
  have ry := less_lt v y gv
  have ax : x &&& u < 18446744073709551616 := Nat.lt_of_le_of_lt Nat.and_le_left gx
  have ay : y &&& v < 18446744073709551616 := Nat.lt_of_le_of_lt Nat.and_le_left gy
  have kx : lessN x u ||| lessN u x < 2 ^ 64 := Nat.or_lt_two_pow (by omega) (by omega)
  have ky : lessN y v ||| lessN v y < 2 ^ 64 := Nat.or_lt_two_pow (by omega) (by omega)
  refine ⟨((x &&& u : Nat) : Int), ((y &&& v : Nat) : Int), ((x ||| u : Nat) : Int), ((y ||| v : Nat) : Int), (lessN x u : Int), (lessN y v : Int), (lessN u x : Int), (lessN v y : Int), ((lessN x u ||| lessN u x : Nat) : Int), ((lessN y v ||| lessN v y : Nat) : Int),
    cnt (x ||| u) (y ||| v), cnt (x &&& u) (y &&& v), cnt (lessN x u) (lessN y v), cnt (lessN u x) (lessN v y), (((lessN x u : Int) == 0) && ((lessN y v : Int) == 0)), hol (hasB (x : Int) (y : Int)) 96, ?_⟩
  have q0 : (((y : Int)) / 4294967296 == 0) = true := by simp; omega
  have q1 : (((y ||| v : Nat) : Int) / 4294967296 == 0) = true := by simp only [beq_iff_eq]; omega
  constructor
  case meet => exact fun W => calls_ret (iMeet_bF _ _ _ _ W) (by rw [A gx gu, A gy gv])
  case join => exact fun W => calls_ret (iJoin_below _ _ _ _ W) (by rw [O gx gu, O gy gv])
  case less => exact fun W => calls_ret (iLess_below _ _ _ _ W) (by rw [N gx gu, N gy gv])
  case ssel => exact fun W => calls_ret (iLess_below _ _ _ _ W) (by rw [N gu gx, N gv gy])
  case ok1 => exact fun W => iMaskOk_F _ q0 W
  case ok2 => exact fun W => iMaskOk_F _ q1 W
  case join2 => exact fun W => calls_ret (iJoin_below _ _ _ _ W) (by rw [O lx rx, O ly ry])
  case join3 => exact fun W => calls_ret (iJoin_below _ _ _ _ W) (by rw [O ax (by omega), O ay (by omega), fm1 gx gu, fm1 gy gv])
  case meet2 => exact fun W => calls_ret (iMeet_bF _ _ _ _ W) (by rw [A lx gu, A ly gv, fm2 gu, fm2 gv]; rfl)
  case n0 => exact fun W => iCount_any _ _ (by omega) (by omega) W
  case n1 => exact fun W => iCount_any _ _ ax ay W
  case n2 => exact fun W => iCount_any _ _ lx ly W
  case n3 => exact fun W => iCount_any _ _ rx ry W
  case w1 => exact fun W => calls_ret (iWithin_any _ _ _ _ W) (by rw [A ax gx, A ay gy, fm3, fm3]; simp)
  case w2 => exact fun W => calls_ret (iWithin_any _ _ _ _ W) (by rw [A gx (by omega), A gy (by omega), fm4, fm4]; simp)
  case w3 => exact fun W => calls_ret (iWithin_any _ _ _ _ W) (by rw [A gx gu, A gy gv]; exact congrArg _ (fm_same gx gu gy gv))
  case sj => exact fun W => calls_ret (sJoinM_bF _ _ _ _ W) (by rw [O gx gu, O gy gv])
  case hi => exact fun W => by have h := iHolesIn_any (x : Int) (y : Int) hX ⟨by omega, by omega⟩ W; rw [hz_yes _ q0, hzC_yes q0] at h; exact h
  case hs => exact fun W => by have h := sHolesIn_any (x : Int) (y : Int) hX ⟨by omega, by omega⟩ W; rw [hz_yes _ q0, hzC_yes q0] at h; exact h
  case mo => exact fun a c W h => calls_ret (iMaskOf_any a _ c W h (by have := hol_len (hasB (x : Int) (y : Int)) 96; omega)) (moV_hol x y gx hy)
  case n4 => exact fun W => calls_ret (iCount_any _ _ gx gy W) (by rw [hol_cnt x y hy])
  case isL => rfl
  case len => exact hol_len _ _
  case sum => exact fm6c gx gu gy gv
  case b0 => exact cnt_le _ _
  case sub => rfl
structure FH (X Y h o0 o1 s0 s1 : Int) (z : Bool) : Prop where
  on : ∀ W : World, Calls Try.prog 66 #[.agg #[.int .u64 X, .int .u64 Y], .int .i64 h, .bool true] W fun e w' => e = .returned (.tuple #[.agg #[.int .u64 o0, .int .u64 o1], .int .i64 0]) ∧ Below W.heap.size W w'
  off : ∀ W : World, Calls Try.prog 66 #[.agg #[.int .u64 X, .int .u64 Y], .int .i64 h, .bool false] W fun e w' => e = .returned (.tuple #[.agg #[.int .u64 s0, .int .u64 s1], .int .i64 0]) ∧ Below W.heap.size W w'
  yes : ∀ W : World, Calls Try.prog 67 #[.agg #[.int .u64 o0, .int .u64 o1], .int .i64 h] W fun e w' => e = .returned (.tuple #[.bool true, .int .i64 0]) ∧ Below W.heap.size W w'
  no : ∀ W : World, Calls Try.prog 67 #[.agg #[.int .u64 s0, .int .u64 s1], .int .i64 h] W fun e w' => e = .returned (.tuple #[.bool false, .int .i64 0]) ∧ Below W.heap.size W w'
  has : ∀ W : World, Calls Try.prog 67 #[.agg #[.int .u64 X, .int .u64 Y], .int .i64 h] W fun e w' => e = .returned (.tuple #[.bool z, .int .i64 0]) ∧ Below W.heap.size W w'
  same1 : z = true → o0 = X ∧ o1 = Y
  same2 : z = false → s0 = X ∧ s1 = Y
  mem : decide (h ∈ hol (hasB X Y) 96) = z

theorem fh_all (X Y h : Int) (hX : U64 X) (hY0 : 0 ≤ Y) (hY : Y < 4294967296) (h0 : 0 ≤ h) (h1 : h ≤ 95) : ∃ o0 o1 s0 s1 z, FH X Y h o0 o1 s0 s1 z := by
  obtain ⟨x, rfl⟩ := Int.eq_ofNat_of_zero_le hX.1
  obtain ⟨y, rfl⟩ := Int.eq_ofNat_of_zero_le hY0
  have gx : x < 18446744073709551616 := by have := hX.2; omega
  have gy : y < 18446744073709551616 := by omega
  have hy : y < 4294967296 := by omega
  have f0 := F0_lt h
  have f1 := F1_lt h1
  have f2 : F1 h < 18446744073709551616 := by omega
  have ox : x ||| F0 h < 2 ^ 64 := Nat.or_lt_two_pow (by omega) (by omega)
  have oy : y ||| F1 h < 2 ^ 32 := Nat.or_lt_two_pow (by omega) (by omega)
  have sx := less_lt x (F0 h) gx
  have sy : lessN y (F1 h) ≤ y := Nat.and_le_left
  have q0 : (y : Int) / 4294967296 = 0 := by omega
  have q1 : ((y ||| F1 h : Nat) : Int) / 4294967296 = 0 := by omega
  have q2 : ((lessN y (F1 h) : Nat) : Int) / 4294967296 = 0 := by omega
  refine ⟨((x ||| F0 h : Nat) : Int), ((y ||| F1 h : Nat) : Int), ((lessN x (F0 h) : Nat) : Int), ((lessN y (F1 h) : Nat) : Int), hasB (x : Int) (y : Int) h, ?_⟩
  constructor
  case on => exact fun W => calls_ret (iWith_any _ _ _ _ W) (by rw [wR_on _ _ ⟨q0, h0, h1⟩, wR_on _ _ ⟨q0, h0, h1⟩, hasC_ok q0 ⟨h0, h1⟩, b0_nat, b1_nat, Go.u64_or_nat _ _ gx f0, Go.u64_or_nat _ _ gy f2])
  case off => exact fun W => calls_ret (iWith_any _ _ _ _ W) (by rw [wR_off _ _ ⟨q0, h0, h1⟩, wR_off _ _ ⟨q0, h0, h1⟩, hasC_ok q0 ⟨h0, h1⟩, b0_nat, b1_nat, Go.u64_andNot_nat _ _ gx f0, Go.u64_andNot_nat _ _ gy f2]; rfl)
  case yes => exact fun W => calls_ret (iHas_any _ _ _ ⟨by omega, by omega⟩ ⟨by omega, by omega⟩ W) (by rw [hasV_ok _ q1 ⟨h0, h1⟩, hasC_ok q1 ⟨h0, h1⟩, open_has x y h0])
  case no => exact fun W => calls_ret (iHas_any _ _ _ ⟨by omega, by omega⟩ ⟨by omega, by omega⟩ W) (by rw [hasV_ok _ q2 ⟨h0, h1⟩, hasC_ok q2 ⟨h0, h1⟩, shut_has x y h0 h1])
  case has => exact fun W => calls_ret (iHas_any _ _ _ hX ⟨by omega, by omega⟩ W) (by rw [hasV_ok _ q0 ⟨h0, h1⟩, hasC_ok q0 ⟨h0, h1⟩])
  case same1 => exact fun e => by obtain ⟨e1, e2⟩ := has_open h0 e; rw [e1, e2]; exact ⟨rfl, rfl⟩
  case same2 => exact fun e => by obtain ⟨e1, e2⟩ := has_shut gx hy h0 h1 e; rw [e1, e2]; exact ⟨rfl, rfl⟩
  case mem => exact mem_hol_dec _ h0 h1

/-! ### The laws' own small functions -/
theorem a2Long_any (a b : Option Addr) (zs ys : List Int) (c d : Nat) (t : Bool) (h : (decide (3000 < zs.length) || decide (3000 < ys.length)) = t) (w : World) :
    Calls Try.prog 52 #[.slice a zs.length c, .slice b ys.length d] w fun e w' => e = .returned (.bool t) ∧ Below w.heap.size w w' := by
  subst h
  by_cases h1 : 3000 < zs.length
  · have hd : decide ((3000 : Int) < (zs.length : Int)) = true := by simp; omega
    go_enter Try.func52, Try.ntmps52
    go_wp2
    go_returns
    exact ⟨by simp [h1], Below.refl _ _⟩
  · have hd : decide ((3000 : Int) < (zs.length : Int)) = false := by simp; omega
    by_cases h2 : 3000 < ys.length
    · have hd2 : decide ((3000 : Int) < (ys.length : Int)) = true := by simp; omega
      go_enter Try.func52, Try.ntmps52
      go_wp2
      go_returns
      exact ⟨by simp [h2], Below.refl _ _⟩
    · have hd2 : decide ((3000 : Int) < (ys.length : Int)) = false := by simp; omega
      go_enter Try.func52, Try.ntmps52
      go_wp2
      go_returns
      exact ⟨by simp [h1, h2], Below.refl _ _⟩
set_option maxHeartbeats 800000 in
theorem a2At_any (a : Option Addr) (zs : List Int) (c : Nat) (i n : Int) (w : World) (h : BytesIn w a zs) (hi : 0 ≤ i) (hn : 1 ≤ n) :
    Calls Try.prog 65 #[.slice a zs.length c, .int .i64 i, .int .i64 n] w fun e w' => ∃ v : Int, e = .returned (.int .i64 v) ∧ 0 ≤ v ∧ v < n ∧ Below w.heap.size w w' := by
  have H := Lib.hid h
  clear h
  have k2 : decide (n < 1) = false := by simp; omega
  have k3 : (n == 0) = false := by simp; omega
  by_cases hl : i < (zs.length : Int)
  · have hd : decide ((zs.length : Int) ≤ i) = false := by simp; omega
    obtain ⟨j, rfl⟩ := Int.eq_ofNat_of_zero_le hi
    obtain ⟨b, off, rfl, hb, hc, z0, z1⟩ := H.out j (by omega)
    generalize zs.getD j 0 = z at *
    go_enter Try.func65, Try.ntmps65
    go_wp2
    go_ret
    exact ⟨_, rfl, Int.emod_nonneg _ (by omega), Int.emod_lt_of_pos _ (by omega), Below.refl _ _⟩
  · have hd : decide ((zs.length : Int) ≤ i) = true := by simp; omega
    go_enter Try.func65, Try.ntmps65
    go_wp2
    go_ret
    exact ⟨0, rfl, by omega, by omega, Below.refl _ _⟩
end Go.Proofs.Ytoippchkhknhpaa
