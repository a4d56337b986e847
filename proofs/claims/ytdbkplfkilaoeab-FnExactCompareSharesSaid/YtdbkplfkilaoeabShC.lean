/- Shares compared: the program's way and the model's. -/
import Derived.Test.YtdbkplfkilaoeabShr
import Derived.Test.YtdbkplfkilaoeabCmp
import Derived.Test.YtdbkplfkilaoeabFloat
import Derived.Laws.StructEq
import Derived.KernelRfl
namespace Go.Proofs.Ytdbkplfkilaoeab
open Go.ChangeShapes Go.WideShapes Go.ChangeAt Go.RowKit

/-- A share that ShareOf returns: without common divisors. -/
def Told (p q : Int) : Prop := ShIn p q ∧ Nat.gcd p.toNat q.toNat = 1
instance (p q : Int) : Decidable (Told p q) := by unfold Told; infer_instance
theorem told_iff {p q : Int} : (soC p q = 0 ∧ soP p q = p ∧ soQ p q = q) ↔ Told p q := by
  unfold Told
  by_cases h : ShIn p q
  · have h' := h
    unfold ShIn at h'
    obtain ⟨a, rfl⟩ := Int.eq_ofNat_of_zero_le (show 0 ≤ p by omega)
    obtain ⟨b, rfl⟩ := Int.eq_ofNat_of_zero_le (show 0 ≤ q by omega)
    have hb : 0 < b := by omega
    unfold soC soP soQ shP shQ
    simp only [if_pos h, Int.toNat_natCast]
    have hg := gcd_pos (p := a) hb
    refine ⟨fun hh => ⟨h, ?_⟩, fun hh => ?_⟩
    · have h2 := hh.2.2
      have h3 : b / Nat.gcd a b = b := by omega
      by_cases e : Nat.gcd a b = 1
      · exact e
      · have := Nat.div_lt_self hb (show 1 < Nat.gcd a b by omega)
        omega
    · rw [hh.2]; simp
  · unfold soC
    rw [if_neg h]
    refine ⟨fun hh => absurd hh.1 (by decide), fun hh => absurd hh.1 h⟩

theorem eq_share (a b c d : Int) (w : World) : (Op.equalIn 10000 26 (.agg #[.int .i64 a, .int .i64 b]) (.agg #[.int .i64 c, .int .i64 d])).run Try.prog w = .ok (a == c && b == d) w := by
  have us := Try.underlying2
  have ag := Try.isAgg2
  have zs := Try.sizeOf2
  have hS : Try.prog.underlying 26 = some (.struct (Try.prog.fieldsOf 26)) := by kernel_rfl
  rw [show (10000 : Nat) = 9999 + 1 from rfl, run_equalIn_struct w 9999 26 _ _ hS (by kernel_rfl)]
  simp only [Program.fieldsOf, Try.underlying26]
  go_simp
  by_cases h1 : a = c <;> by_cases h2 : b = d <;> simp [h1, h2]

def told (p q : Int) : Bool := decide (Told p q)

set_option maxHeartbeats 1600000 in
theorem iIsShare_any (p q : Int) (w : World) :
    Calls Try.prog 21 #[.agg #[.int .i64 p, .int .i64 q]] w fun e w' => e = .returned (.bool (told p q)) ∧ Below w.heap.size w w' := by
  have I := Lib.hid fun W => iShareOf_any p q W
  have key := told_iff (p := p) (q := q)
  unfold told
  unfold soR at I
  generalize soP p q = x at *
  generalize soQ p q = y at *
  generalize soC p q = c at *
  have es := eq_share x y p q
  by_cases hc : c = 0
  · subst hc
    have e : decide (Told p q) = (x == p && y == q) := by
      by_cases h1 : x = p <;> by_cases h2 : y = q <;> simp_all
    rw [e]
    clear key e
    generalize (x == p && y == q) = b at *
    go_enter Try.func21, Try.ntmps21
    go_wp2_with (go_at_call 37; refine (I.out _).mono ?_; rintro e w1 ⟨rfl, hB⟩; have B1 := Lib.hid hB; obtain ⟨hc, hf, hz⟩ := bcell hB; clear hB)
    all_goals go_returns
    all_goals exact ⟨rfl, by have := B1.out; ((repeat' (first | (with_reducible exact Below.refl _ _) | (with_reducible assumption) | (with_reducible refine below_drewN ?_ _) | (with_reducible refine Below.drew ?_) | (with_reducible refine below_new ?_ _) | (with_reducible refine below_next ?_ (by with_reducible assumption)) | (with_reducible refine Below.setCell ?_ ?_ _) | go_size)); done)⟩
  · have e : decide (Told p q) = false := decide_eq_false fun h => hc (key.2 h).1
    rw [e]
    have hne : (c == 0) = false := by simp [hc]
    clear key e
    go_enter Try.func21, Try.ntmps21
    go_wp2_with (go_at_call 37; refine (I.out _).mono ?_; rintro e w1 ⟨rfl, hB⟩; have B1 := Lib.hid hB; obtain ⟨hc, hf, hz⟩ := bcell hB; clear hB)
    all_goals go_returns
    all_goals exact ⟨rfl, by have := B1.out; ((repeat' (first | (with_reducible exact Below.refl _ _) | (with_reducible assumption) | (with_reducible refine below_drewN ?_ _) | (with_reducible refine Below.drew ?_) | (with_reducible refine below_new ?_ _) | (with_reducible refine below_next ?_ (by with_reducible assumption)) | (with_reducible refine Below.setCell ?_ ?_ _) | go_size)); done)⟩

theorem told_in {p q : Int} (h : told p q = true) : 0 ≤ p ∧ p ≤ 1000000000 ∧ 1 ≤ q ∧ q ≤ 1000000000 := by
  have h1 : Told p q := by simpa [told] using h
  have h2 := h1.1
  unfold ShIn at h2
  omega
theorem mul_in {a b : Int} (ha : 0 ≤ a ∧ a ≤ 1000000000) (hb : 0 ≤ b ∧ b ≤ 1000000000) : 0 ≤ a * b ∧ a * b ≤ 1000000000000000000 := by
  refine ⟨Int.mul_nonneg ha.1 hb.1, ?_⟩
  have : a * b ≤ 1000000000 * 1000000000 := Int.mul_le_mul ha.2 hb.2 hb.1 (by decide)
  omega

def csR (p q r s : Int) (b c : Bool) : Value := .tuple #[.int .i64 (if b = true ∧ c = true then cmpV (p * s) (r * q) else 0), .int .i64 (if b = true ∧ c = true then 0 else 1)]
theorem csR_no1 (p q r s : Int) (c : Bool) : csR p q r s false c = .tuple #[.int .i64 0, .int .i64 1] := by unfold csR; simp
theorem csR_no2 (p q r s : Int) (b : Bool) : csR p q r s b false = .tuple #[.int .i64 0, .int .i64 1] := by unfold csR; simp
theorem csR_yes (p q r s : Int) : csR p q r s true true = .tuple #[.int .i64 (cmpV (p * s) (r * q)), .int .i64 0] := by unfold csR; simp
theorem csR_parts (p q r s : Int) (b c : Bool) : ∃ x k : Int, csR p q r s b c = .tuple #[.int .i64 x, .int .i64 k] := ⟨_, _, rfl⟩
theorem cmpV_in (x y : Int) : -1 ≤ cmpV x y ∧ cmpV x y ≤ 1 := by unfold cmpV; split <;> (try split) <;> omega

set_option maxHeartbeats 1600000 in
theorem iCompare_any (p q r s : Int) (w : World) :
    Calls Try.prog 9 #[.agg #[.int .i64 p, .int .i64 q], .agg #[.int .i64 r, .int .i64 s]] w fun e w' => e = .returned (csR p q r s (told p q) (told r s)) ∧ Below w.heap.size w w' := by
  have I1 := Lib.hid fun W => iIsShare_any p q W
  have I2 := Lib.hid fun W => iIsShare_any r s W
  have t1 := told_in (p := p) (q := q)
  have t2 := told_in (p := r) (q := s)
  have tok1 : True := trivial
  have HB := Lib.hid (block_alloc2 w (.cells #[.int .i64 p, .int .i64 q] 26) (.cells #[.int .i64 r, .int .i64 s] 26))
  have B0 := Lib.hid (below_new (below_new (Below.refl w.heap.size w) (.cells #[.int .i64 p, .int .i64 q] 26)) (.cells #[.int .i64 r, .int .i64 s] 26))
  generalize told p q = b at *
  generalize told r s = c at *
  cases b
  · rw [csR_no1]
    clear t1 t2
    go_enter Try.func9, Try.ntmps9
    go_wp2_with (go_at_call 21; refine (I1.out _).mono ?_; rintro e w1 ⟨rfl, hB⟩; have b1 := Lib.hid (B0.out.trans (Below.mono hB B0.out.size)); have m1 := Ab.block hB HB.out.1; have n1 := Ab.block hB HB.out.2; have k1 := cell_of_block m1; have l1 := cell_of_block n1; have y1 := lt_of_block m1; have z1 := lt_of_block n1; have m1 := Lib.hid m1; have n1 := Lib.hid n1; clear hB)
    all_goals go_returns
    all_goals exact ⟨rfl, by have := b1.out; ((repeat' (first | (with_reducible exact Below.refl _ _) | (with_reducible assumption) | (with_reducible refine below_drewN ?_ _) | (with_reducible refine Below.drew ?_) | (with_reducible refine below_new ?_ _) | (with_reducible refine below_next ?_ (by with_reducible assumption)) | (with_reducible refine Below.setCell ?_ ?_ _) | go_size)); done)⟩
  have u1 := t1 rfl
  cases c
  · rw [csR_no2]
    clear t1 t2
    go_enter Try.func9, Try.ntmps9
    go_wp2_with (first
      | (go_at_call 21; have _t := tok1; clear _t tok1; refine (I1.out _).mono ?_; rintro e w1 ⟨rfl, hB⟩; have b1 := Lib.hid (B0.out.trans (Below.mono hB B0.out.size)); have m1 := Ab.block hB HB.out.1; have n1 := Ab.block hB HB.out.2; have k1 := cell_of_block m1; have l1 := cell_of_block n1; have y1 := lt_of_block m1; have z1 := lt_of_block n1; have m1 := Lib.hid m1; have n1 := Lib.hid n1; clear hB)
      | (go_at_call 21; refine (I2.out _).mono ?_; rintro e w2 ⟨rfl, hB⟩; have b2 := Lib.hid (b1.out.trans (Below.mono hB b1.out.size)); have m2 := Ab.block hB m1.out; have n2 := Ab.block hB n1.out; have k2 := cell_of_block m2; have l2 := cell_of_block n2; have y2 := lt_of_block m2; have z2 := lt_of_block n2; clear hB k1 l1 y1 z1))
    all_goals go_returns
    all_goals exact ⟨rfl, by have := b2.out; ((repeat' (first | (with_reducible exact Below.refl _ _) | (with_reducible assumption) | (with_reducible refine below_drewN ?_ _) | (with_reducible refine Below.drew ?_) | (with_reducible refine below_new ?_ _) | (with_reducible refine below_next ?_ (by with_reducible assumption)) | (with_reducible refine Below.setCell ?_ ?_ _) | go_size)); done)⟩
  have u2 := t2 rfl
  rw [csR_yes]
  obtain ⟨e0, e1⟩ := mul_in (a := p) (b := s) (by omega) (by omega)
  obtain ⟨e2, e3⟩ := mul_in (a := r) (b := q) (by omega) (by omega)
  obtain ⟨v0, v1⟩ := cmpV_in (p * s) (r * q)
  clear t1 t2 u1 u2
  go_enter Try.func9, Try.ntmps9
  go_wp2_with (first
    | (go_at_call 21; have _t := tok1; clear _t tok1; refine (I1.out _).mono ?_; rintro e w1 ⟨rfl, hB⟩; have b1 := Lib.hid (B0.out.trans (Below.mono hB B0.out.size)); have m1 := Ab.block hB HB.out.1; have n1 := Ab.block hB HB.out.2; have k1 := cell_of_block m1; have l1 := cell_of_block n1; have y1 := lt_of_block m1; have z1 := lt_of_block n1; have m1 := Lib.hid m1; have n1 := Lib.hid n1; clear hB)
    | (go_at_call 21; refine (I2.out _).mono ?_; rintro e w2 ⟨rfl, hB⟩; have b2 := Lib.hid (b1.out.trans (Below.mono hB b1.out.size)); have m2 := Ab.block hB m1.out; have n2 := Ab.block hB n1.out; have k2 := cell_of_block m2; have l2 := cell_of_block n2; have y2 := lt_of_block m2; have z2 := lt_of_block n2; clear hB k1 l1 y1 z1)
    | (go_at_call 22; refine (cmp_any _ _ _).mono ?_; rintro e w3 ⟨rfl, rfl⟩))
  all_goals go_returns
  all_goals exact ⟨rfl, by have := b2.out; ((repeat' (first | (with_reducible exact Below.refl _ _) | (with_reducible assumption) | (with_reducible refine below_drewN ?_ _) | (with_reducible refine Below.drew ?_) | (with_reducible refine below_new ?_ _) | (with_reducible refine below_next ?_ (by with_reducible assumption)) | (with_reducible refine Below.setCell ?_ ?_ _) | go_size)); done)⟩

set_option maxHeartbeats 1600000 in
theorem sTold_any (p q : Int) (w : World) :
    Calls Try.prog 20 #[.agg #[.int .i64 p, .int .i64 q]] w fun e w' => e = .returned (.bool (told p q)) ∧ Below w.heap.size w w' := by
  unfold told
  have tok1 : True := trivial
  by_cases h1 : 1 ≤ q ∧ q ≤ 1000000000
  · have I1 := Lib.hid fun W => sInM_t (x := q) (lo := 1) (hi := 1000000000) h1 W
    by_cases h2 : 0 ≤ p ∧ p ≤ q
    · have I2 := Lib.hid fun W => sInM_t (x := p) (lo := 0) (hi := q) h2 W
      obtain ⟨a, rfl⟩ := Int.eq_ofNat_of_zero_le (show 0 ≤ p by omega)
      obtain ⟨b, rfl⟩ := Int.eq_ofNat_of_zero_le (show 0 ≤ q by omega)
      have G := Lib.hid fun W => sGcd_any a b (by omega) (by omega) W
      have e : decide (Told (a : Int) (b : Int)) = (((Nat.gcd a b : Nat) : Int) == 1) := by
        by_cases hg : Nat.gcd a b = 1
        · rw [hg, decide_eq_true ⟨⟨by omega, by omega, by omega, by omega⟩, by simpa using hg⟩]; rfl
        · rw [decide_eq_false fun h => hg (by simpa using h.2)]; simp; omega
      rw [e]
      generalize ((Nat.gcd a b : Nat) : Int) = g at *
      clear e h1 h2
      go_enter Try.func20, Try.ntmps20
      go_wp2_with (first
        | (go_at_call 24; have _t := tok1; clear _t tok1; refine (I1.out _).mono ?_; rintro e w1 ⟨rfl, rfl⟩)
        | (go_at_call 24; refine (I2.out _).mono ?_; rintro e w1 ⟨rfl, rfl⟩)
        | (go_at_call 36; refine (G.out _).mono ?_; rintro e w1 ⟨rfl, hB⟩; have B1 := Lib.hid hB; clear hB))
      all_goals go_returns
      all_goals exact ⟨rfl, by have := B1.out; ((repeat' (first | (with_reducible exact Below.refl _ _) | (with_reducible assumption) | (with_reducible refine below_drewN ?_ _) | (with_reducible refine Below.drew ?_) | (with_reducible refine below_new ?_ _) | (with_reducible refine below_next ?_ (by with_reducible assumption)) | (with_reducible refine Below.setCell ?_ ?_ _) | go_size)); done)⟩
    · have I2 := Lib.hid fun W => sInM_f (x := p) (lo := 0) (hi := q) h2 W
      have e : decide (Told p q) = false := decide_eq_false fun h => h2 ⟨h.1.2.2.1, h.1.2.2.2⟩
      rw [e]
      clear e h1 h2
      go_enter Try.func20, Try.ntmps20
      go_wp2_with (first
        | (go_at_call 24; have _t := tok1; clear _t tok1; refine (I1.out _).mono ?_; rintro e w1 ⟨rfl, rfl⟩)
        | (go_at_call 24; refine (I2.out _).mono ?_; rintro e w1 ⟨rfl, rfl⟩))
      all_goals go_returns
      all_goals exact ⟨rfl, (by repeat' (first | (with_reducible exact Below.refl _ _) | (with_reducible assumption) | (with_reducible refine below_drewN ?_ _) | (with_reducible refine Below.drew ?_) | (with_reducible refine below_new ?_ _) | (with_reducible refine below_next ?_ (by with_reducible assumption)) | (with_reducible refine Below.setCell ?_ ?_ _) | go_size))⟩
  · have I1 := Lib.hid fun W => sInM_f (x := q) (lo := 1) (hi := 1000000000) h1 W
    have e : decide (Told p q) = false := decide_eq_false fun h => h1 ⟨h.1.1, h.1.2.1⟩
    rw [e]
    clear e h1
    go_enter Try.func20, Try.ntmps20
    go_wp2_with (go_at_call 24; refine (I1.out _).mono ?_; rintro e w1 ⟨rfl, rfl⟩)
    all_goals go_returns
    all_goals exact ⟨rfl, (by repeat' (first | (with_reducible exact Below.refl _ _) | (with_reducible assumption) | (with_reducible refine below_drewN ?_ _) | (with_reducible refine Below.drew ?_) | (with_reducible refine below_new ?_ _) | (with_reducible refine below_next ?_ (by with_reducible assumption)) | (with_reducible refine Below.setCell ?_ ?_ _) | go_size))⟩

set_option maxHeartbeats 1600000 in
theorem sCompare_any (p q r s : Int) (w : World) :
    Calls Try.prog 7 #[.agg #[.int .i64 p, .int .i64 q], .agg #[.int .i64 r, .int .i64 s]] w fun e w' => e = .returned (csR p q r s (told p q) (told r s)) ∧ Below w.heap.size w w' := by
  have I1 := Lib.hid fun W => sTold_any p q W
  have I2 := Lib.hid fun W => sTold_any r s W
  have t1 := told_in (p := p) (q := q)
  have t2 := told_in (p := r) (q := s)
  have tok1 : True := trivial
  have HB := Lib.hid (block_alloc2 w (.cells #[.int .i64 p, .int .i64 q] 26) (.cells #[.int .i64 r, .int .i64 s] 26))
  have B0 := Lib.hid (below_new (below_new (Below.refl w.heap.size w) (.cells #[.int .i64 p, .int .i64 q] 26)) (.cells #[.int .i64 r, .int .i64 s] 26))
  generalize told p q = b at *
  generalize told r s = c at *
  cases b
  · rw [csR_no1]
    clear t1 t2
    go_enter Try.func7, Try.ntmps7
    go_wp2_with (go_at_call 20; refine (I1.out _).mono ?_; rintro e w1 ⟨rfl, hB⟩; have b1 := Lib.hid (B0.out.trans (Below.mono hB B0.out.size)); have m1 := Ab.block hB HB.out.1; have n1 := Ab.block hB HB.out.2; have k1 := cell_of_block m1; have l1 := cell_of_block n1; have y1 := lt_of_block m1; have z1 := lt_of_block n1; have m1 := Lib.hid m1; have n1 := Lib.hid n1; clear hB)
    all_goals go_returns
    all_goals exact ⟨rfl, by have := b1.out; ((repeat' (first | (with_reducible exact Below.refl _ _) | (with_reducible assumption) | (with_reducible refine below_drewN ?_ _) | (with_reducible refine Below.drew ?_) | (with_reducible refine below_new ?_ _) | (with_reducible refine below_next ?_ (by with_reducible assumption)) | (with_reducible refine Below.setCell ?_ ?_ _) | go_size)); done)⟩
  have u1 := t1 rfl
  cases c
  · rw [csR_no2]
    clear t1 t2
    go_enter Try.func7, Try.ntmps7
    go_wp2_with (first
      | (go_at_call 20; have _t := tok1; clear _t tok1; refine (I1.out _).mono ?_; rintro e w1 ⟨rfl, hB⟩; have b1 := Lib.hid (B0.out.trans (Below.mono hB B0.out.size)); have m1 := Ab.block hB HB.out.1; have n1 := Ab.block hB HB.out.2; have k1 := cell_of_block m1; have l1 := cell_of_block n1; have y1 := lt_of_block m1; have z1 := lt_of_block n1; have m1 := Lib.hid m1; have n1 := Lib.hid n1; clear hB)
      | (go_at_call 20; refine (I2.out _).mono ?_; rintro e w2 ⟨rfl, hB⟩; have b2 := Lib.hid (b1.out.trans (Below.mono hB b1.out.size)); have m2 := Ab.block hB m1.out; have n2 := Ab.block hB n1.out; have k2 := cell_of_block m2; have l2 := cell_of_block n2; have y2 := lt_of_block m2; have z2 := lt_of_block n2; clear hB k1 l1 y1 z1))
    all_goals go_returns
    all_goals exact ⟨rfl, by have := b2.out; ((repeat' (first | (with_reducible exact Below.refl _ _) | (with_reducible assumption) | (with_reducible refine below_drewN ?_ _) | (with_reducible refine Below.drew ?_) | (with_reducible refine below_new ?_ _) | (with_reducible refine below_next ?_ (by with_reducible assumption)) | (with_reducible refine Below.setCell ?_ ?_ _) | go_size)); done)⟩
  have u2 := t2 rfl
  rw [csR_yes]
  obtain ⟨e0, e1⟩ := mul_in (a := p) (b := s) (by omega) (by omega)
  obtain ⟨e2, e3⟩ := mul_in (a := r) (b := q) (by omega) (by omega)
  clear t1 t2 u1 u2
  unfold cmpV
  by_cases h1 : p * s < r * q
  · have d1 : decide (p * s < r * q) = true := decide_eq_true h1
    rw [if_pos h1]
    go_enter Try.func7, Try.ntmps7
    go_wp2_with (first
      | (go_at_call 20; have _t := tok1; clear _t tok1; refine (I1.out _).mono ?_; rintro e w1 ⟨rfl, hB⟩; have b1 := Lib.hid (B0.out.trans (Below.mono hB B0.out.size)); have m1 := Ab.block hB HB.out.1; have n1 := Ab.block hB HB.out.2; have k1 := cell_of_block m1; have l1 := cell_of_block n1; have y1 := lt_of_block m1; have z1 := lt_of_block n1; have m1 := Lib.hid m1; have n1 := Lib.hid n1; clear hB)
      | (go_at_call 20; refine (I2.out _).mono ?_; rintro e w2 ⟨rfl, hB⟩; have b2 := Lib.hid (b1.out.trans (Below.mono hB b1.out.size)); have m2 := Ab.block hB m1.out; have n2 := Ab.block hB n1.out; have k2 := cell_of_block m2; have l2 := cell_of_block n2; have y2 := lt_of_block m2; have z2 := lt_of_block n2; clear hB k1 l1 y1 z1))
    all_goals go_returns
    all_goals exact ⟨rfl, by have := b2.out; ((repeat' (first | (with_reducible exact Below.refl _ _) | (with_reducible assumption) | (with_reducible refine below_drewN ?_ _) | (with_reducible refine Below.drew ?_) | (with_reducible refine below_new ?_ _) | (with_reducible refine below_next ?_ (by with_reducible assumption)) | (with_reducible refine Below.setCell ?_ ?_ _) | go_size)); done)⟩
  have d1 : decide (p * s < r * q) = false := decide_eq_false h1
  rw [if_neg h1]
  by_cases h2 : r * q < p * s
  · have d2 : decide (r * q < p * s) = true := decide_eq_true h2
    rw [if_pos h2]
    go_enter Try.func7, Try.ntmps7
    go_wp2_with (first
      | (go_at_call 20; have _t := tok1; clear _t tok1; refine (I1.out _).mono ?_; rintro e w1 ⟨rfl, hB⟩; have b1 := Lib.hid (B0.out.trans (Below.mono hB B0.out.size)); have m1 := Ab.block hB HB.out.1; have n1 := Ab.block hB HB.out.2; have k1 := cell_of_block m1; have l1 := cell_of_block n1; have y1 := lt_of_block m1; have z1 := lt_of_block n1; have m1 := Lib.hid m1; have n1 := Lib.hid n1; clear hB)
      | (go_at_call 20; refine (I2.out _).mono ?_; rintro e w2 ⟨rfl, hB⟩; have b2 := Lib.hid (b1.out.trans (Below.mono hB b1.out.size)); have m2 := Ab.block hB m1.out; have n2 := Ab.block hB n1.out; have k2 := cell_of_block m2; have l2 := cell_of_block n2; have y2 := lt_of_block m2; have z2 := lt_of_block n2; clear hB k1 l1 y1 z1))
    all_goals go_returns
    all_goals exact ⟨rfl, by have := b2.out; ((repeat' (first | (with_reducible exact Below.refl _ _) | (with_reducible assumption) | (with_reducible refine below_drewN ?_ _) | (with_reducible refine Below.drew ?_) | (with_reducible refine below_new ?_ _) | (with_reducible refine below_next ?_ (by with_reducible assumption)) | (with_reducible refine Below.setCell ?_ ?_ _) | go_size)); done)⟩
  have d2 : decide (r * q < p * s) = false := decide_eq_false h2
  rw [if_neg h2]
  go_enter Try.func7, Try.ntmps7
  go_wp2_with (first
    | (go_at_call 20; have _t := tok1; clear _t tok1; refine (I1.out _).mono ?_; rintro e w1 ⟨rfl, hB⟩; have b1 := Lib.hid (B0.out.trans (Below.mono hB B0.out.size)); have m1 := Ab.block hB HB.out.1; have n1 := Ab.block hB HB.out.2; have k1 := cell_of_block m1; have l1 := cell_of_block n1; have y1 := lt_of_block m1; have z1 := lt_of_block n1; have m1 := Lib.hid m1; have n1 := Lib.hid n1; clear hB)
    | (go_at_call 20; refine (I2.out _).mono ?_; rintro e w2 ⟨rfl, hB⟩; have b2 := Lib.hid (b1.out.trans (Below.mono hB b1.out.size)); have m2 := Ab.block hB m1.out; have n2 := Ab.block hB n1.out; have k2 := cell_of_block m2; have l2 := cell_of_block n2; have y2 := lt_of_block m2; have z2 := lt_of_block n2; clear hB k1 l1 y1 z1))
  all_goals go_returns
  all_goals exact ⟨rfl, by have := b2.out; ((repeat' (first | (with_reducible exact Below.refl _ _) | (with_reducible assumption) | (with_reducible refine below_drewN ?_ _) | (with_reducible refine Below.drew ?_) | (with_reducible refine below_new ?_ _) | (with_reducible refine below_next ?_ (by with_reducible assumption)) | (with_reducible refine Below.setCell ?_ ?_ _) | go_size)); done)⟩
end Go.Proofs.Ytdbkplfkilaoeab
