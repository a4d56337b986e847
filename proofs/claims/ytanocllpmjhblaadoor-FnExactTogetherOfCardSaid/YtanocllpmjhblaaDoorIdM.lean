/- The holes with no card, as numbers, bit by bit. -/
import Derived.Test.YtanocllpmjhblaaDoorTbI
import Derived.Laws.BitsAllLaws
namespace Go.Proofs.YtanocllpmjhblaaDoor
open Go.ChangeShapes Go.WideShapes Go.ChangeAt Go.RowKit

def lessN (x u : Nat) : Nat := x &&& (18446744073709551615 - u)
theorem tb_less {x u : Nat} (hu : u < 18446744073709551616) (i : Nat) : (lessN x u).testBit i = (x.testBit i && (decide (i < 64) && !u.testBit i)) := by
  have h := Nat.testBit_two_pow_sub_succ (x := u) (n := 64) (by omega) i
  rw [show (2 : Nat) ^ 64 - (u + 1) = 18446744073709551615 - u from by omega] at h
  unfold lessN
  rw [Nat.testBit_and, h]

theorem tb_lt {x : Nat} (hx : x < 18446744073709551616) {i : Nat} (hi : ¬ i < 64) : x.testBit i = false :=
  Nat.testBit_lt_two_pow (Nat.lt_of_lt_of_le (show x < 2 ^ 64 from by omega) (Nat.pow_le_pow_right (by omega) (by omega)))
theorem hasB_low (x y : Nat) {i : Nat} (hi : i < 64) : hasB (x : Int) (y : Int) (i : Int) = x.testBit i := by
  unfold hasB
  rw [if_pos (by omega), Nat.testBit_eq_decide_div_mod_eq, Int.toNat_natCast]
  have : ((x : Int) / 2 ^ i % 2 == 1) = ((x / 2 ^ i % 2 : Nat) == 1) := by
    rw [show (x : Int) / 2 ^ i % 2 = ((x / 2 ^ i % 2 : Nat) : Int) from by simp]
    cases h : ((x / 2 ^ i % 2 : Nat) == 1)
    · simp only [beq_eq_false_iff_ne] at h ⊢; omega
    · simp only [beq_iff_eq] at h ⊢; omega
  rw [this]; rfl

theorem hasB_high (x y : Nat) (i : Nat) : hasB (x : Int) (y : Int) ((64 + i : Nat) : Int) = y.testBit i := by
  unfold hasB
  rw [if_neg (by omega), Nat.testBit_eq_decide_div_mod_eq, show (((64 + i : Nat) : Int) - 64).toNat = i from by omega]
  have : ((y : Int) / 2 ^ i % 2 == 1) = ((y / 2 ^ i % 2 : Nat) == 1) := by
    rw [show (y : Int) / 2 ^ i % 2 = ((y / 2 ^ i % 2 : Nat) : Int) from by simp]
    cases h : ((y / 2 ^ i % 2 : Nat) == 1)
    · simp only [beq_eq_false_iff_ne] at h ⊢; omega
    · simp only [beq_iff_eq] at h ⊢; omega
  rw [this]; rfl

def F0 (z : Int) : Nat := if z < 64 then 2 ^ z.toNat else 0
def F1 (z : Int) : Nat := if z < 64 then 0 else 2 ^ (z - 64).toNat
theorem b0_nat (z : Int) : b0 z = (F0 z : Int) := by unfold b0 F0; split <;> simp
theorem b1_nat (z : Int) : b1 z = (F1 z : Int) := by unfold b1 F1; split <;> simp
theorem F0_lt (z : Int) : F0 z < 18446744073709551616 := by
  unfold F0
  split
  · have : 2 ^ z.toNat < 2 ^ 64 := Nat.pow_lt_pow_right (by omega) (by omega)
    omega
  · omega

theorem F1_lt {z : Int} (h : z ≤ 95) : F1 z < 4294967296 := by
  unfold F1
  split
  · omega
  · have : 2 ^ (z - 64).toNat < 2 ^ 32 := Nat.pow_lt_pow_right (by omega) (by omega)
    omega

theorem F0_bit (z : Int) (i : Nat) : (F0 z).testBit i = (decide (z < 64) && decide (z.toNat = i)) := by
  unfold F0
  by_cases h : z < 64
  · rw [if_pos h, Nat.testBit_two_pow, decide_eq_true h]; rfl
  · rw [if_neg h, Nat.zero_testBit, decide_eq_false h]; rfl

theorem F1_bit (z : Int) (i : Nat) : (F1 z).testBit i = (!decide (z < 64) && decide ((z - 64).toNat = i)) := by
  unfold F1
  by_cases h : z < 64
  · rw [if_pos h, Nat.zero_testBit, decide_eq_true h]; rfl
  · rw [if_neg h, Nat.testBit_two_pow, decide_eq_false h]; rfl

/-- What is in one of several numbers. -/
def orN (f : Nat → Nat) : Nat → Nat
  | 0 => 0
  | k + 1 => orN f k ||| f k
theorem orN_tb (f : Nat → Nat) (i : Nat) : ∀ k, (orN f k).testBit i = true ↔ ∃ j, j < k ∧ (f j).testBit i = true
  | 0 => by simp [orN]
  | k + 1 => by
    show (orN f k ||| f k).testBit i = true ↔ _
    rw [Nat.testBit_or, Bool.or_eq_true, orN_tb f i k]
    constructor
    · rintro (⟨j, hj, h⟩ | h)
      · exact ⟨j, by omega, h⟩
      · exact ⟨k, by omega, h⟩
    · rintro ⟨j, hj, h⟩
      by_cases e : j = k
      · subst e; exact .inr h
      · exact .inl ⟨j, by omega, h⟩
theorem orN_lt (f : Nat → Nat) (n : Nat) (hf : ∀ j, j < n → f j < 18446744073709551616) : ∀ k, k ≤ n → orN f k < 18446744073709551616
  | 0, _ => by show 0 < _; omega
  | k + 1, h => by
    have h1 := orN_lt f n hf k (by omega)
    have h2 := hf k (by omega)
    have : orN f k ||| f k < 2 ^ 64 := Nat.or_lt_two_pow (by omega) (by omega)
    show orN f k ||| f k < _
    omega
theorem jn0_nat {ms : List (Int × Int)} {f : Nat → Nat} {n : Nat} (hf : ∀ j, j < n → (ms.getD j (0, 0)).1 = (f j : Int) ∧ f j < 18446744073709551616) : ∀ k, k ≤ n → jn0 ms k = (orN f k : Int)
  | 0, _ => rfl
  | k + 1, h => by
    show bits .or .u64 (jn0 ms k) (ms.getD k (0, 0)).1 = ((orN f k ||| f k : Nat) : Int)
    rw [jn0_nat hf k (by omega), (hf k (by omega)).1, Go.u64_or_nat _ _ (orN_lt f n (fun j hj => (hf j hj).2) k (by omega)) (hf k (by omega)).2]
theorem jn1_nat {ms : List (Int × Int)} {f : Nat → Nat} {n : Nat} (hf : ∀ j, j < n → (ms.getD j (0, 0)).2 = (f j : Int) ∧ f j < 18446744073709551616) : ∀ k, k ≤ n → jn1 ms k = (orN f k : Int)
  | 0, _ => rfl
  | k + 1, h => by
    show bits .or .u64 (jn1 ms k) (ms.getD k (0, 0)).2 = ((orN f k ||| f k : Nat) : Int)
    rw [jn1_nat hf k (by omega), (hf k (by omega)).1, Go.u64_or_nat _ _ (orN_lt f n (fun j hj => (hf j hj).2) k (by omega)) (hf k (by omega)).2]
/-- The holes with no card, gathered by the model. -/
def idI (b : Int → Int) (c : Nat → Nat) : Nat → Int
  | 0 => 0
  | h + 1 => if c h = 0 then bits .or .u64 (idI b c h) (b (h : Int)) else idI b c h
theorem idI_yes {b : Int → Int} {c : Nat → Nat} {h : Nat} (q : c h = 0) : idI b c (h + 1) = bits .or .u64 (idI b c h) (b (h : Int)) := if_pos q
theorem idI_no {b : Int → Int} {c : Nat → Nat} {h : Nat} (q : ¬ c h = 0) : idI b c (h + 1) = idI b c h := if_neg q
def idN (F : Int → Nat) (c : Nat → Nat) : Nat → Nat
  | 0 => 0
  | h + 1 => if c h = 0 then idN F c h ||| F (h : Int) else idN F c h
theorem idN_lt {F : Int → Nat} (c : Nat → Nat) (hF : ∀ z : Int, z ≤ 95 → F z < 18446744073709551616) : ∀ k, k ≤ 96 → idN F c k < 18446744073709551616
  | 0, _ => by show 0 < _; omega
  | k + 1, h => by
    have h1 := idN_lt c hF k (by omega)
    have h2 := hF (k : Int) (by omega)
    show (if _ then _ else _ : Nat) < _
    by_cases q : c k = 0
    · rw [if_pos q]
      have : idN F c k ||| F (k : Int) < 2 ^ 64 := Nat.or_lt_two_pow (by omega) (by omega)
      omega
    · rw [if_neg q]; exact h1
theorem idI_nat {b : Int → Int} {F : Int → Nat} (c : Nat → Nat) (hb : ∀ z, b z = (F z : Int)) (hF : ∀ z : Int, z ≤ 95 → F z < 18446744073709551616) : ∀ k, k ≤ 96 → idI b c k = (idN F c k : Int)
  | 0, _ => rfl
  | k + 1, h => by
    show (if _ then _ else _ : Int) = ((if _ then _ else _ : Nat) : Int)
    by_cases q : c k = 0
    · rw [if_pos q, if_pos q, idI_nat c hb hF k (by omega), hb, Go.u64_or_nat _ _ (idN_lt c hF k (by omega)) (hF _ (by omega))]
    · rw [if_neg q, if_neg q, idI_nat c hb hF k (by omega)]
theorem idN_tb (F : Int → Nat) (c : Nat → Nat) (i : Nat) : ∀ k, (idN F c k).testBit i = true ↔ ∃ h, h < k ∧ c h = 0 ∧ (F (h : Int)).testBit i = true
  | 0 => by simp [idN]
  | k + 1 => by
    show (if _ then _ else _ : Nat).testBit i = true ↔ _
    have ih := idN_tb F c i k
    by_cases q : c k = 0
    · rw [if_pos q, Nat.testBit_or, Bool.or_eq_true, ih]
      constructor
      · rintro (⟨h, h1, h2, h3⟩ | h)
        · exact ⟨h, by omega, h2, h3⟩
        · exact ⟨k, by omega, q, h⟩
      · rintro ⟨h, h1, h2, h3⟩
        by_cases e : h = k
        · subst e; exact .inr h3
        · exact .inl ⟨h, by omega, h2, h3⟩
    · rw [if_neg q, ih]
      constructor
      · rintro ⟨h, h1, h2, h3⟩; exact ⟨h, by omega, h2, h3⟩
      · rintro ⟨h, h1, h2, h3⟩
        by_cases e : h = k
        · subst e; exact absurd h2 q
        · exact ⟨h, by omega, h2, h3⟩
/-- Low words: what no card has. -/
theorem idle_low (f : Nat → Nat) (c : Nat → Nat) (n : Nat) (hf : orN f n < 18446744073709551616) (hc : ∀ h, h < 64 → (c h = 0 ↔ ∀ j, j < n → (f j).testBit h = false)) : lessN 18446744073709551615 (orN f n) = idN F0 c 96 := by
  apply Nat.eq_of_testBit_eq
  intro i
  rw [tb_less hf, Bool.eq_iff_iff, idN_tb]
  constructor
  · intro h
    simp only [Bool.and_eq_true, decide_eq_true_eq, Bool.not_eq_true'] at h
    refine ⟨i, by omega, (hc i h.2.1).2 fun j hj => ?_, ?_⟩
    · cases q : (f j).testBit i
      · rfl
      · have := (orN_tb f i n).2 ⟨j, hj, q⟩
        rw [h.2.2] at this; cases this
    · rw [F0_bit, decide_eq_true (show (i : Int) < 64 by omega), decide_eq_true (show (i : Int).toNat = i by omega)]; rfl
  · rintro ⟨h, h1, h2, h3⟩
    rw [F0_bit, Bool.and_eq_true, decide_eq_true_eq, decide_eq_true_eq] at h3
    obtain ⟨h4, h5⟩ := h3
    have e : h = i := by omega
    subst e
    have h6 := (hc h (by omega)).1 h2
    have t1 : (18446744073709551615 : Nat).testBit h = true := by
      rw [show (18446744073709551615 : Nat) = 2 ^ 64 - 1 from rfl, Nat.testBit_two_pow_sub_one]; simp; omega
    have t2 : (orN f n).testBit h = false := by
      cases q : (orN f n).testBit h
      · rfl
      · obtain ⟨j, hj, hq⟩ := (orN_tb f h n).1 q
        rw [h6 j hj] at hq; cases hq
    rw [t1, t2, decide_eq_true (show h < 64 by omega)]; rfl
theorem idle_high (f : Nat → Nat) (c : Nat → Nat) (n : Nat) (hf : orN f n < 18446744073709551616) (hc : ∀ h, h < 32 → (c (64 + h) = 0 ↔ ∀ j, j < n → (f j).testBit h = false)) : lessN 4294967295 (orN f n) = idN F1 c 96 := by
  apply Nat.eq_of_testBit_eq
  intro i
  rw [tb_less hf, Bool.eq_iff_iff, idN_tb]
  have t0 : (4294967295 : Nat).testBit i = decide (i < 32) := by
    rw [show (4294967295 : Nat) = 2 ^ 32 - 1 from rfl, Nat.testBit_two_pow_sub_one]
  rw [t0]
  constructor
  · intro h
    simp only [Bool.and_eq_true, decide_eq_true_eq, Bool.not_eq_true'] at h
    refine ⟨64 + i, by omega, (hc i h.1).2 fun j hj => ?_, ?_⟩
    · cases q : (f j).testBit i
      · rfl
      · have := (orN_tb f i n).2 ⟨j, hj, q⟩
        rw [h.2.2] at this; cases this
    · rw [F1_bit, decide_eq_false (show ¬ ((64 + i : Nat) : Int) < 64 by omega), decide_eq_true (show (((64 + i : Nat) : Int) - 64).toNat = i by omega)]; rfl
  · rintro ⟨h, h1, h2, h3⟩
    rw [F1_bit, Bool.and_eq_true, decide_eq_true_eq, Bool.not_eq_true', decide_eq_false_iff_not] at h3
    obtain ⟨h4, h5⟩ := h3
    have e : h = 64 + i := by omega
    subst e
    have h6 := (hc i (by omega)).1 h2
    have t2 : (orN f n).testBit i = false := by
      cases q : (orN f n).testBit i
      · rfl
      · obtain ⟨j, hj, hq⟩ := (orN_tb f i n).1 q
        rw [h6 j hj] at hq; cases hq
    rw [t2, decide_eq_true (show i < 64 by omega), decide_eq_true (show i < 32 by omega)]; rfl
theorem tly_zero (cs : List Cd) (h : Int) : ∀ n, tlyTo cs h n = 0 ↔ ∀ j, j < n → hasB (cdAt cs j).a (cdAt cs j).b h = false
  | 0 => ⟨fun _ j hj => absurd hj (Nat.not_lt_zero _), fun _ => rfl⟩
  | n + 1 => by
    have ih := tly_zero cs h n
    cases q : hasB (cdAt cs n).a (cdAt cs n).b h
    · rw [tly_no q, ih]
      constructor
      · intro a j hj
        by_cases e : j = n
        · subst e; exact q
        · exact a j (by omega)
      · intro a j hj; exact a j (by omega)
    · rw [tly_yes q]
      constructor
      · intro a; omega
      · intro a; rw [a n (by omega)] at q; cases q
theorem idle_is (cs : List Cd) (hc : ∀ j, j < cs.length → U64 (cdAt cs j).a ∧ U64 (cdAt cs j).b) :
    bits .andNot .u64 18446744073709551615 (jn0 (nmOf cs cs.length) cs.length) = idI b0 (fun h => tlyTo cs (h : Int) cs.length) 96 ∧ bits .andNot .u64 4294967295 (jn1 (nmOf cs cs.length) cs.length) = idI b1 (fun h => tlyTo cs (h : Int) cs.length) 96 := by
  have hA : ∀ j, j < cs.length → ((nmOf cs cs.length).getD j (0, 0)).1 = (((cdAt cs j).a.toNat : Nat) : Int) ∧ (cdAt cs j).a.toNat < 18446744073709551616 := fun j hj => by
    obtain ⟨⟨h0, h1⟩, _⟩ := hc j hj
    rw [nmOf_at hj]
    exact ⟨by show (cdAt cs j).a = _; omega, by omega⟩
  have hB : ∀ j, j < cs.length → ((nmOf cs cs.length).getD j (0, 0)).2 = (((cdAt cs j).b.toNat : Nat) : Int) ∧ (cdAt cs j).b.toNat < 18446744073709551616 := fun j hj => by
    obtain ⟨_, ⟨h0, h1⟩⟩ := hc j hj
    rw [nmOf_at hj]
    exact ⟨by show (cdAt cs j).b = _; omega, by omega⟩
  have la := orN_lt (fun j => (cdAt cs j).a.toNat) cs.length (fun j hj => (hA j hj).2) cs.length (Nat.le_refl _)
  have lb := orN_lt (fun j => (cdAt cs j).b.toNat) cs.length (fun j hj => (hB j hj).2) cs.length (Nat.le_refl _)
  have rd : ∀ j, j < cs.length → ∀ z, hasB (cdAt cs j).a (cdAt cs j).b z = hasB (((cdAt cs j).a.toNat : Nat) : Int) (((cdAt cs j).b.toNat : Nat) : Int) z := fun j hj z => by
    obtain ⟨⟨h0, _⟩, ⟨h1, _⟩⟩ := hc j hj
    rw [Int.toNat_of_nonneg h0, Int.toNat_of_nonneg h1]
  constructor
  · rw [jn0_nat (f := fun j => (cdAt cs j).a.toNat) hA _ (Nat.le_refl _), idI_nat (F := F0) _ b0_nat (fun z _ => F0_lt z) 96 (Nat.le_refl _), show (18446744073709551615 : Int) = ((18446744073709551615 : Nat) : Int) from rfl, Go.u64_andNot_nat _ _ (by omega) la]
    congr 1
    refine idle_low _ _ _ la fun h hh => ?_
    rw [tly_zero]
    constructor
    · intro a j hj; have := a j hj; rw [rd j hj, hasB_low _ _ hh] at this; exact this
    · intro a j hj; rw [rd j hj, hasB_low _ _ hh]; exact a j hj
  · rw [jn1_nat (f := fun j => (cdAt cs j).b.toNat) hB _ (Nat.le_refl _), idI_nat (F := F1) _ b1_nat (fun z hz => Nat.lt_of_lt_of_le (F1_lt hz) (by omega)) 96 (Nat.le_refl _), show (4294967295 : Int) = ((4294967295 : Nat) : Int) from rfl, Go.u64_andNot_nat _ _ (by omega) lb]
    congr 1
    refine idle_high _ _ _ lb fun h hh => ?_
    rw [tly_zero]
    constructor
    · intro a j hj; have := a j hj; rw [rd j hj, hasB_high] at this; exact this
    · intro a j hj; rw [rd j hj, hasB_high]; exact a j hj
end Go.Proofs.YtanocllpmjhblaaDoor
