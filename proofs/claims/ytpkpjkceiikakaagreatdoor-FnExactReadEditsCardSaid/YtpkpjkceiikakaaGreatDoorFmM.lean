/- Masks as numbers, bit by bit: what is in both, in one alone, in either; the holes of a mask, and the mask of its holes. -/
import Derived.Test.YtpkpjkceiikakaaGreatDoorHolesIn
import Derived.Test.YtpkpjkceiikakaaGreatDoorMaskOf
import Derived.Test.YtpkpjkceiikakaaGreatDoorCount
import Derived.Test.YtpkpjkceiikakaaGreatDoorSmIn
namespace Go.Proofs.YtpkpjkceiikakaaGreatDoor
open Go.ChangeShapes Go.WideShapes Go.ChangeAt Go.RowKit

def lessN (x u : Nat) : Nat := x &&& (18446744073709551615 - u)
theorem tb_less {x u : Nat} (hu : u < 18446744073709551616) (i : Nat) : (lessN x u).testBit i = (x.testBit i && (decide (i < 64) && !u.testBit i)) := by
  have h := Nat.testBit_two_pow_sub_succ (x := u) (n := 64) (by omega) i
  rw [show (2 : Nat) ^ 64 - (u + 1) = 18446744073709551615 - u from by omega] at h
  unfold lessN
  rw [Nat.testBit_and, h]
theorem tb_lt {x : Nat} (hx : x < 18446744073709551616) {i : Nat} (hi : ¬ i < 64) : x.testBit i = false :=
  Nat.testBit_lt_two_pow (Nat.lt_of_lt_of_le (show x < 2 ^ 64 from by omega) (Nat.pow_le_pow_right (by omega) (by omega)))
theorem less_lt (x u : Nat) (hx : x < 18446744073709551616) : lessN x u < 18446744073709551616 := by
  have : lessN x u ≤ x := Nat.and_le_left
  omega
theorem fm1 {x u : Nat} (hx : x < 18446744073709551616) (hu : u < 18446744073709551616) : (x &&& u) ||| (lessN x u ||| lessN u x) = x ||| u := by
  apply Nat.eq_of_testBit_eq
  intro i
  rw [Nat.testBit_or, Nat.testBit_or, Nat.testBit_or, Nat.testBit_and, tb_less hu, tb_less hx]
  by_cases hi : i < 64
  · rw [decide_eq_true hi]; cases x.testBit i <;> cases u.testBit i <;> rfl
  · rw [tb_lt hx hi, tb_lt hu hi]; simp
theorem fm2 {x u : Nat} (hu : u < 18446744073709551616) : lessN x u &&& u = 0 := by
  apply Nat.eq_of_testBit_eq
  intro i
  rw [Nat.testBit_and, tb_less hu, Nat.zero_testBit]
  cases x.testBit i <;> cases u.testBit i <;> simp
theorem fm3 (x u : Nat) : (x &&& u) &&& x = x &&& u := by
  apply Nat.eq_of_testBit_eq
  intro i
  rw [Nat.testBit_and, Nat.testBit_and]
  cases x.testBit i <;> cases u.testBit i <;> rfl
theorem fm4 (x u : Nat) : x &&& (x ||| u) = x := by
  apply Nat.eq_of_testBit_eq
  intro i
  rw [Nat.testBit_and, Nat.testBit_or]
  cases x.testBit i <;> cases u.testBit i <;> rfl
theorem fm5 {x u : Nat} (hx : x < 18446744073709551616) (hu : u < 18446744073709551616) : (x &&& u = x) ↔ lessN x u = 0 := by
  constructor
  · intro h
    apply Nat.eq_of_testBit_eq
    intro i
    have h2 : (x &&& u).testBit i = x.testBit i := by rw [h]
    rw [Nat.testBit_and] at h2
    rw [tb_less hu, Nat.zero_testBit]
    cases hh : x.testBit i <;> cases hg : u.testBit i <;> simp_all
  · intro h
    apply Nat.eq_of_testBit_eq
    intro i
    have h2 : (lessN x u).testBit i = false := by rw [h]; simp
    rw [tb_less hu] at h2
    rw [Nat.testBit_and]
    by_cases hi : i < 64
    · rw [decide_eq_true hi] at h2
      cases hh : x.testBit i <;> cases hg : u.testBit i <;> simp_all
    · rw [tb_lt hx hi]; rfl
theorem bit_mod (x : Nat) : x % 2 = (x.testBit 0).toNat := by
  rw [Nat.testBit_zero]
  rcases Nat.mod_two_eq_zero_or_one x with h | h <;> rw [h] <;> rfl
theorem pop_sum : ∀ (n a b c d : Nat), (∀ i, i < n → (a.testBit i).toNat = (b.testBit i).toNat + (c.testBit i).toNat + (d.testBit i).toNat) → M.pop n a = M.pop n b + M.pop n c + M.pop n d
  | 0, _, _, _, _, _ => rfl
  | n + 1, a, b, c, d, h => by
    have h0 := h 0 (by omega)
    have ih := pop_sum n (a / 2) (b / 2) (c / 2) (d / 2) (fun i hi => by
      have := h (i + 1) (by omega)
      rw [Nat.testBit_succ, Nat.testBit_succ, Nat.testBit_succ, Nat.testBit_succ] at this
      exact this)
    simp only [M.pop]
    rw [ih, bit_mod a, bit_mod b, bit_mod c, bit_mod d, h0]
    omega
theorem fm6 {x u : Nat} (hx : x < 18446744073709551616) (hu : u < 18446744073709551616) : M.pop 64 (x ||| u) = M.pop 64 (x &&& u) + M.pop 64 (lessN x u) + M.pop 64 (lessN u x) := by
  apply pop_sum
  intro i hi
  rw [Nat.testBit_or, Nat.testBit_and, tb_less hu, tb_less hx, decide_eq_true hi]
  cases x.testBit i <;> cases u.testBit i <;> rfl
theorem fm6c {x y u v : Nat} (hx : x < 18446744073709551616) (hu : u < 18446744073709551616) (hy : y < 18446744073709551616) (hv : v < 18446744073709551616) :
    cnt (x ||| u) (y ||| v) = cnt (x &&& u) (y &&& v) + cnt (lessN x u) (lessN y v) + cnt (lessN u x) (lessN v y) := by
  unfold cnt; rw [fm6 hx hu, fm6 hy hv]; omega

/-! ### The holes -/
theorem hasB_low (x y : Nat) {i : Nat} (hi : i < 64) : hasB (x : Int) (y : Int) (i : Int) = x.testBit i := by
  unfold hasB
  rw [if_pos (by omega), Nat.testBit_eq_decide_div_mod_eq, Int.toNat_natCast]
  have : ((x : Int) / 2 ^ i % 2 == 1) = ((x / 2 ^ i % 2 : Nat) == 1) := by
    rw [show (x : Int) / 2 ^ i % 2 = ((x / 2 ^ i % 2 : Nat) : Int) from by simp]
    cases h : ((x / 2 ^ i % 2 : Nat) == 1)
    · simp only [beq_eq_false_iff_ne] at h ⊢; omega
    · simp only [beq_iff_eq] at h ⊢; omega
  rw [this]; rfl
theorem hasB_high (x y : Nat) (i : Nat) : hasB (x : Int) (y : Int) ((64 + i : Nat) : Int) = y.testBit i := by
  unfold hasB
  rw [if_neg (by omega), Nat.testBit_eq_decide_div_mod_eq, show (((64 + i : Nat) : Int) - 64).toNat = i from by omega]
  have : ((y : Int) / 2 ^ i % 2 == 1) = ((y / 2 ^ i % 2 : Nat) == 1) := by
    rw [show (y : Int) / 2 ^ i % 2 = ((y / 2 ^ i % 2 : Nat) : Int) from by simp]
    cases h : ((y / 2 ^ i % 2 : Nat) == 1)
    · simp only [beq_eq_false_iff_ne] at h ⊢; omega
    · simp only [beq_iff_eq] at h ⊢; omega
  rw [this]; rfl
theorem pop_one (n x : Nat) : M.pop (n + 1) x = M.pop n x + (x.testBit n).toNat := by
  rw [M.pop_add]
  show _ = _
  have : M.pop 1 (x / 2 ^ n) = (x.testBit n).toNat := by
    simp only [M.pop]
    rw [Nat.testBit_eq_decide_div_mod_eq]
    rcases Nat.mod_two_eq_zero_or_one (x / 2 ^ n) with h | h <;> rw [h] <;> rfl
  rw [this]
theorem hol_low (x y : Nat) : ∀ k, k ≤ 64 → (hol (hasB (x : Int) (y : Int)) k).length = M.pop k x
  | 0, _ => rfl
  | k + 1, h => by
    have ih := hol_low x y k (by omega)
    have hb := hasB_low x y (show k < 64 by omega)
    rw [pop_one, ← ih]
    cases q : x.testBit k
    · rw [hol_no (hb.trans q)]; rfl
    · rw [hol_yes (hb.trans q)]; simp
theorem hol_high (x y P : Nat) (hP : M.pop 64 x = P) : ∀ k, (hol (hasB (x : Int) (y : Int)) (64 + k)).length = P + M.pop k y
  | 0 => by
    have h0 : M.pop 0 y = 0 := rfl
    rw [h0, Nat.add_zero, Nat.add_zero, ← hP]
    exact hol_low x y 64 (Nat.le_refl _)
  | k + 1 => by
    have ih := hol_high x y P hP k
    have hb := hasB_high x y k
    have e : M.pop (k + 1) y = M.pop k y + (y.testBit k).toNat := pop_one k y
    rw [show 64 + (k + 1) = (64 + k) + 1 from rfl]
    generalize M.pop (k + 1) y = A at *
    generalize M.pop k y = B at *
    clear hP
    cases q : y.testBit k
    · rw [q, show (false).toNat = 0 from rfl] at e
      rw [hol_no (hb.trans q), ih, e, Nat.add_zero]
    · rw [q, show (true).toNat = 1 from rfl] at e
      rw [hol_yes (hb.trans q), List.length_append, ih, e, List.length_singleton, Nat.add_assoc]
theorem hol_cnt (x y : Nat) (hy : y < 4294967296) : (hol (hasB (x : Int) (y : Int)) 96).length = cnt x y := by
  rw [show (96 : Nat) = 64 + 32 from rfl, hol_high x y _ rfl]
  have e : M.pop 64 y = M.pop 32 y + M.pop 32 (y / 2 ^ 32) := M.pop_add 32 32 y
  unfold cnt
  rw [e, Nat.div_eq_of_lt (show y < 2 ^ 32 from by omega), M.pop_zero, Nat.add_zero]
theorem mem_hol (f : Int → Bool) (z : Int) : z ∈ hol f 96 ↔ (0 ≤ z ∧ z ≤ 95) ∧ f z = true := by
  unfold hol
  rw [List.mem_filter, List.mem_map]
  constructor
  · rintro ⟨⟨i, hi, rfl⟩, h⟩
    rw [List.mem_range] at hi
    exact ⟨⟨by omega, by omega⟩, h⟩
  · rintro ⟨⟨h0, h1⟩, h⟩
    exact ⟨⟨z.toNat, List.mem_range.2 (by omega), by omega⟩, h⟩
theorem mem_hol_dec (f : Int → Bool) {z : Int} (h0 : 0 ≤ z) (h1 : z ≤ 95) : decide (z ∈ hol f 96) = f z := by
  cases q : f z
  · exact decide_eq_false fun h => by rw [((mem_hol f z).1 h).2] at q; exact absurd q (by simp)
  · exact decide_eq_true ((mem_hol f z).2 ⟨⟨h0, h1⟩, q⟩)

/-! ### A mask of some holes, one hole more, one hole less -/
def F0 (z : Int) : Nat := if z < 64 then 2 ^ z.toNat else 0
def F1 (z : Int) : Nat := if z < 64 then 0 else 2 ^ (z - 64).toNat
theorem b0_nat (z : Int) : b0 z = (F0 z : Int) := by unfold b0 F0; split <;> simp
theorem b1_nat (z : Int) : b1 z = (F1 z : Int) := by unfold b1 F1; split <;> simp
theorem F0_lt (z : Int) : F0 z < 18446744073709551616 := by
  unfold F0
  split
  · have : 2 ^ z.toNat < 2 ^ 64 := Nat.pow_lt_pow_right (by omega) (by omega)
    omega
  · omega
theorem F1_lt {z : Int} (h : z ≤ 95) : F1 z < 4294967296 := by
  unfold F1
  split
  · omega
  · have : 2 ^ (z - 64).toNat < 2 ^ 32 := Nat.pow_lt_pow_right (by omega) (by omega)
    omega
theorem F0_bit (z : Int) (i : Nat) : (F0 z).testBit i = (decide (z < 64) && decide (z.toNat = i)) := by
  unfold F0
  by_cases h : z < 64
  · rw [if_pos h, Nat.testBit_two_pow, decide_eq_true h]; rfl
  · rw [if_neg h, Nat.zero_testBit, decide_eq_false h]; rfl
theorem F1_bit (z : Int) (i : Nat) : (F1 z).testBit i = (!decide (z < 64) && decide ((z - 64).toNat = i)) := by
  unfold F1
  by_cases h : z < 64
  · rw [if_pos h, Nat.zero_testBit, decide_eq_true h]; rfl
  · rw [if_neg h, Nat.testBit_two_pow, decide_eq_false h]; rfl
theorem mo_nat (f : Int → Int) (F : Int → Nat) (zs : List Int) (hf : ∀ z, 0 ≤ z → z ≤ 95 → f z = (F z : Int) ∧ F z < 18446744073709551616) (hz : ∀ z ∈ zs, 0 ≤ z ∧ z ≤ 95) :
    ∀ k, k ≤ zs.length → ∃ X : Nat, X < 18446744073709551616 ∧ mo f zs k = (X : Int) ∧ ∀ i, X.testBit i = true ↔ ∃ j, j < k ∧ (F (zs.getD j 0)).testBit i = true
  | 0, _ => ⟨0, by omega, rfl, fun i => by rw [Nat.zero_testBit]; exact ⟨fun h => absurd h (by simp), fun ⟨j, hj, _⟩ => absurd hj (Nat.not_lt_zero _)⟩⟩
  | k + 1, hk => by
    obtain ⟨X, h1, h2, h3⟩ := mo_nat f F zs hf hz k (by omega)
    obtain ⟨z0, z1⟩ := hz _ (getD_mem (show k < zs.length from hk))
    obtain ⟨e, hlt⟩ := hf _ z0 z1
    refine ⟨X ||| F (zs.getD k 0), ?_, ?_, fun i => ?_⟩
    · have : X ||| F (zs.getD k 0) < 2 ^ 64 := Nat.or_lt_two_pow (by omega) (by omega)
      omega
    · unfold mo; rw [h2, e, Go.u64_or_nat _ _ h1 hlt]
    · rw [Nat.testBit_or, Bool.or_eq_true, h3 i]
      constructor
      · rintro (⟨j, hj, h⟩ | h)
        · exact ⟨j, by omega, h⟩
        · exact ⟨k, by omega, h⟩
      · rintro ⟨j, hj, h⟩
        by_cases ej : j = k
        · subst ej; exact .inr h
        · exact .inl ⟨j, by omega, h⟩
theorem hol_in96 (f : Int → Bool) : ∀ z ∈ hol f 96, 0 ≤ z ∧ z ≤ 95 := fun z hz => ((mem_hol f z).1 hz).1
theorem mo_hol0 (x y : Nat) (hx : x < 18446744073709551616) : mo b0 (hol (hasB (x : Int) (y : Int)) 96) (hol (hasB (x : Int) (y : Int)) 96).length = (x : Int) := by
  obtain ⟨X, h1, h2, h3⟩ := mo_nat b0 F0 (hol (hasB (x : Int) (y : Int)) 96) (fun z _ _ => ⟨b0_nat z, F0_lt z⟩) (hol_in96 _) _ (Nat.le_refl _)
  rw [h2]
  congr 1
  apply Nat.eq_of_testBit_eq
  intro i
  by_cases hi : i < 64
  · rw [Bool.eq_iff_iff, h3 i, ← hasB_low x y hi]
    constructor
    · rintro ⟨j, hj, h⟩
      rw [F0_bit, Bool.and_eq_true, decide_eq_true_eq, decide_eq_true_eq] at h
      obtain ⟨⟨z0, z1⟩, hh⟩ := (mem_hol _ _).1 (getD_mem hj)
      rw [show ((i : Nat) : Int) = (hol (hasB (x : Int) (y : Int)) 96).getD j 0 from by omega]
      exact hh
    · intro h
      obtain ⟨j, hj, e⟩ := mem_getD ((mem_hol (hasB (x : Int) (y : Int)) (i : Int)).2 ⟨⟨by omega, by omega⟩, h⟩)
      exact ⟨j, hj, by rw [e, F0_bit, Bool.and_eq_true, decide_eq_true_eq, decide_eq_true_eq]; omega⟩
  · rw [tb_lt h1 hi, tb_lt hx hi]
theorem mo_hol1 (x y : Nat) (hy : y < 4294967296) : mo b1 (hol (hasB (x : Int) (y : Int)) 96) (hol (hasB (x : Int) (y : Int)) 96).length = (y : Int) := by
  obtain ⟨X, h1, h2, h3⟩ := mo_nat b1 F1 (hol (hasB (x : Int) (y : Int)) 96) (fun z _ h => ⟨b1_nat z, by have := F1_lt h; omega⟩) (hol_in96 _) _ (Nat.le_refl _)
  rw [h2]
  congr 1
  apply Nat.eq_of_testBit_eq
  intro i
  rw [Bool.eq_iff_iff, h3 i, ← hasB_high x y i]
  constructor
  · rintro ⟨j, hj, h⟩
    rw [F1_bit, Bool.and_eq_true, Bool.not_eq_true', decide_eq_false_iff_not, decide_eq_true_eq] at h
    obtain ⟨⟨z0, z1⟩, hh⟩ := (mem_hol _ _).1 (getD_mem hj)
    rw [show ((64 + i : Nat) : Int) = (hol (hasB (x : Int) (y : Int)) 96).getD j 0 from by omega]
    exact hh
  · intro h
    have hi : i < 32 := by
      by_cases hi : i < 32
      · exact hi
      · rw [hasB_high, Nat.testBit_lt_two_pow (Nat.lt_of_lt_of_le (show y < 2 ^ 32 by omega) (Nat.pow_le_pow_right (by omega) (by omega)))] at h
        exact absurd h (by simp)
    obtain ⟨j, hj, e⟩ := mem_getD ((mem_hol (hasB (x : Int) (y : Int)) ((64 + i : Nat) : Int)).2 ⟨⟨by omega, by omega⟩, h⟩)
    exact ⟨j, hj, by rw [e, F1_bit, Bool.and_eq_true, Bool.not_eq_true', decide_eq_false_iff_not, decide_eq_true_eq]; omega⟩
theorem moV_hol (x y : Nat) (hx : x < 18446744073709551616) (hy : y < 4294967296) : moV (hol (hasB (x : Int) (y : Int)) 96) = .tuple #[.agg #[.int .u64 (x : Int), .int .u64 (y : Int)], .int .i64 0] := by
  rw [moV_in, mo_hol0 x y hx, mo_hol1 x y hy]
  exact fun i hi => hol_in96 _ _ (getD_mem hi)
theorem hasB_bits (x y : Nat) {z : Int} (h0 : 0 ≤ z) : hasB (x : Int) (y : Int) z = if z < 64 then x.testBit z.toNat else y.testBit (z - 64).toNat := by
  by_cases h : z < 64
  · rw [if_pos h]
    have := hasB_low x y (show z.toNat < 64 by omega)
    rw [show ((z.toNat : Nat) : Int) = z from by omega] at this
    exact this
  · rw [if_neg h]
    have := hasB_high x y (z - 64).toNat
    rw [show ((64 + (z - 64).toNat : Nat) : Int) = z from by omega] at this
    exact this
theorem open_has (x y : Nat) {z : Int} (h0 : 0 ≤ z) : hasB ((x ||| F0 z : Nat) : Int) ((y ||| F1 z : Nat) : Int) z = true := by
  rw [hasB_bits _ _ h0]
  by_cases h : z < 64
  · rw [if_pos h, Nat.testBit_or, F0_bit]; simp [h]
  · rw [if_neg h, Nat.testBit_or, F1_bit]; simp [h]
theorem shut_has (x y : Nat) {z : Int} (h0 : 0 ≤ z) (h1 : z ≤ 95) : hasB ((lessN x (F0 z) : Nat) : Int) ((lessN y (F1 z) : Nat) : Int) z = false := by
  rw [hasB_bits _ _ h0]
  have := F1_lt h1
  by_cases h : z < 64
  · rw [if_pos h, tb_less (F0_lt z), F0_bit]; simp [h]
  · rw [if_neg h, tb_less (by omega), F1_bit]; simp [h]
theorem has_open {x y : Nat} {z : Int} (h0 : 0 ≤ z) (h : hasB (x : Int) (y : Int) z = true) : (x ||| F0 z) = x ∧ (y ||| F1 z) = y := by
  rw [hasB_bits _ _ h0] at h
  constructor <;> apply Nat.eq_of_testBit_eq <;> intro i
  · rw [Nat.testBit_or, F0_bit]
    by_cases hz : z < 64
    · rw [if_pos hz] at h
      by_cases e : z.toNat = i
      · subst e; rw [h]; rfl
      · simp [e]
    · simp [hz]
  · rw [Nat.testBit_or, F1_bit]
    by_cases hz : z < 64
    · simp [hz]
    · rw [if_neg hz] at h
      by_cases e : (z - 64).toNat = i
      · subst e; rw [h]; rfl
      · simp [e]
theorem has_shut {x y : Nat} {z : Int} (hx : x < 18446744073709551616) (hy : y < 4294967296) (h0 : 0 ≤ z) (h1 : z ≤ 95) (h : hasB (x : Int) (y : Int) z = false) : lessN x (F0 z) = x ∧ lessN y (F1 z) = y := by
  rw [hasB_bits _ _ h0] at h
  have f1 := F1_lt h1
  constructor <;> apply Nat.eq_of_testBit_eq <;> intro i
  · rw [tb_less (F0_lt z), F0_bit]
    by_cases hi : i < 64
    · by_cases hz : z < 64
      · rw [if_pos hz] at h
        by_cases e : z.toNat = i
        · subst e; rw [h]; rfl
        · simp [e, hi]
      · simp [hz, hi]
    · rw [tb_lt hx hi]; rfl
  · rw [tb_less (by omega), F1_bit]
    by_cases hi : i < 64
    · by_cases hz : z < 64
      · simp [hz, hi]
      · rw [if_neg hz] at h
        by_cases e : (z - 64).toNat = i
        · subst e; rw [h]; rfl
        · simp [e, hi]
    · rw [tb_lt (by omega) hi]; rfl
end Go.Proofs.YtpkpjkceiikakaaGreatDoor
