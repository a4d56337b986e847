/- The text of wear, in plain words. No program. -/
import Derived.Test.YtbmjghkdhhcffaaDoorTxJ
import Derived.Test.YtbmjghkdhhcffaaDoorHolesIn
import Derived.Test.YtbmjghkdhhcffaaDoorWear2
namespace Go.Proofs.YtbmjghkdhhcffaaDoor
open Go.ChangeShapes Go.WideShapes Go.ChangeAt Go.RowKit

theorem hasW_low (x y : Nat) {i : Nat} (hi : i < 64) : hasB (x : Int) (y : Int) (i : Int) = x.testBit i := by
  unfold hasB
  rw [if_pos (by omega), Nat.testBit_eq_decide_div_mod_eq, Int.toNat_natCast]
  have : ((x : Int) / 2 ^ i % 2 == 1) = ((x / 2 ^ i % 2 : Nat) == 1) := by
    rw [show (x : Int) / 2 ^ i % 2 = ((x / 2 ^ i % 2 : Nat) : Int) from by simp]
    cases h : ((x / 2 ^ i % 2 : Nat) == 1)
    · simp only [beq_eq_false_iff_ne] at h ⊢; omega
    · simp only [beq_iff_eq] at h ⊢; omega
  rw [this]; rfl
theorem hasW_high (x y : Nat) (i : Nat) : hasB (x : Int) (y : Int) ((64 + i : Nat) : Int) = y.testBit i := by
  unfold hasB
  rw [if_neg (by omega), Nat.testBit_eq_decide_div_mod_eq, show (((64 + i : Nat) : Int) - 64).toNat = i from by omega]
  have : ((y : Int) / 2 ^ i % 2 == 1) = ((y / 2 ^ i % 2 : Nat) == 1) := by
    rw [show (y : Int) / 2 ^ i % 2 = ((y / 2 ^ i % 2 : Nat) : Int) from by simp]
    cases h : ((y / 2 ^ i % 2 : Nat) == 1)
    · simp only [beq_eq_false_iff_ne] at h ⊢; omega
    · simp only [beq_iff_eq] at h ⊢; omega
  rw [this]; rfl
theorem hasW (x y k : Nat) : hasB (x : Int) (y : Int) (k : Int) = if k < 64 then x.testBit k else y.testBit (k - 64) := by
  by_cases h : k < 64
  · rw [if_pos h]; exact hasW_low x y h
  · rw [if_neg h]
    have := hasW_high x y (k - 64)
    rwa [show 64 + (k - 64) = k by omega] at this
/-- What is in one of two masks. -/
theorem hasW_or {a b c d : Int} (ha : U64 a) (hb : U64 b) (hc : U64 c) (hd : U64 d) (k : Nat) : hasB (bits .or .u64 a c) (bits .or .u64 b d) k = (hasB a b k || hasB c d k) := by
  obtain ⟨x, rfl⟩ := Int.eq_ofNat_of_zero_le ha.1
  obtain ⟨y, rfl⟩ := Int.eq_ofNat_of_zero_le hb.1
  obtain ⟨u, rfl⟩ := Int.eq_ofNat_of_zero_le hc.1
  obtain ⟨v, rfl⟩ := Int.eq_ofNat_of_zero_le hd.1
  have h1 : bits .or .u64 (x : Int) (u : Int) = ((x ||| u : Nat) : Int) := by
    rw [Go.u64_or _ _ (by omega) (by have := ha.2; omega) (by omega) (by have := hc.2; omega)]; simp
  have h2 : bits .or .u64 (y : Int) (v : Int) = ((y ||| v : Nat) : Int) := by
    rw [Go.u64_or _ _ (by omega) (by have := hb.2; omega) (by omega) (by have := hd.2; omega)]; simp
  rw [h1, h2, hasW, hasW, hasW]
  split
  · rw [Nat.testBit_or]
  · rw [Nat.testBit_or]
theorem hasW_apart {a b c d : Int} (ha : U64 a) (hb : U64 b) (hc : U64 c) (hd : U64 d) (h : meetZ a b c d = true) (k : Nat) (h1 : hasB a b k = true) : hasB c d k = false := by
  obtain ⟨x, rfl⟩ := Int.eq_ofNat_of_zero_le ha.1
  obtain ⟨y, rfl⟩ := Int.eq_ofNat_of_zero_le hb.1
  obtain ⟨u, rfl⟩ := Int.eq_ofNat_of_zero_le hc.1
  obtain ⟨v, rfl⟩ := Int.eq_ofNat_of_zero_le hd.1
  have e1 : bits .and .u64 (x : Int) (u : Int) = ((x &&& u : Nat) : Int) := by
    rw [Go.u64_and _ _ (by omega) (by have := ha.2; omega) (by omega) (by have := hc.2; omega)]; simp
  have e2 : bits .and .u64 (y : Int) (v : Int) = ((y &&& v : Nat) : Int) := by
    rw [Go.u64_and _ _ (by omega) (by have := hb.2; omega) (by omega) (by have := hd.2; omega)]; simp
  unfold meetZ at h
  rw [e1, e2, Bool.and_eq_true, beq_iff_eq, beq_iff_eq] at h
  have n1 : x &&& u = 0 := by omega
  have n2 : y &&& v = 0 := by omega
  rw [hasW] at h1 ⊢
  by_cases hk : k < 64
  · rw [if_pos hk] at h1 ⊢
    have := congrArg (·.testBit k) n1
    simp only [Nat.testBit_and, h1, Bool.true_and, Nat.zero_testBit] at this
    exact this
  · rw [if_neg hk] at h1 ⊢
    have := congrArg (·.testBit (k - 64)) n2
    simp only [Nat.testBit_and, h1, Bool.true_and, Nat.zero_testBit] at this
    exact this

/-! ### Texts joined by blanks -/
theorem join_two (x y : List UInt8) (r : List (List UInt8)) (sep : List UInt8) : Lib.join (x :: y :: r) sep = x ++ (sep ++ Lib.join (y :: r) sep) := by
  simp [Lib.join, List.intercalate, List.intersperse]
theorem join_one (x sep : List UInt8) : Lib.join [x] sep = x := by simp [Lib.join, List.intercalate, List.intersperse]
theorem join_snoc (sep y : List UInt8) : ∀ (xs : List (List UInt8)) (x : List UInt8), Lib.join (x :: (xs ++ [y])) sep = Lib.join (x :: xs) sep ++ (sep ++ y)
  | [], x => by rw [List.nil_append, join_two, join_one, join_one]
  | z :: xs, x => by rw [List.cons_append, join_two, join_two, join_snoc sep y xs z, List.append_assoc, List.append_assoc]
theorem join_len : ∀ (xs : List (List UInt8)), (∀ x ∈ xs, x.length ≤ 3) → (Lib.join xs [32]).length ≤ 4 * xs.length
  | [], _ => by simp [Lib.join, List.intercalate]
  | [x], h => by rw [join_one]; have := h x (by simp); simp; omega
  | x :: y :: r, h => by
    rw [join_two, List.length_append, List.length_append]
    have h1 := h x (by simp)
    have h2 := join_len (y :: r) fun z hz => h z (List.mem_cons_of_mem _ hz)
    simp only [List.length_cons, List.length_nil] at h2 ⊢
    omega
/-- One text more. -/
def jn (s y : ByteArray) : ByteArray := if s.size = 0 then y else (s ++ ⟨#[32]⟩) ++ y
theorem joinT_none : joinT [] = ByteArray.empty := rfl
theorem joinT_snoc {xs : List ByteArray} (y : ByteArray) (hx : ∀ x ∈ xs, 0 < x.size) : joinT (xs ++ [y]) = jn (joinT xs) y := by
  cases xs with
  | nil =>
    show (⟨(Lib.join [y.data.toList] [32]).toArray⟩ : ByteArray) = jn (joinT []) y
    rw [join_one]
    rfl
  | cons x xs =>
    have hne : (joinT (x :: xs)).size ≠ 0 := by
      show (Lib.join ((x :: xs).map (·.data.toList)) [32]).toArray.size ≠ 0
      have hp : 0 < x.data.toList.length := by rw [Array.length_toList]; exact hx x List.mem_cons_self
      rw [List.size_toArray]
      cases xs with
      | nil => rw [List.map_cons, List.map_nil, join_one]; omega
      | cons z zs => rw [List.map_cons, List.map_cons, join_two, List.length_append]; omega
    unfold jn
    rw [if_neg hne]
    apply ByteArray.ext
    rw [ByteArray.data_append, ByteArray.data_append]
    show (Lib.join ((x :: xs ++ [y]).map (·.data.toList)) [32]).toArray = ((Lib.join ((x :: xs).map (·.data.toList)) [32]).toArray ++ #[32]) ++ y.data
    rw [List.map_append, List.map_cons, List.cons_append, List.map_cons, List.map_nil, join_snoc]
    apply Array.ext'
    simp

/-! ### The words of wear -/
def sgn (b : Bool) : ByteArray := if b then ⟨#[43]⟩ else ⟨#[45]⟩
/-- The word of a hole: torn where a b has it. -/
def wd (a b z : Int) : ByteArray := sgn (hasB a b z) ++ dec2 z.toNat
theorem dec2_size {n : Nat} (h : n < 100) : 0 < (dec2 n).size ∧ (dec2 n).size ≤ 2 := by
  unfold dec2
  split
  · exact ⟨by show 0 < 1; omega, by show 1 ≤ 2; omega⟩
  · rw [ByteArray.size_append]; exact ⟨by show 0 < 1 + 1; omega, by show 1 + 1 ≤ 2; omega⟩
theorem sgn_size (b : Bool) : (sgn b).size = 1 := by cases b <;> rfl
theorem wd_size (a b : Int) {z : Int} (h0 : 0 ≤ z) (h1 : z ≤ 95) : 0 < (wd a b z).size ∧ (wd a b z).size ≤ 3 := by
  have h := dec2_size (n := z.toNat) (by omega)
  unfold wd
  rw [ByteArray.size_append, sgn_size]
  omega
def wds (a b : Int) (zs : List Int) : List ByteArray := zs.map (wd a b)
theorem mem_holW {f : Int → Bool} {n : Nat} {z : Int} (h : z ∈ hol f n) : 0 ≤ z ∧ z < n := by
  unfold hol at h
  rw [List.mem_filter, List.mem_map] at h
  obtain ⟨⟨i, hi, rfl⟩, _⟩ := h
  have := List.mem_range.1 hi
  omega
theorem wds_pos (a b : Int) {f : Int → Bool} {n : Nat} (hn : n ≤ 96) : ∀ x ∈ wds a b (hol f n), 0 < x.size := fun x hx => by
  obtain ⟨z, hz, rfl⟩ := List.mem_map.1 hx
  have := mem_holW hz
  exact (wd_size a b (by omega) (by omega)).1
theorem wds_len (a b : Int) {f : Int → Bool} : (Lib.join ((wds a b (hol f 96)).map (·.data.toList)) [32]).length ≤ 100000 := by
  have h := join_len ((wds a b (hol f 96)).map (·.data.toList)) (fun x hx => by
    obtain ⟨y, hy, rfl⟩ := List.mem_map.1 hx
    obtain ⟨z, hz, rfl⟩ := List.mem_map.1 hy
    have := mem_holW hz
    rw [Array.length_toList]
    exact (wd_size a b (z := z) (by omega) (by omega)).2)
  have h2 := hol_len f 96
  unfold wds at h ⊢
  rw [List.length_map, List.length_map] at h
  omega
/-- What the model has written behind the first n holes. -/
def moT (a b c d : Int) : Nat → ByteArray
  | 0 => ByteArray.empty
  | n + 1 => if hasB c d n = true then jn (moT a b c d n) (⟨#[45]⟩ ++ dec2 n) else if hasB a b n = true then jn (moT a b c d n) (⟨#[43]⟩ ++ dec2 n) else moT a b c d n
theorem moT_f {a b c d : Int} {n : Nat} (h : hasB c d n = true) : moT a b c d (n + 1) = jn (moT a b c d n) (⟨#[45]⟩ ++ dec2 n) := if_pos h
theorem moT_t {a b c d : Int} {n : Nat} (h : hasB c d n = false) (h2 : hasB a b n = true) : moT a b c d (n + 1) = jn (moT a b c d n) (⟨#[43]⟩ ++ dec2 n) := by
  show (if hasB c d n = true then _ else _) = _
  rw [if_neg (by rw [h]; simp), if_pos h2]
theorem moT_n {a b c d : Int} {n : Nat} (h : hasB c d n = false) (h2 : hasB a b n = false) : moT a b c d (n + 1) = moT a b c d n := by
  show (if hasB c d n = true then _ else _) = _
  rw [if_neg (by rw [h]; simp), if_neg (by rw [h2]; simp)]
theorem jn_size (s y : ByteArray) : (jn s y).size ≤ s.size + 1 + y.size := by
  unfold jn
  split
  · omega
  · rw [ByteArray.size_append, ByteArray.size_append]; show s.size + 1 + y.size ≤ _; omega
theorem moT_size (a b c d : Int) : ∀ n, n ≤ 96 → (moT a b c d n).size ≤ 4 * n
  | 0, _ => Nat.le_refl _
  | n + 1, hn => by
    have ih := moT_size a b c d n (by omega)
    have h2 := dec2_size (n := n) (by omega)
    cases h : hasB c d n
    · cases q : hasB a b n
      · rw [moT_n h q]; omega
      · rw [moT_t h q]
        have := jn_size (moT a b c d n) (⟨#[43]⟩ ++ dec2 n)
        rw [ByteArray.size_append] at this
        have e : (⟨#[43]⟩ : ByteArray).size = 1 := rfl
        omega
    · rw [moT_f h]
      have := jn_size (moT a b c d n) (⟨#[45]⟩ ++ dec2 n)
      rw [ByteArray.size_append] at this
      have e : (⟨#[45]⟩ : ByteArray).size = 1 := rfl
      omega
theorem moT_join {a b c d : Int} (ha : U64 a) (hb : U64 b) (hc : U64 c) (hd : U64 d) (h : meetZ a b c d = true) : ∀ n, n ≤ 96 → moT a b c d n = joinT (wds a b (hol (hasB (bits .or .u64 a c) (bits .or .u64 b d)) n))
  | 0, _ => rfl
  | n + 1, hn => by
    have ih := moT_join ha hb hc hd h n (by omega)
    have hor := hasW_or ha hb hc hd n
    have ep := wds_pos a b (f := hasB (bits .or .u64 a c) (bits .or .u64 b d)) (n := n) (by omega)
    cases q : hasB c d n
    · cases p : hasB a b n
      · rw [moT_n q p, hol_no (by rw [hor, p, q]; rfl)]; exact ih
      · rw [moT_t q p, hol_yes (by rw [hor, p, q]; rfl), ih]
        unfold wds at ep ⊢
        rw [List.map_append, List.map_cons, List.map_nil, joinT_snoc _ ep]
        unfold wd
        rw [p, Int.toNat_natCast]
        rfl
    · have p : hasB a b n = false := by
        cases p : hasB a b n
        · rfl
        · have := hasW_apart ha hb hc hd h n p
          rw [q] at this; cases this
      rw [moT_f q, hol_yes (by rw [hor, p, q]; rfl), ih]
      unfold wds at ep ⊢
      rw [List.map_append, List.map_cons, List.map_nil, joinT_snoc _ ep]
      unfold wd
      rw [p, Int.toNat_natCast]
      rfl
end Go.Proofs.YtbmjghkdhhcffaaDoor
