/- Numbers read from texts, and texts put together of their pieces. No program. -/
import Derived.Test.YtppjmngnjdeigaaDoorSeqM
import Derived.Test.YtppjmngnjdeigaaDoorDec
import Derived.Lib.ParseIntBTie
import Derived.Lib.SplitLaws
namespace Go.Proofs.YtppjmngnjdeigaaDoor
open Go.ChangeShapes Go.WideShapes Go.ChangeAt Go.RowKit

/-! ### Numbers -/
def digs : Nat → List UInt8 → Option Nat
  | acc, [] => some acc
  | acc, c :: r => if 48 ≤ c.toNat ∧ c.toNat ≤ 57 then digs (10 * acc + (c.toNat - 48)) r else none
/-- A number of at most ten digits, without a sign, as it is written. -/
def numL (l : List UInt8) : Option Nat := if l = [] ∨ 10 < l.length ∨ (l.head? = some 48 ∧ 1 < l.length) then none else digs 0 l
/-- What strconv.ParseInt gives, where it gives something. -/
def pIn (B : Nat) (s : ByteArray) : Option Int := match Lib.parseIntB B s.data.toList with
  | .ok v => some v
  | _ => none
def decL (n : Nat) : List UInt8 := if n < 10 then [UInt8.ofNat (48 + n)] else [UInt8.ofNat (48 + n / 10), UInt8.ofNat (48 + n % 10)]
theorem dec2_data (n : Nat) : (dec2 n).data.toList = decL n := by
  unfold dec2 decL
  split
  · rfl
  · rw [ByteArray.data_append]; rfl
theorem numL_dec : ∀ n, n < 100 → numL (decL n) = some n := by decide +kernel
theorem pIn16_dec : ∀ n, n < 100 → Lib.parseIntB 16 (decL n) = .ok (n : Int) := by decide +kernel
theorem pIn64_dec : ∀ n, n < 100 → Lib.parseIntB 64 (decL n) = .ok (n : Int) := by decide +kernel
theorem no_blank_dec : ∀ n, n < 100 → ∀ b ∈ decL n, 48 ≤ b.toNat := by decide +kernel
theorem pIn16 {n : Nat} (h : n < 100) : pIn 16 (dec2 n) = some (n : Int) := by unfold pIn; rw [dec2_data, pIn16_dec n h]
theorem pIn64 {n : Nat} (h : n < 100) : pIn 64 (dec2 n) = some (n : Int) := by unfold pIn; rw [dec2_data, pIn64_dec n h]
theorem numL_dec2 {n : Nat} (h : n < 100) : numL (dec2 n).data.toList = some n := by rw [dec2_data, numL_dec n h]
theorem digs_ge : ∀ (l : List UInt8) (acc n : Nat), digs acc l = some n → acc ≤ n
  | [], acc, n, h => by simp [digs] at h; omega
  | c :: r, acc, n, h => by
    rw [digs] at h
    split at h
    · have := digs_ge r _ n h; omega
    · cases h
theorem u8_of {c : UInt8} {k : Nat} (h : 48 ≤ c.toNat) (hk : k = c.toNat - 48) : UInt8.ofNat (48 + k) = c := by
  apply UInt8.toNat_inj.1
  have := c.toNat_lt
  rw [UInt8.toNat_ofNat']
  omega
theorem decL_of {l : List UInt8} {n : Nat} (h : numL l = some n) (hn : n < 100) : l = decL n := by
  unfold numL at h
  split at h
  · cases h
  · rename_i hc
    match l, h, hc with
    | [], _, hc => simp at hc
    | [a], h, hc =>
      rw [digs] at h
      split at h
      · rename_i ha
        rw [digs] at h
        have h := Option.some.inj h
        unfold decL
        rw [if_pos (by omega), u8_of ha.1 (by omega)]
      · cases h
    | [a, b], h, hc =>
      have h48 : a ≠ 48 := fun e => hc (.inr (.inr ⟨by rw [e]; rfl, by simp⟩))
      have h48 : a.toNat ≠ 48 := fun e => h48 (UInt8.toNat_inj.1 e)
      rw [digs] at h
      split at h
      · rename_i ha
        rw [digs] at h
        split at h
        · rename_i hb
          rw [digs] at h
          have h := Option.some.inj h
          unfold decL
          rw [if_neg (by omega), u8_of ha.1 (by omega), u8_of hb.1 (by omega)]
        · cases h
      · cases h
    | a :: b :: c :: r, h, hc =>
      exfalso
      have h48 : a ≠ 48 := fun e => hc (.inr (.inr ⟨by rw [e]; rfl, by simp⟩))
      have h48 : a.toNat ≠ 48 := fun e => h48 (UInt8.toNat_inj.1 e)
      rw [digs] at h
      split at h
      · rename_i ha
        rw [digs] at h
        split at h
        · rw [digs] at h
          split at h
          · have := digs_ge _ _ _ h; omega
          · cases h
        · cases h
      · cases h
theorem data_inj {x y : ByteArray} (h : x.data.toList = y.data.toList) : x = y := by
  rw [← mkS_data x, ← mkS_data y, h]
theorem dec2_of {s : ByteArray} {n : Nat} (h : numL s.data.toList = some n) (hn : n < 100) : s = dec2 n :=
  data_inj (by rw [dec2_data]; exact decL_of h hn)
theorem num_le : ∀ (l : List UInt8) (acc n : Nat), digs acc l = some n → n < (acc + 1) * 10 ^ l.length
  | [], acc, n, h => by simp [digs] at h; simp; omega
  | c :: r, acc, n, h => by
    rw [digs] at h
    split at h
    · have := num_le r _ n h
      rw [List.length_cons, Nat.pow_succ]
      have h2 : (10 * acc + (c.toNat - 48) + 1) * 10 ^ r.length ≤ ((acc + 1) * 10) * 10 ^ r.length := Nat.mul_le_mul_right _ (by omega)
      rw [Nat.mul_comm (10 ^ r.length) 10, ← Nat.mul_assoc]
      omega
    · cases h
theorem numL_lt {l : List UInt8} {n : Nat} (h : numL l = some n) : n < 10000000000 := by
  unfold numL at h
  split at h
  · cases h
  · rename_i hc
    have h1 := num_le l 0 n h
    have h2 : 10 ^ l.length ≤ 10 ^ 10 := Nat.pow_le_pow_right (by omega) (by
      rcases Nat.lt_or_ge 10 l.length with h' | h'
      · exact absurd (.inr (.inl h')) hc
      · exact h')
    omega

/-! ### Pieces -/
def joinC (c : UInt8) : List (List UInt8) → List UInt8
  | [] => []
  | [a] => a
  | a :: b :: r => a ++ c :: joinC c (b :: r)
theorem joinC_cons (c : UInt8) (a : List UInt8) {ps : List (List UInt8)} (h : ps ≠ []) : joinC c (a :: ps) = a ++ c :: joinC c ps := by
  cases ps with
  | nil => exact absurd rfl h
  | cons b r => rfl
theorem spl_ne (c : UInt8) : ∀ l acc : List UInt8, spl c acc l ≠ []
  | [], acc => by simp [spl]
  | x :: xs, acc => by
    rw [spl]
    split
    · simp
    · exact spl_ne c xs _
theorem join_of_spl (c : UInt8) : ∀ l acc : List UInt8, joinC c (spl c acc l) = acc ++ l
  | [], acc => by simp [spl, joinC]
  | x :: xs, acc => by
    rw [spl]
    split
    · rename_i e
      rw [joinC_cons c acc (spl_ne c xs []), join_of_spl c xs [], e]; rfl
    · rw [join_of_spl c xs, List.append_assoc]; rfl
theorem spl_app {c : UInt8} (t : List UInt8) : ∀ (a acc : List UInt8), c ∉ a → spl c acc (a ++ c :: t) = (acc ++ a) :: spl c [] t
  | [], acc, _ => by rw [List.nil_append, spl, if_pos rfl, List.append_nil]
  | x :: xs, acc, h => by
    rw [List.cons_append, spl, if_neg (fun e => h (by rw [e]; exact List.mem_cons_self)), spl_app t xs _ (fun e => h (List.mem_cons_of_mem _ e)), List.append_assoc]; rfl
theorem spl_of_join {c : UInt8} : ∀ {ps : List (List UInt8)}, ps ≠ [] → (∀ p ∈ ps, c ∉ p) → spl c [] (joinC c ps) = ps
  | [], h, _ => absurd rfl h
  | [a], _, h => by
    rw [joinC, spl_none _ _ (h a (by simp)), List.nil_append]
  | a :: b :: r, _, h => by
    rw [joinC, spl_app _ _ _ (h a (by simp)), List.nil_append, spl_of_join (by simp) (fun p hp => h p (by simp at hp ⊢; exact .inr hp))]
theorem pieces_ne (c : UInt8) (s : ByteArray) : pieces c s ≠ [] := by
  unfold pieces
  intro h
  exact spl_ne c _ _ (List.map_eq_nil_iff.1 h)
theorem map_mkS (ps : List (List UInt8)) : (ps.map mkS).map (fun p => p.data.toList) = ps := by
  rw [List.map_map]
  have : (fun p : ByteArray => p.data.toList) ∘ mkS = id := by funext l; rfl
  rw [this, List.map_id]
theorem map_mkS2 (ps : List ByteArray) : (ps.map (fun p => p.data.toList)).map mkS = ps := by
  rw [List.map_map]
  have : mkS ∘ (fun p : ByteArray => p.data.toList) = id := by funext l; exact mkS_data l
  rw [this, List.map_id]
theorem pieces_join (c : UInt8) (s : ByteArray) : s.data.toList = joinC c ((pieces c s).map fun p => p.data.toList) := by
  unfold pieces
  rw [map_mkS, join_of_spl, List.nil_append]
theorem pieces_of {c : UInt8} {s : ByteArray} {ps : List ByteArray} (h : s.data.toList = joinC c (ps.map fun p => p.data.toList)) (hn : ps ≠ []) (hc : ∀ p ∈ ps, c ∉ p.data.toList) : pieces c s = ps := by
  unfold pieces
  rw [h, spl_of_join (by simpa using hn) (fun p hp => by obtain ⟨q, hq, rfl⟩ := List.mem_map.1 hp; exact hc q hq), map_mkS2]
theorem spl_free {c : UInt8} : ∀ (l acc : List UInt8), c ∉ acc → ∀ p ∈ spl c acc l, c ∉ p
  | [], acc, h, p, hp => by
    rw [spl, List.mem_singleton] at hp
    subst hp
    exact h
  | x :: xs, acc, h, p, hp => by
    rw [spl] at hp
    split at hp
    · rcases List.mem_cons.1 hp with rfl | hp
      · exact h
      · exact spl_free xs [] (by simp) p hp
    · rename_i e
      exact spl_free xs _ (fun hm => by
        rcases List.mem_append.1 hm with hm | hm
        · exact h hm
        · exact e (List.mem_singleton.1 hm).symm) p hp
theorem pieces_free {c : UInt8} {s p : ByteArray} (h : p ∈ pieces c s) : c ∉ p.data.toList := by
  unfold pieces at h
  obtain ⟨l, hl, rfl⟩ := List.mem_map.1 h
  exact spl_free _ [] (by simp) l hl

/-! ### The library's pieces -/
theorem splitB_pieces (c : UInt8) : ∀ (k : Nat) (s : ByteArray), Lib.countB s ⟨#[c]⟩ = k → Lib.splitB ⟨#[c]⟩ 0 k s = pieces c s
  | k, s, h => by
    have e1 : Lib.indexB s ⟨#[c]⟩ = Lib.indexByte s.data.toList c := Lib.index_one _ _
    have z1 : (ByteArray.mk #[c]).size = 1 := rfl
    rcases ib_spec s.data.toList c with ⟨hi, hn⟩ | ⟨i, hi, hk, hg, hn⟩
    · rw [Lib.splitB_miss _ _ _ _ (by rw [e1, hi]), pieces_none hn]
    · have hh : Lib.indexB s ⟨#[c]⟩ = (i : Int) := by rw [e1, hi]
      have hc := Lib.countB_hit s ⟨#[c]⟩ i (by rw [z1]; exact Nat.le_refl _) hh
      rw [z1] at hc
      match k, h with
      | 0, h => omega
      | k + 1, h =>
        rw [Lib.splitB_hit _ _ _ _ i hh, pieces_at hg hn, Nat.add_zero, z1, splitB_pieces c k _ (by omega)]
theorem countB_pieces (c : UInt8) (s : ByteArray) : Lib.countB s ⟨#[c]⟩ + 1 = (pieces c s).length := by
  rw [← splitB_pieces c _ s rfl, Lib.splitB_all _ (by show 1 ≤ 1; omega) 0 _ s rfl]
end Go.Proofs.YtppjmngnjdeigaaDoor
