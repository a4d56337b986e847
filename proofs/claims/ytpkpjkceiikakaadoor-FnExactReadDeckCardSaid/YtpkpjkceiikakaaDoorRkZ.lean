/- Several texts in one, as a claim has at most 60 files: Spl SeqM RdN LnI CtM RcM CtC CtS DkT RkM Spt RcI RkI NuS SplS FloM RcS RkS PeL. -/
import Derived.Test.YtpkpjkceiikakaaDoorStrs
import Derived.Lib.IndexBytes
import Derived.Test.YtpkpjkceiikakaaDoorRng
import Derived.Test.YtpkpjkceiikakaaDoorOth
import Derived.Test.YtpkpjkceiikakaaDoorDec
import Derived.Lib.ParseIntBTie
import Derived.Lib.SplitLaws
import Derived.Test.YtpkpjkceiikakaaDoorShlL
import Derived.Test.YtpkpjkceiikakaaDoorBoxes
import Derived.Test.YtpkpjkceiikakaaDoorFloat
import Derived.Test.YtpkpjkceiikakaaDoorAppI
import Derived.Test.YtpkpjkceiikakaaDoorHolesIn
import Derived.Test.YtpkpjkceiikakaaDoorCard
import Derived.Test.YtpkpjkceiikakaaDoorFmM
import Derived.Deep.DeepCutAuto
import Derived.Test.YtpkpjkceiikakaaDoorShB
import Derived.Test.YtpkpjkceiikakaaDoorDeckI
import Derived.Test.YtpkpjkceiikakaaDoorDeckS
import Derived.Test.YtpkpjkceiikakaaDoorFind
import Derived.Test.YtpkpjkceiikakaaDoorShelf
import Derived.Test.YtpkpjkceiikakaaDoorStrL
import Derived.Shelf.Strings.Split
import Derived.Shelf.Strconv.ErrVarParseInt
import Derived.Test.YtpkpjkceiikakaaDoorMasks
import Derived.Test.YtpkpjkceiikakaaDoorRngO
import Derived.Test.YtpkpjkceiikakaaDoorMarkC
import Derived.RangeFuncBox
import Derived.Laws.MakeOwn
import Derived.Laws.DeepStrings4
import Derived.Stop.LaidErr
import Derived.RowKitTokens
namespace Go.Proofs.YtpkpjkceiikakaaDoor
open Go.ChangeShapes Go.WideShapes Go.ChangeAt Go.RowKit

/-- The pieces between the bytes c; what stands ahead of the first one is told. -/
def spl (c : UInt8) : List UInt8 → List UInt8 → List (List UInt8)
  | acc, [] => [acc]
  | acc, x :: xs => if x = c then acc :: spl c [] xs else spl c (acc ++ [x]) xs
def mkS (l : List UInt8) : ByteArray := ⟨l.toArray⟩
theorem mkS_data (s : ByteArray) : mkS s.data.toList = s := Lib.mk_data s
theorem data_mkS (l : List UInt8) : (mkS l).data.toList = l := rfl
def pieces (c : UInt8) (s : ByteArray) : List ByteArray := (spl c [] s.data.toList).map mkS

theorem extract_none (s : ByteArray) (i : Nat) : (s.extract i i).data.toList = [] := by rw [Lib.extract_data, Nat.sub_self]; rfl
theorem drop_byte (s : ByteArray) (i : Nat) (h : i < s.size) : s.data.toList.drop i = s[i] :: s.data.toList.drop (i + 1) := by
  rw [List.drop_eq_getElem_cons (by simpa using h)]; rfl
theorem extract_more (s : ByteArray) (b i : Nat) (hb : b ≤ i) (h : i < s.size) : (s.extract b (i + 1)).data.toList = (s.extract b i).data.toList ++ [s[i]] := by
  rw [Lib.extract_data, Lib.extract_data, show i + 1 - b = (i - b) + 1 by omega, List.take_add_one]
  congr 1
  rw [List.getElem?_drop, show b + (i - b) = i by omega, List.getElem?_eq_getElem (by simpa using h)]
  rfl

/-- i bytes have been read; some pieces are done, the one in hand began at b. -/
structure SplAt (c : UInt8) (s : ByteArray) (done : List ByteArray) (b i : Nat) : Prop where
  le : b ≤ i
  lt : i ≤ s.size
  len : done.length ≤ i
  eq : done ++ (spl c (s.extract b i).data.toList (s.data.toList.drop i)).map mkS = pieces c s
theorem splAt_start (c : UInt8) (s : ByteArray) : SplAt c s [] 0 0 :=
  ⟨Nat.le_refl _, Nat.zero_le _, Nat.le_refl _, by rw [extract_none]; rfl⟩
theorem splAt_hit {c : UInt8} {s : ByteArray} {done : List ByteArray} {b i : Nat} (h : SplAt c s done b i) (hi : i < s.size) (e : s[i] = c) : SplAt c s (done ++ [s.extract b i]) (i + 1) (i + 1) := by
  refine ⟨Nat.le_refl _, hi, by rw [List.length_append]; exact Nat.succ_le_succ h.len, ?_⟩
  rw [← h.eq, drop_byte s i hi, spl, if_pos e, List.map_cons, mkS_data, extract_none, List.append_assoc]
  rfl
theorem splAt_miss {c : UInt8} {s : ByteArray} {done : List ByteArray} {b i : Nat} (h : SplAt c s done b i) (hi : i < s.size) (e : s[i] ≠ c) : SplAt c s done b (i + 1) := by
  refine ⟨Nat.le_succ_of_le h.le, hi, Nat.le_succ_of_le h.len, ?_⟩
  rw [← h.eq, drop_byte s i hi, spl, if_neg e, extract_more s b i h.le hi]
theorem splAt_end {c : UInt8} {s : ByteArray} {done : List ByteArray} {b : Nat} (h : SplAt c s done b s.size) : done ++ [s.extract b s.size] = pieces c s := by
  rw [← h.eq, List.drop_eq_nil_of_le (by simp), spl, List.map_cons, mkS_data]
  rfl
theorem pieces_len (c : UInt8) (s : ByteArray) : (pieces c s).length ≤ s.size + 1 := by
  have key : ∀ (l acc : List UInt8), (spl c acc l).length ≤ l.length + 1 := by
    intro l
    induction l with
    | nil => intro acc; exact Nat.le_refl _
    | cons x xs ih =>
      intro acc
      rw [spl]
      split
      · exact Nat.succ_le_succ (ih _)
      · exact Nat.le_succ_of_le (ih _)
  have := key s.data.toList []
  unfold pieces
  rw [List.length_map]
  simpa using this
theorem pieces_fit (c : UInt8) (s : ByteArray) : ∀ p ∈ pieces c s, p.size ≤ s.size := by
  have key : ∀ (l acc : List UInt8), ∀ p ∈ spl c acc l, p.length ≤ acc.length + l.length := by
    intro l
    induction l with
    | nil => intro acc p hp; simp [spl] at hp; subst hp; simp
    | cons x xs ih =>
      intro acc p hp
      rw [spl] at hp
      split at hp
      · rcases List.mem_cons.1 hp with rfl | hp
        · omega
        · have := ih _ p hp; simp at this ⊢; omega
      · have := ih _ p hp; simp at this ⊢; omega
  intro p hp
  unfold pieces at hp
  obtain ⟨l, hl, rfl⟩ := List.mem_map.1 hp
  have := key s.data.toList [] l hl
  rw [show (mkS l).size = l.length from List.size_toArray]
  simpa using this

/-- The same, piece by piece: up to the next byte c. -/
theorem spl_none {c : UInt8} : ∀ (l acc : List UInt8), c ∉ l → spl c acc l = [acc ++ l]
  | [], acc, _ => by rw [spl, List.append_nil]
  | x :: xs, acc, h => by
    rw [spl, if_neg (fun e => h (by rw [e]; exact List.mem_cons_self)), spl_none xs _ (fun e => h (List.mem_cons_of_mem _ e)), List.append_assoc]; rfl
theorem spl_at {c : UInt8} : ∀ (l acc : List UInt8) (i : Nat), l[i]? = some c → c ∉ l.take i → spl c acc l = (acc ++ l.take i) :: spl c [] (l.drop (i + 1))
  | [], acc, i, h, _ => by simp at h
  | x :: xs, acc, 0, h, _ => by
    simp at h
    rw [spl, if_pos h, List.take_zero, List.append_nil]; rfl
  | x :: xs, acc, i + 1, h, hn => by
    rw [spl, if_neg (fun e => hn (by rw [List.take_succ_cons, e]; exact List.mem_cons_self)), spl_at xs _ i (by simpa using h) (fun e => hn (by rw [List.take_succ_cons]; exact List.mem_cons_of_mem _ e)), List.append_assoc]; rfl
end Go.Proofs.YtpkpjkceiikakaaDoor

namespace Go.Proofs.YtpkpjkceiikakaaDoor
open Go.ChangeShapes Go.WideShapes Go.ChangeAt Go.RowKit

theorem cell_same {A B : World} {b o : Nat} (h : B.heap[b]? = A.heap[b]?) : B.cell? ⟨b, o, none⟩ = A.cell? ⟨b, o, none⟩ := by unfold World.cell?; simp only [h]
theorem frozen_same {A B : World} {b o : Nat} (h : B.heap[b]? = A.heap[b]?) : B.frozen? ⟨b, o, none⟩ = A.frozen? ⟨b, o, none⟩ := by unfold World.frozen?; simp only [h]
/-- How long the text in the iterator's box is. -/
def strLeft (W : World) (b : Nat) : Nat := match W.cell? ⟨b, 0, none⟩ with
  | some (.string t) => t.size
  | _ => 0
theorem strLeft_eq {W : World} {b : Nat} {t : ByteArray} (h : W.cell? ⟨b, 0, none⟩ = some (.string t)) : strLeft W b = t.size := by unfold strLeft; rw [h]
theorem ib_spec : ∀ (l : List UInt8) (c : UInt8), (Lib.indexByte l c = -1 ∧ c ∉ l) ∨ ∃ k : Nat, Lib.indexByte l c = (k : Int) ∧ k < l.length ∧ l[k]? = some c ∧ c ∉ l.take k
  | [], c => .inl ⟨rfl, by simp⟩
  | x :: l, c => by
    by_cases e : x = c
    · subst e
      exact .inr ⟨0, by simp [Lib.indexByte], by simp, by simp, by simp⟩
    · have eb : (x == c) = false := by simpa using e
      rcases ib_spec l c with ⟨hi, hn⟩ | ⟨k, hi, hk, hg, hn⟩
      · refine .inl ⟨by rw [Lib.indexByte, eb, hi]; rfl, ?_⟩
        intro h
        rcases List.mem_cons.1 h with rfl | h
        · exact e rfl
        · exact hn h
      · refine .inr ⟨k + 1, ?_, by simp; omega, by simpa using hg, ?_⟩
        · have eq : ((k : Int) == -1) = false := by rw [beq_eq_false_iff_ne]; omega
          rw [Lib.indexByte, eb, hi]
          simp only [eq]
          simp
        · intro h
          rw [List.take_succ_cons] at h
          rcases List.mem_cons.1 h with rfl | h
          · exact e rfl
          · exact hn h

theorem pieces_none {c : UInt8} {t : ByteArray} (h : c ∉ t.data.toList) : pieces c t = [t] := by
  unfold pieces
  rw [spl_none _ _ h, List.nil_append, List.map_cons, mkS_data]; rfl
theorem pieces_at {c : UInt8} {t : ByteArray} {k : Nat} (hk : t.data.toList[k]? = some c) (hn : c ∉ t.data.toList.take k) : pieces c t = t.extract 0 k :: pieces c (t.extract (k + 1) t.size) := by
  unfold pieces
  rw [spl_at _ _ k hk hn, List.nil_append, List.map_cons, Lib.extract_to_end]
  congr 1
  rw [Lib.extract_eq]; rfl

end Go.Proofs.YtpkpjkceiikakaaDoor

namespace Go.Proofs.YtpkpjkceiikakaaDoor
open Go.ChangeShapes Go.WideShapes Go.ChangeAt Go.RowKit

/-! ### Numbers -/
def digs : Nat → List UInt8 → Option Nat
  | acc, [] => some acc
  | acc, c :: r => if 48 ≤ c.toNat ∧ c.toNat ≤ 57 then digs (10 * acc + (c.toNat - 48)) r else none
/-- A number of at most ten digits, without a sign, as it is written. -/
def numL (l : List UInt8) : Option Nat := if l = [] ∨ 10 < l.length ∨ (l.head? = some 48 ∧ 1 < l.length) then none else digs 0 l
/-- What strconv.ParseInt gives, where it gives something. -/
def pIn (B : Nat) (s : ByteArray) : Option Int := match Lib.parseIntB B s.data.toList with
  | .ok v => some v
  | _ => none
def decL (n : Nat) : List UInt8 := if n < 10 then [UInt8.ofNat (48 + n)] else [UInt8.ofNat (48 + n / 10), UInt8.ofNat (48 + n % 10)]
theorem dec2_data (n : Nat) : (dec2 n).data.toList = decL n := by
  unfold dec2 decL
  split
  · rfl
  · rw [ByteArray.data_append]; rfl
theorem numL_dec : ∀ n, n < 100 → numL (decL n) = some n := by decide +kernel
theorem pIn16_dec : ∀ n, n < 100 → Lib.parseIntB 16 (decL n) = .ok (n : Int) := by decide +kernel
theorem pIn64_dec : ∀ n, n < 100 → Lib.parseIntB 64 (decL n) = .ok (n : Int) := by decide +kernel
theorem no_blank_dec : ∀ n, n < 100 → ∀ b ∈ decL n, 48 ≤ b.toNat := by decide +kernel
theorem pIn16 {n : Nat} (h : n < 100) : pIn 16 (dec2 n) = some (n : Int) := by unfold pIn; rw [dec2_data, pIn16_dec n h]
theorem pIn64 {n : Nat} (h : n < 100) : pIn 64 (dec2 n) = some (n : Int) := by unfold pIn; rw [dec2_data, pIn64_dec n h]
theorem numL_dec2 {n : Nat} (h : n < 100) : numL (dec2 n).data.toList = some n := by rw [dec2_data, numL_dec n h]
theorem digs_ge : ∀ (l : List UInt8) (acc n : Nat), digs acc l = some n → acc ≤ n
  | [], acc, n, h => by simp [digs] at h; omega
  | c :: r, acc, n, h => by
    rw [digs] at h
    split at h
    · have := digs_ge r _ n h; omega
    · cases h
theorem u8_of {c : UInt8} {k : Nat} (h : 48 ≤ c.toNat) (hk : k = c.toNat - 48) : UInt8.ofNat (48 + k) = c := by
  apply UInt8.toNat_inj.1
  have := c.toNat_lt
  rw [UInt8.toNat_ofNat']
  omega
theorem decL_of {l : List UInt8} {n : Nat} (h : numL l = some n) (hn : n < 100) : l = decL n := by
  unfold numL at h
  split at h
  · cases h
  · rename_i hc
    match l, h, hc with
    | [], _, hc => simp at hc
    | [a], h, hc =>
      rw [digs] at h
      split at h
      · rename_i ha
        rw [digs] at h
        have h := Option.some.inj h
        unfold decL
        rw [if_pos (by omega), u8_of ha.1 (by omega)]
      · cases h
    | [a, b], h, hc =>
      have h48 : a ≠ 48 := fun e => hc (.inr (.inr ⟨by rw [e]; rfl, by simp⟩))
      have h48 : a.toNat ≠ 48 := fun e => h48 (UInt8.toNat_inj.1 e)
      rw [digs] at h
      split at h
      · rename_i ha
        rw [digs] at h
        split at h
        · rename_i hb
          rw [digs] at h
          have h := Option.some.inj h
          unfold decL
          rw [if_neg (by omega), u8_of ha.1 (by omega), u8_of hb.1 (by omega)]
        · cases h
      · cases h
    | a :: b :: c :: r, h, hc =>
      exfalso
      have h48 : a ≠ 48 := fun e => hc (.inr (.inr ⟨by rw [e]; rfl, by simp⟩))
      have h48 : a.toNat ≠ 48 := fun e => h48 (UInt8.toNat_inj.1 e)
      rw [digs] at h
      split at h
      · rename_i ha
        rw [digs] at h
        split at h
        · rw [digs] at h
          split at h
          · have := digs_ge _ _ _ h; omega
          · cases h
        · cases h
      · cases h
theorem data_inj {x y : ByteArray} (h : x.data.toList = y.data.toList) : x = y := by
  rw [← mkS_data x, ← mkS_data y, h]
theorem dec2_of {s : ByteArray} {n : Nat} (h : numL s.data.toList = some n) (hn : n < 100) : s = dec2 n :=
  data_inj (by rw [dec2_data]; exact decL_of h hn)
theorem num_le : ∀ (l : List UInt8) (acc n : Nat), digs acc l = some n → n < (acc + 1) * 10 ^ l.length
  | [], acc, n, h => by simp [digs] at h; simp; omega
  | c :: r, acc, n, h => by
    rw [digs] at h
    split at h
    · have := num_le r _ n h
      rw [List.length_cons, Nat.pow_succ]
      have h2 : (10 * acc + (c.toNat - 48) + 1) * 10 ^ r.length ≤ ((acc + 1) * 10) * 10 ^ r.length := Nat.mul_le_mul_right _ (by omega)
      rw [Nat.mul_comm (10 ^ r.length) 10, ← Nat.mul_assoc]
      omega
    · cases h
theorem numL_lt {l : List UInt8} {n : Nat} (h : numL l = some n) : n < 10000000000 := by
  unfold numL at h
  split at h
  · cases h
  · rename_i hc
    have h1 := num_le l 0 n h
    have h2 : 10 ^ l.length ≤ 10 ^ 10 := Nat.pow_le_pow_right (by omega) (by
      rcases Nat.lt_or_ge 10 l.length with h' | h'
      · exact absurd (.inr (.inl h')) hc
      · exact h')
    omega

/-! ### Pieces -/
def joinC (c : UInt8) : List (List UInt8) → List UInt8
  | [] => []
  | [a] => a
  | a :: b :: r => a ++ c :: joinC c (b :: r)
theorem joinC_cons (c : UInt8) (a : List UInt8) {ps : List (List UInt8)} (h : ps ≠ []) : joinC c (a :: ps) = a ++ c :: joinC c ps := by
  cases ps with
  | nil => exact absurd rfl h
  | cons b r => rfl
theorem spl_ne (c : UInt8) : ∀ l acc : List UInt8, spl c acc l ≠ []
  | [], acc => by simp [spl]
  | x :: xs, acc => by
    rw [spl]
    split
    · simp
    · exact spl_ne c xs _
theorem join_of_spl (c : UInt8) : ∀ l acc : List UInt8, joinC c (spl c acc l) = acc ++ l
  | [], acc => by simp [spl, joinC]
  | x :: xs, acc => by
    rw [spl]
    split
    · rename_i e
      rw [joinC_cons c acc (spl_ne c xs []), join_of_spl c xs [], e]; rfl
    · rw [join_of_spl c xs, List.append_assoc]; rfl
theorem spl_app {c : UInt8} (t : List UInt8) : ∀ (a acc : List UInt8), c ∉ a → spl c acc (a ++ c :: t) = (acc ++ a) :: spl c [] t
  | [], acc, _ => by rw [List.nil_append, spl, if_pos rfl, List.append_nil]
  | x :: xs, acc, h => by
    rw [List.cons_append, spl, if_neg (fun e => h (by rw [e]; exact List.mem_cons_self)), spl_app t xs _ (fun e => h (List.mem_cons_of_mem _ e)), List.append_assoc]; rfl
theorem spl_of_join {c : UInt8} : ∀ {ps : List (List UInt8)}, ps ≠ [] → (∀ p ∈ ps, c ∉ p) → spl c [] (joinC c ps) = ps
  | [], h, _ => absurd rfl h
  | [a], _, h => by
    rw [joinC, spl_none _ _ (h a (by simp)), List.nil_append]
  | a :: b :: r, _, h => by
    rw [joinC, spl_app _ _ _ (h a (by simp)), List.nil_append, spl_of_join (by simp) (fun p hp => h p (by simp at hp ⊢; exact .inr hp))]
theorem pieces_ne (c : UInt8) (s : ByteArray) : pieces c s ≠ [] := by
  unfold pieces
  intro h
  exact spl_ne c _ _ (List.map_eq_nil_iff.1 h)
theorem map_mkS (ps : List (List UInt8)) : (ps.map mkS).map (fun p => p.data.toList) = ps := by
  rw [List.map_map]
  have : (fun p : ByteArray => p.data.toList) ∘ mkS = id := by funext l; rfl
  rw [this, List.map_id]
theorem map_mkS2 (ps : List ByteArray) : (ps.map (fun p => p.data.toList)).map mkS = ps := by
  rw [List.map_map]
  have : mkS ∘ (fun p : ByteArray => p.data.toList) = id := by funext l; exact mkS_data l
  rw [this, List.map_id]
theorem pieces_join (c : UInt8) (s : ByteArray) : s.data.toList = joinC c ((pieces c s).map fun p => p.data.toList) := by
  unfold pieces
  rw [map_mkS, join_of_spl, List.nil_append]
theorem pieces_of {c : UInt8} {s : ByteArray} {ps : List ByteArray} (h : s.data.toList = joinC c (ps.map fun p => p.data.toList)) (hn : ps ≠ []) (hc : ∀ p ∈ ps, c ∉ p.data.toList) : pieces c s = ps := by
  unfold pieces
  rw [h, spl_of_join (by simpa using hn) (fun p hp => by obtain ⟨q, hq, rfl⟩ := List.mem_map.1 hp; exact hc q hq), map_mkS2]
theorem spl_free {c : UInt8} : ∀ (l acc : List UInt8), c ∉ acc → ∀ p ∈ spl c acc l, c ∉ p
  | [], acc, h, p, hp => by
    rw [spl, List.mem_singleton] at hp
    subst hp
    exact h
  | x :: xs, acc, h, p, hp => by
    rw [spl] at hp
    split at hp
    · rcases List.mem_cons.1 hp with rfl | hp
      · exact h
      · exact spl_free xs [] (by simp) p hp
    · rename_i e
      exact spl_free xs _ (fun hm => by
        rcases List.mem_append.1 hm with hm | hm
        · exact h hm
        · exact e (List.mem_singleton.1 hm).symm) p hp
theorem pieces_free {c : UInt8} {s p : ByteArray} (h : p ∈ pieces c s) : c ∉ p.data.toList := by
  unfold pieces at h
  obtain ⟨l, hl, rfl⟩ := List.mem_map.1 h
  exact spl_free _ [] (by simp) l hl

/-! ### The library's pieces -/
theorem splitB_pieces (c : UInt8) : ∀ (k : Nat) (s : ByteArray), Lib.countB s ⟨#[c]⟩ = k → Lib.splitB ⟨#[c]⟩ 0 k s = pieces c s
  | k, s, h => by
    have e1 : Lib.indexB s ⟨#[c]⟩ = Lib.indexByte s.data.toList c := Lib.index_one _ _
    have z1 : (ByteArray.mk #[c]).size = 1 := rfl
    rcases ib_spec s.data.toList c with ⟨hi, hn⟩ | ⟨i, hi, hk, hg, hn⟩
    · rw [Lib.splitB_miss _ _ _ _ (by rw [e1, hi]), pieces_none hn]
    · have hh : Lib.indexB s ⟨#[c]⟩ = (i : Int) := by rw [e1, hi]
      have hc := Lib.countB_hit s ⟨#[c]⟩ i (by rw [z1]; exact Nat.le_refl _) hh
      rw [z1] at hc
      match k, h with
      | 0, h => omega
      | k + 1, h =>
        rw [Lib.splitB_hit _ _ _ _ i hh, pieces_at hg hn, Nat.add_zero, z1, splitB_pieces c k _ (by omega)]
theorem countB_pieces (c : UInt8) (s : ByteArray) : Lib.countB s ⟨#[c]⟩ + 1 = (pieces c s).length := by
  rw [← splitB_pieces c _ s rfl, Lib.splitB_all _ (by show 1 ≤ 1; omega) 0 _ s rfl]
end Go.Proofs.YtpkpjkceiikakaaDoor

namespace Go.Proofs.YtpkpjkceiikakaaDoor
open Go.ChangeShapes Go.WideShapes Go.ChangeAt Go.RowKit
attribute [local go_sem] Oper.semAt_some

/-- The lines of a text, each with its end; what stands ahead of the first one is told. -/
def lnB : List UInt8 → List UInt8 → List (List UInt8)
  | acc, [] => if acc = [] then [] else [acc]
  | acc, x :: xs => if x = 10 then (acc ++ [x]) :: lnB [] xs else lnB (acc ++ [x]) xs
def lns (s : ByteArray) : List ByteArray := (lnB [] s.data.toList).map mkS
theorem lnB_none : ∀ (l acc : List UInt8), (10 : UInt8) ∉ l → lnB acc l = if acc ++ l = [] then [] else [acc ++ l]
  | [], acc, _ => by rw [lnB, List.append_nil]
  | x :: xs, acc, h => by
    rw [lnB, if_neg (fun e => h (by rw [e]; exact List.mem_cons_self)), lnB_none xs _ (fun e => h (List.mem_cons_of_mem _ e)), List.append_assoc]; rfl
theorem lnB_at : ∀ (l acc : List UInt8) (i : Nat), l[i]? = some 10 → (10 : UInt8) ∉ l.take i → lnB acc l = (acc ++ l.take (i + 1)) :: lnB [] (l.drop (i + 1))
  | [], acc, i, h, _ => by simp at h
  | x :: xs, acc, 0, h, _ => by
    simp at h
    rw [lnB, if_pos h]; rfl
  | x :: xs, acc, i + 1, h, hn => by
    rw [lnB, if_neg (fun e => hn (by rw [List.take_succ_cons, e]; exact List.mem_cons_self)), lnB_at xs _ i (by simpa using h) (fun e => hn (by rw [List.take_succ_cons]; exact List.mem_cons_of_mem _ e)), List.append_assoc]; rfl
theorem lns_empty {t : ByteArray} (h : t.size = 0) : lns t = [] := by
  have : t.data.toList = [] := List.length_eq_zero_iff.1 (by show t.data.toList.length = 0; rw [Array.length_toList]; exact h)
  unfold lns
  rw [this]; rfl
theorem lns_none {t : ByteArray} (h0 : 0 < t.size) (h : (10 : UInt8) ∉ t.data.toList) : lns t = [t] := by
  unfold lns
  rw [lnB_none _ _ h, List.nil_append, if_neg, List.map_cons, mkS_data]; rfl
  intro e
  have : t.data.toList.length = t.size := Array.length_toList
  rw [e] at this
  simp at this
  omega
theorem lns_at {t : ByteArray} {k : Nat} (hk : t.data.toList[k]? = some 10) (hn : (10 : UInt8) ∉ t.data.toList.take k) : lns t = t.extract 0 (k + 1) :: lns (t.extract (k + 1) t.size) := by
  unfold lns
  rw [lnB_at _ _ k hk hn, List.nil_append, List.map_cons, Lib.extract_to_end]
  congr 1
  rw [Lib.extract_eq]; rfl
theorem ixByte_any (s : ByteArray) (w : World) :
    Calls Tryd.prog 58 #[.string s, .int .u8 10] w fun e w' => e = .returned (.int .i64 (Lib.indexByte s.data.toList 10)) ∧ w' = w :=
  Any.strings_IndexByte Tryd.lays137 s 10 w

set_option maxRecDepth 100000 in
set_option maxHeartbeats 2000000 in
theorem lines_by (bs : Nat) (s : ByteArray) (hs : s.size ≤ maxLen) (w : World) (h1 : bs < w.heap.size) (h2 : w.cell? ⟨bs, 0, none⟩ = some (.string s)) (h3 : w.frozen? ⟨bs, 0, none⟩ = false) :
    SeqBy Tryd.prog 57 #[.pointer (some ⟨bs, 0, none⟩)] (fun p : ByteArray => #[.string p]) (fun A B => A.heap.size ≤ B.heap.size ∧ B.heap[bs]? = A.heap[bs]?) (Oth bs) (fun xs => xs = lns s) (fun pre => pre <+: lns s) (fun pre x => pre ++ [x] <+: lns s) (fun _ => True) w := by
  intro l J Jx W hW hJ hJx _ hY h0
  have C1 := (hW.cell (p := ⟨bs, 0, none⟩) h1).trans h2
  have F1 := (hW.frozen (p := ⟨bs, 0, none⟩) h1).trans h3
  refine callsIn_of_wp Tryd.func57 rfl trivial ?_ rfl
  simp only [Tryd.ntmps57, List.size_toArray, List.length_cons, List.length_nil, Nat.reduceAdd, Nat.reduceSub, Array.replicate_succ, Array.replicate_zero, List.push_toArray, List.append_toArray, List.nil_append, List.cons_append]
  gi_wp2
  gi_loopw [3] (fun _ wr => ∃ (pre : List ByteArray) (t : ByteArray), pre ++ lns t = lns s ∧ t.size ≤ s.size ∧ J pre wr ∧ wr.cell? ⟨bs, 0, none⟩ = some (.string t) ∧ wr.frozen? ⟨bs, 0, none⟩ = false) (fun _ wr => strLeft wr bs)
  case atStart => exact ⟨[], s, rfl, Nat.le_refl _, h0, C1, F1⟩
  case round =>
    obtain ⟨pre, t, hp, ht, hJr, c1, f1⟩ := hrel
    by_cases h0 : t.size = 0
    · have d0 : decide ((0 : Int) < (t.size : Int)) = false := decide_eq_false (by omega)
      gi_wp2
      first | go_end0 | refine bodyPost_ret (results_none rfl _ _ _) rfl ?_
      exact ⟨⟨_, rfl⟩, .inl ⟨pre, by rw [← hp, lns_empty h0, List.append_nil], hJr⟩⟩
    · have d0 : decide ((0 : Int) < (t.size : Int)) = true := decide_eq_true (by omega)
      rcases ib_spec t.data.toList 10 with ⟨hi, hn⟩ | ⟨k, hi, hk, hg, hn⟩
      · have V := Lib.hid (ixByte_any t)
        rw [hi] at V
        have hl := lns_none (by omega) hn
        have e1 : (wr.setCell ⟨bs, 0, none⟩ (.string ⟨#[]⟩)).cell? ⟨bs, 0, none⟩ = some (.string ⟨#[]⟩) := World.cell?_setCell_same' _ _ _ (by rw [c1]; rfl)
        have g1 : (wr.setCell ⟨bs, 0, none⟩ (.string ⟨#[]⟩)).frozen? ⟨bs, 0, none⟩ = false := by rw [World.frozen?_setCell]; exact f1
        have J1 := hJ _ _ _ hJr ((Oth.refl bs wr).set 0 (.string ⟨#[]⟩))
        obtain ⟨fn, tmps, assign, body, hy, hR⟩ := hY pre t _ J1 ⟨[], by rw [← hp, hl, List.append_nil]⟩
        clear hJr hY
        gi_wp2_with (refine ⟨trivial, rfl, ?_⟩; gi_at_call 58; refine (callsIn_wide.2 (V.out _)).mono ?_; rintro e w9 ⟨rfl, rfl⟩)
        refine ⟨rfl, hR.mono ?_⟩
        rintro e W2 (⟨rfl, hJ2, hk2⟩ | ⟨rfl, hJ2⟩)
        · have c9 := (cell_same hk2.2).trans e1
          have f9 := (frozen_same hk2.2).trans g1
          gi_wp2
          go_roundw
          case rel => exact ⟨pre ++ [t], ⟨#[]⟩, by rw [← hp, hl, lns_empty (t := ⟨#[]⟩) rfl, List.append_nil], Nat.zero_le _, hJ2, c9, f9⟩
          case measure => rw [strLeft_eq c9, strLeft_eq c1]; show 0 < t.size; omega
        · gi_wp2
          first | go_end0 | refine bodyPost_ret (results_none rfl _ _ _) rfl ?_
          exact ⟨⟨_, rfl⟩, .inr ⟨_, ⟨[], by rw [← hp, hl, List.append_nil]⟩, hJ2⟩⟩
      · have V := Lib.hid (ixByte_any t)
        rw [hi] at V
        have hl := lns_at hg hn
        have kt : k < t.size := by simpa using hk
        unfold maxLen at hs
        have kn : decide ((0 : Int) ≤ (k : Int)) = true := by simp
        have kw1 : IntKind.i64.wrap ((k : Int) + 1) = ((k + 1 : Nat) : Int) := by rw [Int.natCast_succ]; exact IntWalk.i64_in _ (by omega)
        gi_wp2_with (refine ⟨trivial, rfl, ?_⟩; gi_at_call 58; refine (callsIn_wide.2 (V.out _)).mono ?_; rintro e w9 ⟨rfl, rfl⟩)
        refine wpIn_wide.2 ?_
        refine wp_region_last 9 (by kernel_rfl) rfl rfl (by kernel_rfl) (by kernel_rfl) rfl ?_
        simp only [List.take_succ_cons, List.take_zero]
        intro u1 h1
        have lb : bs < w9.heap.size := World.block_lt_of_cell? _ _ c1
        have c0 := (h1.cell (p := ⟨bs, 0, none⟩) lb).trans c1
        have s0 : bs < u1.heap.size := Nat.lt_of_lt_of_le lb h1.size
        have hbw := cell_bw
        repeat (go_big_quiet_step (fail))
        refine wpQuiet_nil ?_
        intro u3 h3
        have c3 := (h3.cell (p := ⟨bs, 0, none⟩) lb).trans c1
        have f3 := (h3.frozen (p := ⟨bs, 0, none⟩) lb).trans f1
        go_simp
        simp only [Yld]
        have J1 := hJ _ _ _ hJr ((Oth.of (g := bs) h3).set 0 (.string (t.extract (k + 1) t.size)))
        have e1 : (u3.setCell ⟨bs, 0, none⟩ (.string (t.extract (k + 1) t.size))).cell? ⟨bs, 0, none⟩ = some (.string (t.extract (k + 1) t.size)) := World.cell?_setCell_same' _ _ _ (by rw [c3]; rfl)
        have g1 : (u3.setCell ⟨bs, 0, none⟩ (.string (t.extract (k + 1) t.size))).frozen? ⟨bs, 0, none⟩ = false := by rw [World.frozen?_setCell]; exact f3
        obtain ⟨fn, tmps, assign, body, hy, hR⟩ := hY pre (t.extract 0 (k + 1)) _ J1 ⟨lns (t.extract (k + 1) t.size), by rw [List.append_assoc, ← hp, hl]; rfl⟩
        have sz : (t.extract (k + 1) t.size).size = t.size - (k + 1) := by simp
        have sq := strLeft_eq c1
        clear hJr hY c0 c3 f3 s0 hbw h1 c1
        generalize u3.setCell ⟨bs, 0, none⟩ (.string (t.extract (k + 1) t.size)) = u4 at *
        gi_wp2
        refine ⟨rfl, hR.mono ?_⟩
        rintro e W2 (⟨rfl, hJ2, hk2⟩ | ⟨rfl, hJ2⟩)
        · have c9 := (cell_same hk2.2).trans e1
          have f9 := (frozen_same hk2.2).trans g1
          gi_wp2
          go_roundw
          case rel => exact ⟨_, _, by rw [List.append_assoc]; exact (congrArg (pre ++ ·) hl.symm).trans hp, by omega, hJ2, c9, f9⟩
          case measure => rw [strLeft_eq c9, sq]; omega
        · gi_wp2
          first | go_end0 | refine bodyPost_ret (results_none rfl _ _ _) rfl ?_
          exact ⟨⟨_, rfl⟩, .inr ⟨_, ⟨lns (t.extract (k + 1) t.size), by rw [List.append_assoc, ← hp, hl]; rfl⟩, hJ2⟩⟩

theorem lines_any (s : ByteArray) (w : World) :
    Calls Tryd.prog 35 #[.string s] w fun e w' => e = .returned (.func (.func 57) #[] #[.pointer (some ⟨w.heap.size, 0, none⟩)]) ∧ w.alloc (.cells #[.string s] 9) = w' := by
  have hmf : ∀ (fn : Fn) (first cap : Array Value) (w : World), (Instr.makeFunc fn first cap).run Tryd.prog w = .ok (.func fn first cap) w := fun _ _ _ _ => rfl
  go_enter Tryd.func35, Tryd.ntmps35
  go_wp2
  go_returns
  exact ⟨rfl, rfl⟩
/-- A line without its end. -/
def trimL (l : List UInt8) : List UInt8 := Lib.trimSuffix l [10]
def trimB (s : ByteArray) : ByteArray := mkS (trimL s.data.toList)
theorem trim_any (s : ByteArray) (hs : s.size ≤ maxLen) (w : World) :
    Calls Tryd.prog 36 #[.string s, .string ⟨#[10]⟩] w fun e w' => e = .returned (.string (trimB s)) ∧ w' = w :=
  Any.strings_TrimSuffix Tryd.lays102 s ⟨#[10]⟩ w (by unfold maxLen at hs; omega)
theorem trimL_free {l : List UInt8} (h : (10 : UInt8) ∉ l) : trimL l = l := by
  unfold trimL Lib.trimSuffix
  split
  · rename_i hq
    exfalso
    apply h
    exact (List.isSuffixOf_iff_suffix.1 hq).subset (by simp)
  · rfl
theorem trimL_end (l : List UInt8) : trimL (l ++ [10]) = l := by
  unfold trimL Lib.trimSuffix
  split
  · simp
  · rename_i hq
    exfalso
    apply hq
    exact List.isSuffixOf_iff_suffix.2 (List.suffix_append l [10])
/-- The lines and the pieces: the same, but that a text that ends with a line's end has a piece more, an empty one. -/
theorem lines_pieces : ∀ (l acc : List UInt8), (10 : UInt8) ∉ acc → ∃ z, (spl 10 acc l).getLast? = some z ∧ ((z = [] ∧ spl 10 acc l = (lnB acc l).map trimL ++ [[]]) ∨ (z ≠ [] ∧ spl 10 acc l = (lnB acc l).map trimL))
  | [], acc, h => by
    by_cases e : acc = []
    · subst e
      exact ⟨[], rfl, .inl ⟨rfl, rfl⟩⟩
    · refine ⟨acc, rfl, .inr ⟨e, ?_⟩⟩
      rw [spl, lnB, if_neg e, List.map_cons, trimL_free h]; rfl
  | x :: xs, acc, h => by
    by_cases e : x = 10
    · subst e
      obtain ⟨z, hz, hh⟩ := lines_pieces xs [] (by simp)
      have hne := spl_ne 10 xs []
      refine ⟨z, ?_, ?_⟩
      · rw [spl, if_pos rfl, List.getLast?_cons_of_ne_nil hne, hz]
      · rw [spl, if_pos rfl, lnB, if_pos rfl, List.map_cons, trimL_end]
        rcases hh with ⟨h1, h2⟩ | ⟨h1, h2⟩
        · exact .inl ⟨h1, by rw [h2]; rfl⟩
        · exact .inr ⟨h1, by rw [h2]⟩
    · obtain ⟨z, hz, hh⟩ := lines_pieces xs (acc ++ [x]) (by
        intro hm
        rcases List.mem_append.1 hm with hm | hm
        · exact h hm
        · exact e (List.mem_singleton.1 hm).symm)
      refine ⟨z, by rw [spl, if_neg e, hz], ?_⟩
      rw [spl, if_neg e, lnB, if_neg e]
      exact hh
end Go.Proofs.YtpkpjkceiikakaaDoor

namespace Go.Proofs.YtpkpjkceiikakaaDoor
open Go.ChangeShapes Go.WideShapes Go.ChangeAt Go.RowKit

/-- The text behind the first n holes. -/
def cdN (s : ByteArray) (zs : List Int) : Nat → ByteArray
  | 0 => s
  | n + 1 => cdN s zs n ++ (⟨#[32]⟩ ++ dec2 (zs.getD n 0).toNat)
theorem cdN_next (s : ByteArray) (zs : List Int) (n : Nat) : cdN s zs (n + 1) = cdN s zs n ++ (⟨#[32]⟩ ++ dec2 (zs.getD n 0).toNat) := rfl
theorem cdN_bytes (s : ByteArray) (zs : List Int) (n : Nat) : (cdN s zs n).data.toList ++ [32] ++ (dec2 (zs.getD n 0).toNat).data.toList = (cdN s zs (n + 1)).data.toList := by
  rw [cdN_next, ByteArray.data_append, ByteArray.data_append, Array.toList_append, Array.toList_append, List.append_assoc]
theorem back_eq (x : ByteArray) : (⟨x.data.toList.toArray⟩ : ByteArray) = x := by
  apply ByteArray.ext
  exact Array.toArray_toList
theorem mem_holX {f : Int → Bool} {n : Nat} {z : Int} (h : z ∈ hol f n) : 0 ≤ z ∧ z < n := by
  unfold hol at h
  rw [List.mem_filter, List.mem_map] at h
  obtain ⟨⟨i, hi, rfl⟩, _⟩ := h
  have := List.mem_range.1 hi
  omega
theorem hol_atX {f : Int → Bool} {n j : Nat} (h : j < (hol f n).length) : 0 ≤ (hol f n).getD j 0 ∧ (hol f n).getD j 0 < n := by
  rw [List.getD, List.getElem?_eq_getElem h]
  exact mem_holX (List.getElem_mem h)
theorem cdN_size (s : ByteArray) {zs : List Int} (hz : ∀ j, j < zs.length → 0 ≤ zs.getD j 0 ∧ zs.getD j 0 < 96) : ∀ n, n ≤ zs.length → (cdN s zs n).size ≤ s.size + 3 * n
  | 0, _ => Nat.le_refl _
  | n + 1, hn => by
    have ih := cdN_size s hz n (by omega)
    have h := hz n (by omega)
    have := dec2_le (n := (zs.getD n 0).toNat) (by omega)
    rw [cdN_next, ByteArray.size_append, ByteArray.size_append]
    have e : (⟨#[32]⟩ : ByteArray).size = 1 := rfl
    omega
theorem cdN_pos {s : ByteArray} (hs : 0 < s.size) (zs : List Int) : ∀ n, 0 < (cdN s zs n).size
  | 0 => hs
  | n + 1 => by rw [cdN_next, ByteArray.size_append]; have := cdN_pos hs zs n; omega
theorem nameOk_size {s : ByteArray} (h : nameOk s = true) : 1 ≤ s.size ∧ s.size ≤ 16 := by
  unfold nameOk at h
  simp only [Bool.and_eq_true, decide_eq_true_eq] at h
  exact h.1
theorem ret_strC {x y : ByteArray} (h : x = y) : Ending.returned (.string x) = Ending.returned (.string y) := by rw [h]
/-- The text of a card. -/
def cdT (s : ByteArray) (a b : Int) : ByteArray := if cardOk s b = true then cdN s (hol (hasB a b) 96) (hol (hasB a b) 96).length else ByteArray.empty
end Go.Proofs.YtpkpjkceiikakaaDoor

namespace Go.Proofs.YtpkpjkceiikakaaDoor
open Go.ChangeShapes Go.WideShapes Go.ChangeAt Go.RowKit

/-- The holes of the first n words. -/
def rdH (f : ByteArray → Option Int) (ws : List ByteArray) : Nat → Option (List Int)
  | 0 => some []
  | n + 1 => match rdH f ws n with
    | some hs => match f (ws.getD n ByteArray.empty) with
      | some h => some (hs ++ [h])
      | none => none
    | none => none
theorem rdH_next {f : ByteArray → Option Int} {ws : List ByteArray} {n : Nat} {hs : List Int} {h : Int} (h1 : rdH f ws n = some hs) (h2 : f (ws.getD n ByteArray.empty) = some h) : rdH f ws (n + 1) = some (hs ++ [h]) := by rw [rdH, h1]; simp only [h2]
theorem rdH_bad {f : ByteArray → Option Int} {ws : List ByteArray} {n : Nat} {hs : List Int} (h1 : rdH f ws n = some hs) (h2 : f (ws.getD n ByteArray.empty) = none) : rdH f ws (n + 1) = none := by rw [rdH, h1]; simp only [h2]
theorem rdH_none {f : ByteArray → Option Int} {ws : List ByteArray} {n : Nat} (h : rdH f ws n = none) : ∀ k, n ≤ k → rdH f ws k = none
  | 0, hk => by obtain rfl : n = 0 := by omega
                exact h
  | k + 1, hk => by
    by_cases e : n = k + 1
    · rw [← e]; exact h
    · rw [rdH, rdH_none h k (by omega)]
theorem rdH_len {f : ByteArray → Option Int} {ws : List ByteArray} : ∀ (n : Nat) (hs : List Int), rdH f ws n = some hs → hs.length = n
  | 0, hs, h => by rw [rdH] at h; rw [← Option.some.inj h]; rfl
  | n + 1, hs, h => by
    rw [rdH] at h
    split at h
    · rename_i hs' e
      split at h
      · rw [← Option.some.inj h, List.length_append, rdH_len n hs' e]; rfl
      · cases h
    · cases h
/-- The program's hole of a word, and the model's. -/
def fI (w : ByteArray) : Option Int := match pIn 64 w with
  | some h => if 0 ≤ h ∧ h ≤ 95 then some h else none
  | none => none
def fS (w : ByteArray) : Option Int := match numL w.data.toList with
  | some n => if n ≤ 95 then some (n : Int) else none
  | none => none
theorem fI_none {w : ByteArray} (h : pIn 64 w = none) : fI w = none := by unfold fI; rw [h]
theorem fI_out {w : ByteArray} {v : Int} (h : pIn 64 w = some v) (hv : ¬ (0 ≤ v ∧ v ≤ 95)) : fI w = none := by unfold fI; rw [h]; exact if_neg hv
theorem fI_in {w : ByteArray} {v : Int} (h : pIn 64 w = some v) (hv : 0 ≤ v ∧ v ≤ 95) : fI w = some v := by unfold fI; rw [h]; exact if_pos hv
theorem fS_none {w : ByteArray} (h : numL w.data.toList = none) : fS w = none := by unfold fS; rw [h]
theorem fS_out {w : ByteArray} {n : Nat} (h : numL w.data.toList = some n) (hv : ¬ n ≤ 95) : fS w = none := by unfold fS; rw [h]; exact if_neg hv
theorem fS_in {w : ByteArray} {n : Nat} (h : numL w.data.toList = some n) (hv : n ≤ 95) : fS w = some (n : Int) := by unfold fS; rw [h]; exact if_pos hv
def Fok (f : ByteArray → Option Int) : Prop := ∀ n : Nat, n < 96 → f (dec2 n) = some (n : Int)
theorem fI_ok : Fok fI := fun _ hn => fI_in (pIn64 (by omega)) (by omega)
theorem fS_ok : Fok fS := fun _ hn => fS_in (numL_dec2 (by omega)) (by omega)

/-- The card with a text, by a way to read holes. -/
def rcG (f : ByteArray → Option Int) (s : ByteArray) : Option (ByteArray × Int × Int) := match pieces 32 s with
  | [] => none
  | nm :: ws => match rdH f ws ws.length with
    | none => none
    | some hs => if cardOk nm (mo b1 hs hs.length) = true ∧ cdT nm (mo b0 hs hs.length) (mo b1 hs hs.length) = s then some (nm, mo b0 hs hs.length, mo b1 hs hs.length) else none
theorem rcG_bad {f : ByteArray → Option Int} {s nm : ByteArray} {ws : List ByteArray} (hp : pieces 32 s = nm :: ws) {n : Nat} (hn : n ≤ ws.length) (h : rdH f ws n = none) : rcG f s = none := by
  unfold rcG
  rw [hp]
  simp only [rdH_none h _ hn]
theorem rcG_at {f : ByteArray → Option Int} {s nm : ByteArray} {ws : List ByteArray} (hp : pieces 32 s = nm :: ws) {hs : List Int} (h : rdH f ws ws.length = some hs) :
    rcG f s = if cardOk nm (mo b1 hs hs.length) = true ∧ cdT nm (mo b0 hs hs.length) (mo b1 hs hs.length) = s then some (nm, mo b0 hs hs.length, mo b1 hs hs.length) else none := by
  unfold rcG
  rw [hp]
  simp only [h]
theorem u64_wrapR (x : Int) : U64 (IntKind.u64.wrap x) := by
  unfold U64 IntKind.wrap
  simp [IntKind.bits, IntKind.signed]
  omega
theorem mo_u64 (f : Int → Int) (zs : List Int) : ∀ k, U64 (mo f zs k)
  | 0 => by unfold mo U64; omega
  | k + 1 => by unfold mo; exact u64_wrapR _
theorem mo_app (f : Int → Int) (zs ys : List Int) : ∀ k, k ≤ zs.length → mo f (zs ++ ys) k = mo f zs k
  | 0, _ => rfl
  | k + 1, h => by
    unfold mo
    rw [mo_app f zs ys k (by omega)]
    congr 2
    simp only [List.getD]
    rw [List.getElem?_append_left (by omega)]
theorem mo_push (f : Int → Int) (zs : List Int) (z : Int) : mo f (zs ++ [z]) (zs.length + 1) = bits .or .u64 (mo f zs zs.length) (f z) := by
  show bits .or .u64 (mo f (zs ++ [z]) zs.length) (f ((zs ++ [z]).getD zs.length 0)) = _
  rw [mo_app f zs [z] _ (Nat.le_refl _)]
  congr 2
  simp [List.getD]
theorem joinC_snoc (c : UInt8) (q : List UInt8) : ∀ {ps : List (List UInt8)}, ps ≠ [] → joinC c (ps ++ [q]) = joinC c ps ++ c :: q
  | [], h => absurd rfl h
  | [a], _ => rfl
  | a :: b :: r, _ => by
    have ih := joinC_snoc c q (ps := b :: r) (by simp)
    show joinC c (a :: ((b :: r) ++ [q])) = _
    rw [joinC_cons c a (by simp), ih, joinC_cons c a (by simp), List.append_assoc]; rfl
/-- The words of holes. -/
def hw (zs : List Int) : List ByteArray := zs.map fun z => dec2 z.toNat
theorem cdN_join (s : ByteArray) (zs : List Int) : ∀ n, n ≤ zs.length → (cdN s zs n).data.toList = joinC 32 ((s :: hw (zs.take n)).map fun p => p.data.toList)
  | 0, _ => rfl
  | n + 1, h => by
    have e : hw (zs.take (n + 1)) = hw (zs.take n) ++ [dec2 (zs.getD n 0).toNat] := by
      unfold hw
      rw [List.take_add_one, List.getElem?_eq_getElem (show n < zs.length by omega), List.map_append]
      simp [List.getD, show n < zs.length by omega]
    have hs : ((s :: (hw (zs.take n) ++ [dec2 (zs.getD n 0).toNat])).map fun p => p.data.toList) = ((s :: hw (zs.take n)).map fun p => p.data.toList) ++ [(dec2 (zs.getD n 0).toNat).data.toList] := by simp
    rw [← cdN_bytes, cdN_join s zs n (by omega), e, hs, joinC_snoc _ _ (by simp), List.append_assoc]
    rfl
theorem name_free {s : ByteArray} (h : nameOk s = true) : (32 : UInt8) ∉ s.data.toList := by
  intro hm
  unfold nameOk at h
  rw [Bool.and_eq_true] at h
  have := List.all_eq_true.1 h.2 _ hm
  exact absurd this (by decide)
theorem dec_free {n : Nat} (h : n < 100) : (32 : UInt8) ∉ (dec2 n).data.toList := by
  intro hm
  rw [dec2_data] at hm
  have := no_blank_dec n h _ hm
  exact absurd this (by decide)
theorem hw_free {zs : List Int} (h : ∀ z ∈ zs, 0 ≤ z ∧ z ≤ 95) : ∀ p ∈ hw zs, (32 : UInt8) ∉ p.data.toList := by
  intro p hp
  obtain ⟨z, hz, rfl⟩ := List.mem_map.1 hp
  have := h z hz
  exact dec_free (by omega)
theorem rdH_hw {f : ByteArray → Option Int} (hf : Fok f) {zs : List Int} (h : ∀ z ∈ zs, 0 ≤ z ∧ z ≤ 95) : ∀ n, n ≤ zs.length → rdH f (hw zs) n = some (zs.take n)
  | 0, _ => rfl
  | n + 1, hn => by
    have hz := h (zs[n]) (List.getElem_mem _)
    have e : (hw zs).getD n ByteArray.empty = dec2 (zs[n]).toNat := by unfold hw; simp [List.getD, show n < zs.length by omega]
    have h2 : f ((hw zs).getD n ByteArray.empty) = some zs[n] := by
      rw [e, hf _ (by omega)]
      congr 1
      omega
    rw [rdH_next (rdH_hw hf h n (by omega)) h2, List.take_add_one, List.getElem?_eq_getElem (show n < zs.length by omega)]
    rfl
theorem rcG_some {f : ByteArray → Option Int} {s nm : ByteArray} {a b : Int} (h : rcG f s = some (nm, a, b)) : cardOk nm b = true ∧ cdT nm a b = s ∧ U64 a ∧ U64 b := by
  unfold rcG at h
  split at h
  · cases h
  · split at h
    · cases h
    · split at h
      · rename_i hk
        have hh := Option.some.inj h
        simp only [Prod.mk.injEq] at hh
        obtain ⟨rfl, rfl, rfl⟩ := hh
        exact ⟨hk.1, hk.2, mo_u64 _ _ _, mo_u64 _ _ _⟩
      · cases h
theorem rcG_hit {f : ByteArray → Option Int} (hf : Fok f) {nm : ByteArray} {a b : Int} (hk : cardOk nm b = true) (ha : U64 a) (hb : U64 b) : rcG f (cdT nm a b) = some (nm, a, b) := by
  have hk2 := hk
  unfold cardOk at hk2
  rw [Bool.and_eq_true] at hk2
  obtain ⟨hn, hm⟩ := hk2
  unfold U64 at ha hb
  have hb2 : b < 4294967296 := by
    have : b / 4294967296 = 0 := by simpa [maskOk] using hm
    omega
  obtain ⟨x, rfl⟩ := Int.eq_ofNat_of_zero_le ha.1
  obtain ⟨y, rfl⟩ := Int.eq_ofNat_of_zero_le hb.1
  have e0 := mo_hol0 x y (by omega)
  have e1 := mo_hol1 x y (by omega)
  have hz := hol_in96 (hasB (x : Int) (y : Int))
  have ht : cdT nm x y = cdN nm (hol (hasB (x : Int) (y : Int)) 96) (hol (hasB (x : Int) (y : Int)) 96).length := by unfold cdT; rw [if_pos hk]
  generalize hol (hasB (x : Int) (y : Int)) 96 = zs at *
  have hj := cdN_join nm zs zs.length (Nat.le_refl _)
  rw [List.take_length] at hj
  have hp : pieces 32 (cdT nm x y) = nm :: hw zs := by
    rw [ht]
    exact pieces_of hj (by simp) (fun p hp => by
      rcases List.mem_cons.1 hp with rfl | hp
      · exact name_free hn
      · exact hw_free hz p hp)
  have hl : (hw zs).length = zs.length := by unfold hw; rw [List.length_map]
  have hr := rdH_hw hf hz zs.length (Nat.le_refl _)
  rw [List.take_length, ← hl] at hr
  rw [rcG_at hp hr, e0, e1, if_pos ⟨hk, rfl⟩]
theorem rc_same (s : ByteArray) : rcG fI s = rcG fS s := by
  have one : ∀ f g, Fok g → ∀ v, rcG f s = some v → rcG g s = some v := by
    rintro f g hg ⟨nm, a, b⟩ h
    obtain ⟨h1, h2, h3, h4⟩ := rcG_some h
    rw [← h2]
    exact rcG_hit hg h1 h3 h4
  cases hI : rcG fI s with
  | some v => rw [one _ _ fS_ok v hI]
  | none =>
    cases hS : rcG fS s with
    | none => rfl
    | some v => rw [one _ _ fI_ok v hS] at hI; cases hI
end Go.Proofs.YtpkpjkceiikakaaDoor

namespace Go.Proofs.YtpkpjkceiikakaaDoor
open Go.ChangeShapes Go.WideShapes Go.ChangeAt Go.RowKit

theorem intsIn_grown {w w' : World} {row : Option Nat} {a : Option Addr} {zs : List Int} (h : IntsIn w a zs) (hg : w.grownBy w' row) (hne : ∀ p, a = some p → row ≠ some p.block) : IntsIn w' a zs := fun i hi => by
  obtain ⟨b, off, ha, hlt, hc⟩ := h i hi
  exact ⟨b, off, ha, Nat.lt_of_lt_of_le hlt hg.size, (World.cell?_of_block (a := ⟨b, off + i, none⟩) (hg.block b hlt (fun e => hne _ ha e.symm))).trans hc⟩
/-- The list lies in another block than the bytes. -/
def NoB (a : Option Addr) (v : Value) : Prop := ∀ p, a = some p → v.ownBlock ≠ some p.block
theorem noB_start {B n : Nat} {zs : List Int} {a : Option Addr} {c : Nat} {w w' : World} {v : Value} {bs : List UInt8} (h : OwnInts B zs (.slice a zs.length c) w) (hv : OwnG n bs v w') (hB : w'.heap.size ≤ B) : NoB a v := by
  intro p hp
  subst hp
  obtain ⟨g, cap, rfl, _, hlt, _⟩ := hv
  have := (World.ownsRow.lt h p.block rfl).1
  intro e
  have e2 : g = p.block := Option.some.inj e
  omega
theorem noB_next {a : Option Addr} {v v' : Value} {w w' : World} {B : Nat} {bs : List UInt8} {zs : List Int} (h : NoB a v) (hi : IntsIn w a zs) (hz : 0 < zs.length) (hG : Grn B bs v w v' w') : NoB a v' := by
  intro p hp
  rcases hG.2.2 with e | ⟨g, e, hg⟩
  · rw [e]; exact h p hp
  · rw [e]
    obtain ⟨b, off, ha, hlt, _⟩ := hi 0 hz
    rw [ha] at hp
    cases hp
    intro q
    have : g = b := Option.some.inj q
    omega
theorem ownG_lt {B : Nat} {bs : List UInt8} {v : Value} {w : World} (h : OwnG B bs v w) : ∀ k, v.ownBlock = some k → B ≤ k := fun k hk => by
  obtain ⟨g, cap, rfl, h1, _⟩ := h
  have : g = k := Option.some.inj hk
  omega
theorem newB (W : World) (t : TypeId) : (W.alloc (.cells #[.int .u8 32] t)).cell? ((⟨W.heap.size, 0, none⟩ : Addr).add 0) = some (.int .u8 ((32 : UInt8).toNat : Int)) := by
  simp [Addr.add]

set_option maxRecDepth 100000 in
set_option maxHeartbeats 3200000 in
theorem iCardText_any (s : ByteArray) (a b : Int) (hs : s.size ≤ maxLen) (ha : U64 a) (hb : U64 b) (w : World) :
    Calls Tryd.prog 32 #[.agg #[.string s, .int .u64 a, .int .u64 b]] w fun e w' => e = .returned (.string (cdT s a b)) ∧ Below w.heap.size w w' := by
  obtain ⟨i0, hi, hz0, hz1, hz2⟩ := info_parts info_by
  have V := fun W => iValidCard_any s a b hs W
  have BX := Lib.hid (below_new (Below.refl w.heap.size w) (.cells #[.string s, .int .u64 a, .int .u64 b] 33))
  have NX := Lib.hid (block_alloc w (.cells #[.string s, .int .u64 a, .int .u64 b] 33))
  unfold cdT
  cases hk : cardOk s b
  · rw [hk] at V
    replace V := Lib.hid V
    simp only [Bool.false_eq_true, if_false]
    clear hk ha hb hs
    go_enter Tryd.func32, Tryd.ntmps32
    go_wp2_with (go_at_call 31; refine (V.out _).mono ?_; rintro e w1 ⟨rfl, hB⟩; have B1 := Lib.hid (BX.out.trans (Below.mono hB BX.out.size)); clear hB)
    go_returns
    exact ⟨rfl, B1.out⟩
  · rw [hk] at V
    have hk2 := hk
    unfold cardOk at hk2
    rw [Bool.and_eq_true] at hk2
    obtain ⟨ns1, ns2⟩ := nameOk_size hk2.1
    have HI := fun W => iHolesIn_any a b ha hb W
    have mk : (b / 4294967296 == 0) = true := hk2.2
    rw [hz_yes _ mk, hzC_yes mk] at HI
    have hl := hol_len (hasB a b) 96
    have HM := fun j hj => hol_atX (f := hasB a b) (n := 96) (j := j) hj
    simp only [if_true]
    generalize hol (hasB a b) 96 = zs at *
    have CS := Lib.hid (cdN_size s (zs := zs) HM)
    have CP := Lib.hid (cdN_pos (s := s) (by omega) zs)
    have CB := Lib.hid (cdN_bytes s zs)
    replace HM := Lib.hid HM
    replace V := Lib.hid V
    replace HI := Lib.hid HI
    obtain ⟨cV, cH0⟩ := Classical.axiomOfChoice (fun W => conv_toG (P := Tryd.prog) (src := 9) (dst := 81) (e := 5) s W Tryd.underlying9 Tryd.underlying81 Tryd.underlying5)
    obtain ⟨cW, cH⟩ := Classical.axiomOfChoice cH0
    have cv := fun W => (cH W).1
    have CG := Lib.hid fun W => (cH W).2
    clear hk hk2 mk ha hb hs cH cH0
    have tok1 : True := trivial
    go_enter Tryd.func32, Tryd.ntmps32
    go_upto_region 4 with (go_at_call 31; refine (V.out _).mono ?_; rintro e w1 ⟨rfl, hB⟩; have B1 := Lib.hid (BX.out.trans (Below.mono hB BX.out.size)); have N1 := Lib.hid (Ab.block hB NX.out); have k1 := cell_of_block N1.out; have z1 := lt_of_block N1.out; clear hB)
    obtain ⟨hO2, hB2⟩ := CG.out w1
    have N2 := Lib.hid (Ab.block hB2 N1.out)
    have B2 := Lib.hid (B1.out.trans (Below.mono hB2 B1.out.size))
    have O2 := Lib.hid (ownG_weak hO2 B1.out.size)
    clear k1 z1 cv CG hO2 hB2
    generalize cW w1 = w2 at *
    generalize cV w1 = v2 at *
    obtain ⟨g2, p2, hv, _⟩ := O2.out
    subst hv
    have k1 := cell_of_block N2.out
    have z1 := lt_of_block N2.out
    go_wp2_with (go_at_call 56; refine (HI.out _).mono ?_; rintro e w3 ⟨v3, rfl, hO, hB⟩; have I3 := Lib.hid hO; have A3 := Lib.hid (show Ab w2 w3 from hB); obtain ⟨a3, c3, hv, _⟩ := ownInts_in hO; subst hv; clear hO hB k1 z1)
    have P3 := Lib.hid (noB_start I3.out O2.out (Nat.le_refl _))
    have X3 := Lib.hid (show IntsIn w3 a3 zs from by obtain ⟨_, _, hv, hi⟩ := ownInts_in I3.out; cases hv; exact hi)
    have B3 := Lib.hid (B2.out.trans (Below.mono A3.out B2.out.size))
    have O3 := Lib.hid (ownG_kept O2.out A3.out)
    clear I3
    go_loopw [3, 22] (fun v i wr => ∃ j : Nat, j ≤ zs.length ∧ i = .int .i64 (j : Int) ∧ OwnG w.heap.size (cdN s zs j).data.toList v wr ∧ Below w.heap.size w wr ∧ IntsIn wr a3 zs ∧ NoB a3 v) (fun _ i _ => zs.length - (intOf i).toNat)
    case atStart => exact ⟨0, Nat.zero_le _, rfl, O3.out, B3.out, X3.out, P3.out⟩
    case round =>
      obtain ⟨j, hj, rfl, hO, hB, hI, hN⟩ := hrel
      have O5 := Lib.hid hO
      have B5 := Lib.hid hB
      have I5 := Lib.hid hI
      have N5 := Lib.hid hN
      clear hO hN
      by_cases hjl : j < zs.length
      · have hd : decide ((j : Int) < (zs.length : Int)) = true := by simpa using hjl
        obtain ⟨b1, o1, ha3, y1, d0⟩ := hI j hjl
        subst ha3
        have i1 : (0 : Int) ≤ (j : Int) := by omega
        have i2 : (j : Int) < (zs.length : Int) := by omega
        obtain ⟨h0, h1⟩ := HM.out j hjl
        have cs := CS.out j hj
        have cp := CP.out j
        have cb := Lib.hid (CB.out j)
        have sl : (cdN s zs j).data.toList.length = (cdN s zs j).size := Array.length_toList
        obtain ⟨m, hm⟩ := Int.eq_ofNat_of_zero_le h0
        rw [hm] at d0 h1 cb
        rw [Int.toNat_natCast] at cb
        have hm1 : m < 96 := by omega
        have s5 := B5.out.size
        have NB := Lib.hid (below_new (Below.refl wr.heap.size wr) (.cells #[.int .u8 32] 5))
        have OA := Lib.hid (ownG_kept O5.out NB.out)
        have IA := Lib.hid (show IntsIn (wr.alloc (.cells #[.int .u8 32] 5)) (some ⟨b1, o1, none⟩) zs from intsIn_below I5.out NB.out)
        have zl : 0 < zs.length := by omega
        have hbl : (cdN s zs j).data.toList.length ≤ 400 := by omega
        have hb0 : 0 < (cdN s zs j).data.toList.length := by omega
        clear h0 h1 hm cs cp sl hI hB
        generalize (cdN s zs j).data.toList = bs at *
        go_wp2_with (first
          | (at_builtin; refine wp_pushG _ rfl _ _ 81 rfl 5 i0 Tryd.underlying81 hi hz0 hz1 hz2 w.heap.size bs _ rfl OA.out (by simp; omega) (by omega) ⟨wr.heap.size, 0, none⟩ 1 32 rfl (newB _ _) ?_; intro v6 w6 hG; have G6 := Lib.hid hG; have I6 := Lib.hid (intsIn_grown IA.out hG.2.1 N5.out); have N6 := Lib.hid (noB_next N5.out IA.out zl hG); have B6 := Lib.hid (Below.grown (below_new B5.out (.cells #[.int .u8 32] 5)) hG.2.1 (by simp; omega) (ownG_lt O5.out)); clear hG)
          | (go_at_call 50; refine (appI_any w.heap.size (bs ++ [32]) _ m (by omega) _ G6.out.1 B6.out.size (by rw [List.length_append]; simp; omega) (by rw [List.length_append]; simp)).mono ?_; rintro e w7 ⟨v7, rfl, hG⟩; have G7 := Lib.hid hG; have I7 := Lib.hid (intsIn_grown I6.out hG.2.1 N6.out); have N7 := Lib.hid (noB_next N6.out I6.out zl hG); have B7 := Lib.hid (Below.grown B6.out hG.2.1 B6.out.size (ownG_lt G6.out.1)); clear hG))
        exact ⟨⟨j + 1, hjl, by rw [Int.natCast_succ], by rw [← cb.out]; exact G7.out.1, B7.out, I7.out, N7.out⟩, by (simp [intOf]) <;> omega⟩
      · have e : j = zs.length := by omega
        subst e
        have hd : decide ((zs.length : Int) < (zs.length : Int)) = false := by simp
        have cvb := conv_backG (P := Tryd.prog) (src := 81) (dst := 9) (e := 5) O5.out Tryd.underlying81 Tryd.underlying5 Tryd.underlying9
        have BE := Lib.hid (back_eq (cdN s zs zs.length))
        generalize (cdN s zs zs.length).data.toList = bs at *
        obtain ⟨g5, p5, hv, _⟩ := O5.out
        subst hv
        clear hB hI
        go_wp2
        go_returns
        exact ⟨ret_strC BE.out, B5.out⟩
end Go.Proofs.YtpkpjkceiikakaaDoor

namespace Go.Proofs.YtpkpjkceiikakaaDoor
open Go.ChangeShapes Go.WideShapes Go.ChangeAt Go.RowKit

set_option maxRecDepth 100000 in
set_option maxHeartbeats 3200000 in
theorem sCt_any (s : ByteArray) (a b : Int) (hs : s.size ≤ 16) (ha : U64 a) (hb : U64 b) (g o : Nat) (w : World) (h0 : w.cell? ⟨g, o, none⟩ = some (.string s)) (h1 : w.cell? ⟨g, o + 1, none⟩ = some (.int .u64 a)) (h2 : w.cell? ⟨g, o + 2, none⟩ = some (.int .u64 b)) :
    Calls Tryd.prog 52 #[.pointer (some ⟨g, o, none⟩)] w fun e w' => e = .returned (.string (cdN s (hol (hasB a b) 96) (hol (hasB a b) 96).length)) ∧ Below w.heap.size w w' := by
  have hg := World.block_lt_of_cell? _ _ h0
  have HI := fun W => sHoles_any a b ha hb W
  have hl := hol_len (hasB a b) 96
  have HM := fun j hj => hol_atX (f := hasB a b) (n := 96) (j := j) hj
  generalize hol (hasB a b) 96 = zs at *
  have CS := Lib.hid (cdN_size s (zs := zs) HM)
  have CN := Lib.hid (cdN_next s zs)
  replace HM := Lib.hid HM
  replace HI := Lib.hid HI
  clear ha hb
  have z32 : (ByteArray.mk #[32]).size = 1 := rfl
  go_enter Tryd.func52, Tryd.ntmps52
  go_wp2_with (go_at_call 82; refine (HI.out _).mono ?_; rintro e w1 ⟨v1, rfl, hO, hB⟩; obtain ⟨a1, c1, hv, hi⟩ := ownInts_in hO; subst hv; have I1 := Lib.hid hi; have B1 := Lib.hid hB; clear hO hi hB)
  go_loopw [3, 5] (fun v i wr => ∃ j : Nat, j ≤ zs.length ∧ i = .int .i64 (j : Int) ∧ v = .string (cdN s zs j) ∧ Below w1.heap.size w1 wr) (fun _ i _ => zs.length - (intOf i).toNat)
  case atStart => exact ⟨0, Nat.zero_le _, rfl, rfl, Below.refl _ _⟩
  case round =>
    obtain ⟨j, hj, rfl, rfl, hB⟩ := hrel
    have B5 := Lib.hid hB
    by_cases hjl : j < zs.length
    · have hd : decide ((j : Int) < (zs.length : Int)) = true := by simpa using hjl
      obtain ⟨b1, o1, rfl, y1, p0⟩ := I1.out j hjl
      have d0 := (hB.cell (p := ⟨b1, o1 + j, none⟩) y1).trans p0
      have y2 : b1 < wr.heap.size := Nat.lt_of_lt_of_le y1 hB.size
      have i1 : (0 : Int) ≤ (j : Int) := by omega
      have i2 : (j : Int) < (zs.length : Int) := by omega
      obtain ⟨h3, h4⟩ := HM.out j hjl
      have cs := CS.out j hj
      have cn := CN.out j
      obtain ⟨m, hm⟩ := Int.eq_ofNat_of_zero_le h3
      rw [hm] at d0 h4 cn
      rw [Int.toNat_natCast] at cn
      replace cn := Lib.hid cn
      have hm1 : m < 96 := by omega
      have ys := dec2_le (n := m) (by omega)
      have D := Lib.hid fun W => sDec_any m (by omega) W
      generalize cdN s zs j = t at *
      generalize dec2 m = y at *
      have sl1 : ¬ 9223372036854775807 < 1 + y.size := by omega
      have sl4 : ¬ 9223372036854775807 < t.size + (1 + y.size) := by omega
      clear hB p0 y1 h3 h4 hm cs ys hm1
      go_wp2_with (go_at_call 83; refine (D.out _).mono ?_; rintro e w3 ⟨rfl, hB⟩; have B3 := Lib.hid (B5.out.trans (Below.mono hB B5.out.size)); clear hB)
      exact ⟨⟨j + 1, hjl, by rw [Int.natCast_succ], by rw [cn.out], B3.out⟩, by (simp [intOf]) <;> omega⟩
    · have e : j = zs.length := by omega
      subst e
      have hd : decide ((zs.length : Int) < (zs.length : Int)) = false := by simp
      clear hB
      go_wp2
      go_ret
      exact ⟨rfl, B1.out.trans (Below.mono B5.out B1.out.size)⟩

end Go.Proofs.YtpkpjkceiikakaaDoor

namespace Go.Proofs.YtpkpjkceiikakaaDoor
open Go.ChangeShapes Go.WideShapes Go.ChangeAt Go.RowKit

theorem okTo_cards {cs : List Cd} : ∀ {n i : Nat}, okTo cs n = true → i < n → cardOk (cdAt cs i).s (cdAt cs i).b = true
  | 0, _, _, h => absurd h (Nat.not_lt_zero _)
  | n + 1, i, h, hi => by
    unfold okTo at h
    rw [Bool.and_eq_true, Bool.and_eq_true] at h
    by_cases e : i = n
    · subst e; exact h.2.1
    · exact okTo_cards h.1 (by omega)
theorem deckOk_cards {cs : List Cd} (h : deckOk cs = true) {i : Nat} (hi : i < cs.length) : cardOk (cdAt cs i).s (cdAt cs i).b = true := by
  unfold deckOk at h
  rw [Bool.and_eq_true] at h
  exact okTo_cards h.2 hi
/-- The text of the first n cards. -/
def dkN (cs : List Cd) : Nat → ByteArray
  | 0 => ByteArray.empty
  | n + 1 => dkN cs n ++ (cdT (cdAt cs n).s (cdAt cs n).a (cdAt cs n).b ++ ⟨#[10]⟩)
theorem dkN_next (cs : List Cd) (n : Nat) : dkN cs (n + 1) = dkN cs n ++ (cdT (cdAt cs n).s (cdAt cs n).a (cdAt cs n).b ++ ⟨#[10]⟩) := rfl
theorem cdT_yes {s : ByteArray} {a b : Int} (h : cardOk s b = true) : cdT s a b = cdN s (hol (hasB a b) 96) (hol (hasB a b) 96).length := if_pos h
theorem cdT_size {s : ByteArray} {a b : Int} (h : cardOk s b = true) : (cdT s a b).size ≤ 304 := by
  rw [cdT_yes h]
  unfold cardOk at h
  rw [Bool.and_eq_true] at h
  have h1 := (nameOk_size h.1).2
  have h2 := cdN_size s (zs := hol (hasB a b) 96) (fun j hj => hol_atX hj) _ (Nat.le_refl _)
  have h3 := hol_len (hasB a b) 96
  omega
theorem dkN_size {cs : List Cd} (h : ∀ i, i < cs.length → cardOk (cdAt cs i).s (cdAt cs i).b = true) : ∀ n, n ≤ cs.length → (dkN cs n).size ≤ 305 * n
  | 0, _ => Nat.le_refl _
  | n + 1, hn => by
    have ih := dkN_size h n (by omega)
    have h2 := cdT_size (a := (cdAt cs n).a) (h n (by omega))
    rw [dkN_next, ByteArray.size_append, ByteArray.size_append]
    have e : (⟨#[10]⟩ : ByteArray).size = 1 := rfl
    omega
/-- The text of a deck. -/
def dkT (cs : List Cd) : ByteArray := if deckOk cs = true then dkN cs cs.length else ByteArray.empty

set_option maxRecDepth 100000 in
set_option maxHeartbeats 3200000 in
theorem iDeckText_any (ad : Option Addr) (cs : List Cd) (c : Nat) (w : World) (hc : CardsIn w ad cs) :
    Calls Tryd.prog 38 #[.slice ad cs.length c] w fun e w' => e = .returned (.string (dkT cs)) ∧ Below w.heap.size w w' := by
  have V := fun W h => iDeckOk_any ad cs c W h
  have C := Lib.hid hc
  unfold dkT
  cases hk : deckOk cs
  · rw [hk] at V
    replace V := Lib.hid V
    simp only [Bool.false_eq_true, if_false]
    clear hk hc
    go_enter Tryd.func38, Tryd.ntmps38
    go_wp2_with (go_at_call 37; refine (V.out _ C.out).mono ?_; rintro e w1 ⟨rfl, hB⟩; have B1 := Lib.hid hB; clear hB)
    go_returns
    exact ⟨rfl, B1.out⟩
  · rw [hk] at V
    have OK := Lib.hid fun i (hi : i < cs.length) => deckOk_cards hk hi
    have SZ := Lib.hid (dkN_size fun i hi => deckOk_cards hk hi)
    have l80 := deckOk_80 hk
    simp only [if_true]
    replace V := Lib.hid V
    clear hk hc
    go_enter Tryd.func38, Tryd.ntmps38
    go_wp2_with (go_at_call 37; refine (V.out _ C.out).mono ?_; rintro e w1 ⟨rfl, hB⟩; have B1 := Lib.hid hB; clear hB)
    have D0 := Lib.hid (bldG_fresh w1)
    have A0 := Lib.hid (below_new (Below.refl w1.heap.size w1) (.cells #[.pointer none, .slice none 0 0] 94))
    have C1 := Lib.hid (cardsIn_below C.out B1.out)
    go_loopw [11] (fun i wr => ∃ j : Nat, j ≤ cs.length ∧ i = .int .i64 (j : Int) ∧ BldG w1.heap.size w1.heap.size (dkN cs j) wr ∧ Below w1.heap.size w1 wr) (fun i _ => cs.length - (intOf i).toNat)
    case atStart => exact ⟨0, Nat.zero_le _, rfl, D0.out, A0.out⟩
    case round =>
      obtain ⟨j, hj, rfl, hD, hB⟩ := hrel
      have D5 := Lib.hid hD
      have B5 := Lib.hid hB
      clear hD
      by_cases hjl : j < cs.length
      · have hd : decide ((j : Int) < (cs.length : Int)) = true := by simpa using hjl
        obtain ⟨⟨fs, u1, u2⟩, b1, o1, rfl, hb1, p0, p1, p2⟩ := C1.out j hjl
        have d0 := (hB.cell (p := ⟨b1, o1 + j * 3, none⟩) hb1).trans p0
        have d1 := (hB.cell (p := ⟨b1, o1 + j * 3 + 1, none⟩) hb1).trans p1
        have d2 := (hB.cell (p := ⟨b1, o1 + j * 3 + 2, none⟩) hb1).trans p2
        have y1 : b1 < wr.heap.size := Nat.lt_of_lt_of_le hb1 hB.size
        have i1 : (0 : Int) ≤ (j : Int) := by omega
        have i2 : (j : Int) < (cs.length : Int) := by omega
        have sz := SZ.out j hj
        have sc := cdT_size (a := (cdAt cs j).a) (OK.out j hjl)
        have NX := Lib.hid (dkN_next cs j)
        have T := Lib.hid fun W => iCardText_any (cdAt cs j).s (cdAt cs j).a (cdAt cs j).b fs u1 u2 W
        clear hB p0 p1 p2 hb1 fs u1 u2
        generalize cdT (cdAt cs j).s (cdAt cs j).a (cdAt cs j).b = t at *
        generalize dkN cs j = s at *
        generalize (cdAt cs j).s = n at *
        generalize (cdAt cs j).a = a at *
        generalize (cdAt cs j).b = b at *
        have s5 := B5.out.size
        have WB := Lib.hid fun (z : ByteArray) W (h : BldG w1.heap.size w1.heap.size z W) hB hl => (show Calls Tryd.prog 61 #[.pointer (some ⟨w1.heap.size, 0, none⟩), .int .u8 10] W _ from bld_byte w1.heap.size w1.heap.size z 10 W h hB hl)
        go_wp2_with (first
          | (go_at_call 32; refine (T.out _).mono ?_; rintro e w3 ⟨rfl, hB⟩; have A3 := Lib.hid ((below_new (Below.refl wr.heap.size wr) (.cells #[.string n, .int .u64 a, .int .u64 b] 33)).trans (Below.mono hB (by simp))); have D3 := Lib.hid (bldG_kept D5.out A3.out); have B3 := Lib.hid (B5.out.trans (Below.mono A3.out s5)); clear hB)
          | (go_at_call 60; refine (bld_str w1.heap.size w1.heap.size s t _ D3.out B3.out.size (by omega)).mono ?_; rintro e w4 ⟨rfl, hD, hB⟩; have D4 := Lib.hid hD; have B4 := Lib.hid (B3.out.trans hB); clear hD hB)
          | (go_at_call 61; refine (WB.out (s ++ t) _ D4.out B4.out.size (by rw [ByteArray.size_append]; omega)).mono ?_; rintro e w6 ⟨rfl, hD, hB⟩; have D6 := Lib.hid hD; have B6 := Lib.hid (B4.out.trans hB); clear hD hB))
        exact ⟨⟨j + 1, hjl, by rw [Int.natCast_succ], by rw [NX.out, ← ByteArray.append_assoc]; exact D6.out, B6.out⟩, by (simp [intOf]) <;> omega⟩
      · have e : j = cs.length := by omega
        subst e
        have hd : decide ((cs.length : Int) < (cs.length : Int)) = false := by simp
        clear hB
        go_wp2_with (go_at_call 62; refine (bld_text w1.heap.size w1.heap.size _ _ D5.out B5.out.size).mono ?_; rintro e w6 ⟨rfl, hB⟩; have B6 := Lib.hid (B5.out.trans hB); clear hB)
        go_returns
        exact ⟨rfl, B1.out.trans (Below.mono B6.out B1.out.size)⟩


end Go.Proofs.YtpkpjkceiikakaaDoor

namespace Go.Proofs.YtpkpjkceiikakaaDoor
open Go.ChangeShapes Go.WideShapes Go.ChangeAt Go.RowKit

def cdOf (v : ByteArray × Int × Int) : Cd := ⟨v.1, v.2.1, v.2.2⟩
/-- The cards of some lines. -/
def rdK (f : ByteArray → Option Int) : List ByteArray → Option (List Cd)
  | [] => some []
  | t :: r => match rcG f t with
    | none => none
    | some c => match rdK f r with
      | none => none
      | some ds => some (cdOf c :: ds)
theorem rdK_snoc {f : ByteArray → Option Int} : ∀ {ts : List ByteArray} {ds : List Cd} {x : ByteArray} {c : ByteArray × Int × Int}, rdK f ts = some ds → rcG f x = some c → rdK f (ts ++ [x]) = some (ds ++ [cdOf c])
  | [], ds, x, c, h, hx => by
    rw [rdK] at h
    rw [← Option.some.inj h]
    show rdK f [x] = _
    rw [rdK, hx]; rfl
  | t :: r, ds, x, c, h, hx => by
    rw [rdK] at h
    cases ht : rcG f t with
    | none => rw [ht] at h; cases h
    | some c' =>
      rw [ht] at h
      cases hr : rdK f r with
      | none => rw [hr] at h; cases h
      | some ds' =>
        rw [hr] at h
        have h := Option.some.inj h
        rw [List.cons_append, rdK, ht]
        simp only [rdK_snoc hr hx]
        rw [← h]; rfl
theorem rdK_bad {f : ByteArray → Option Int} : ∀ {ts : List ByteArray} {x : ByteArray}, rcG f x = none → ∀ r, rdK f (ts ++ x :: r) = none
  | [], x, hx, r => by
    show rdK f (x :: r) = none
    rw [rdK, hx]
  | t :: ts, x, hx, r => by
    rw [List.cons_append, rdK, rdK_bad hx r]
    cases rcG f t <;> rfl
theorem rdK_none_app {f : ByteArray → Option Int} : ∀ {ts : List ByteArray}, rdK f ts = none → ∀ r, rdK f (ts ++ r) = none
  | [], h, _ => by rw [rdK] at h; cases h
  | t :: ts, h, r => by
    rw [rdK] at h
    rw [List.cons_append, rdK]
    cases ht : rcG f t with
    | none => rfl
    | some c =>
      rw [ht] at h
      cases hr : rdK f ts with
      | none => simp only [rdK_none_app hr r]
      | some ds => rw [hr] at h; cases h
theorem rdK_len {f : ByteArray → Option Int} : ∀ {ts : List ByteArray} {ds : List Cd}, rdK f ts = some ds → ds.length = ts.length
  | [], ds, h => by rw [rdK] at h; rw [← Option.some.inj h]; rfl
  | t :: r, ds, h => by
    rw [rdK] at h
    cases ht : rcG f t with
    | none => rw [ht] at h; cases h
    | some c =>
      rw [ht] at h
      cases hr : rdK f r with
      | none => rw [hr] at h; cases h
      | some ds' => rw [hr] at h; rw [← Option.some.inj h, List.length_cons, List.length_cons, rdK_len hr]
/-- What is read is a card with just that text. -/
theorem rdK_at {f : ByteArray → Option Int} : ∀ {ts : List ByteArray} {ds : List Cd}, rdK f ts = some ds → ∀ i, i < ds.length → cardOk (cdAt ds i).s (cdAt ds i).b = true ∧ cdT (cdAt ds i).s (cdAt ds i).a (cdAt ds i).b = ts.getD i ByteArray.empty ∧ U64 (cdAt ds i).a ∧ U64 (cdAt ds i).b
  | [], ds, h, i, hi => by rw [rdK] at h; rw [← Option.some.inj h] at hi; exact absurd hi (Nat.not_lt_zero _)
  | t :: r, ds, h, i, hi => by
    rw [rdK] at h
    cases ht : rcG f t with
    | none => rw [ht] at h; cases h
    | some c =>
      rw [ht] at h
      cases hr : rdK f r with
      | none => rw [hr] at h; cases h
      | some ds' =>
        rw [hr] at h
        have h := Option.some.inj h
        subst h
        cases i with
        | zero =>
          obtain ⟨a, b, c⟩ := c
          have := rcG_some ht
          exact ⟨this.1, this.2.1, this.2.2⟩
        | succ i =>
          have := rdK_at hr i (by simpa using hi)
          exact this
theorem rdK_same (ts : List ByteArray) : rdK fI ts = rdK fS ts := by
  induction ts with
  | nil => rfl
  | cons t r ih => rw [rdK, rdK, rc_same, ih]
theorem joinC_last (c : UInt8) (q : List UInt8) : ∀ xs : List (List UInt8), joinC c (xs ++ [q]) = joinC c (xs ++ [[]]) ++ q
  | [] => by simp [joinC]
  | a :: r => by rw [List.cons_append, List.cons_append, joinC_cons c a (by simp), joinC_cons c a (by simp), joinC_last c q r, List.append_assoc]; rfl
theorem dkN_join {ds : List Cd} {ts : List ByteArray} (hl : ds.length = ts.length) (h : ∀ i, i < ds.length → cdT (cdAt ds i).s (cdAt ds i).a (cdAt ds i).b = ts.getD i ByteArray.empty) : ∀ n, n ≤ ds.length → (dkN ds n).data.toList = joinC 10 (((ts.take n).map fun p => p.data.toList) ++ [[]])
  | 0, _ => rfl
  | n + 1, hn => by
    have e : (ts.take (n + 1)).map (fun p => p.data.toList) = (ts.take n).map (fun p => p.data.toList) ++ [(ts.getD n ByteArray.empty).data.toList] := by
      rw [List.take_add_one, List.getElem?_eq_getElem (show n < ts.length by omega), List.map_append]
      simp [List.getD, show n < ts.length by omega]
    rw [dkN_next, h n (by omega), e, joinC_snoc 10 [] (by simp), joinC_last, ← dkN_join hl h n (by omega)]
    simp
/-- The lines without their ends. -/
def tl (s : ByteArray) : List ByteArray := (lns s).map trimB
def rkI (s : ByteArray) : Option (List Cd) := match rdK fI (tl s) with
  | some ds => if deckOk ds = true ∧ dkT ds = s then some ds else none
  | none => none
def rkS (s : ByteArray) : Option (List Cd) := if (pieces 10 s).getLast? = some ByteArray.empty then (match rdK fS (pieces 10 s).dropLast with
  | some ds => if deckOk ds = true then some ds else none
  | none => none) else none
theorem tl_pieces (s : ByteArray) : ((pieces 10 s).getLast? = some ByteArray.empty ∧ pieces 10 s = tl s ++ [ByteArray.empty]) ∨ ((pieces 10 s).getLast? ≠ some ByteArray.empty ∧ pieces 10 s = tl s) := by
  obtain ⟨z, hz, hh⟩ := lines_pieces s.data.toList [] (by simp)
  have ht : tl s = ((lnB [] s.data.toList).map trimL).map mkS := by
    unfold tl lns
    rw [List.map_map, List.map_map]
    rfl
  have hp : (pieces 10 s).getLast? = some (mkS z) := by unfold pieces; rw [List.getLast?_map, hz]; rfl
  rcases hh with ⟨h1, h2⟩ | ⟨h1, h2⟩
  · left
    subst h1
    refine ⟨hp, ?_⟩
    unfold pieces
    rw [h2, List.map_append, ht]; rfl
  · right
    refine ⟨?_, by unfold pieces; rw [h2, ht]⟩
    rw [hp]
    intro e
    apply h1
    have := congrArg (fun p : ByteArray => p.data.toList) (Option.some.inj e)
    exact this
theorem dkT_yes {ds : List Cd} (h : deckOk ds = true) : dkT ds = dkN ds ds.length := by unfold dkT; rw [if_pos h]
theorem rk_same (s : ByteArray) : rkI s = rkS s := by
  unfold rkI rkS
  rcases tl_pieces s with ⟨h1, h2⟩ | ⟨h1, h2⟩
  · rw [if_pos h1, h2, List.dropLast_concat, ← rdK_same]
    cases hr : rdK fI (tl s) with
    | none => rfl
    | some ds =>
      simp only
      by_cases hk : deckOk ds = true
      · have ht : dkT ds = s := by
          apply data_inj
          rw [dkT_yes hk, dkN_join (rdK_len hr) (fun i hi => (rdK_at hr i hi).2.1) _ (Nat.le_refl _), rdK_len hr, List.take_length, pieces_join 10 s, h2, List.map_append]; rfl
        rw [if_pos hk, if_pos ⟨hk, ht⟩]
      · rw [if_neg hk, if_neg (fun q => hk q.1)]
  · rw [if_neg h1]
    cases hr : rdK fI (tl s) with
    | none => rfl
    | some ds =>
      simp only
      refine if_neg ?_
      rintro ⟨hk, ht⟩
      have hj := dkN_join (rdK_len hr) (fun i hi => (rdK_at hr i hi).2.1) _ (Nat.le_refl _)
      rw [rdK_len hr, List.take_length, ← rdK_len hr, ← dkT_yes hk, ht] at hj
      have hp := pieces_of (c := 10) (s := s) (ps := tl s ++ [ByteArray.empty]) (by rw [hj, List.map_append]; rfl) (by simp) (fun p hp => by
        rcases List.mem_append.1 hp with hp | hp
        · rw [← h2] at hp; exact pieces_free hp
        · rw [List.mem_singleton.1 hp]; exact fun q => by cases q)
      have := congrArg List.length (h2.symm.trans hp)
      simp at this
theorem rkI_prefix {s : ByteArray} {pre : List ByteArray} (hp : pre <+: lns s) (h : rdK fI (pre.map trimB) = none) : rkI s = none := by
  obtain ⟨r, hr⟩ := hp
  unfold rkI tl
  rw [← hr, List.map_append, rdK_none_app h]
end Go.Proofs.YtpkpjkceiikakaaDoor

namespace Go.Proofs.YtpkpjkceiikakaaDoor
open Go.ChangeShapes Go.WideShapes Go.ChangeAt Go.RowKit

theorem spt_info : (Tryd.prog.info? 9).map (fun i => (i.zero, i.size, i.bytes)) = some (some (.string ByteArray.empty), 1, 16) := by kernel_rfl
theorem genSplit_any (s : ByteArray) (c : UInt8) (hs : s.size ≤ 1048576) (w : World) :
    Calls Tryd.prog 46 #[.string s, .string ⟨#[c]⟩, .int .i64 0, .int .i64 (-1)] w fun e w' => e = .returned (.slice (some ⟨w.heap.size, 0, none⟩) (pieces c s).length (pieces c s).length) ∧ w' = w.alloc (.cells ((pieces c s).map Value.string).toArray 9) := by
  have z1 : (ByteArray.mk #[c]).size = 1 := rfl
  have hle := Lib.countB_le ⟨#[c]⟩ (by rw [z1]; exact Nat.le_refl _) s.size s (Nat.le_refl _)
  have h := Any.strings_genSplit_core { Tryd.lays146 with } spt_info s ⟨#[c]⟩ 0 (-1) (Lib.countB s ⟨#[c]⟩ + 1) w (by omega) (by rw [z1]; exact Nat.le_refl _) (Nat.zero_le _)
    (fun x q hx => by
      have h := Any.strings_Index_one { Tryd.lays146 with } x c (w.alloc (.cells q 9))
      rw [← Lib.index_one] at h
      exact h)
    (by
      refine (Any.strings_Count_one { Tryd.lays146 with } s c w).mono fun e w' ⟨he, hw⟩ => ⟨?_, hw⟩
      rw [he]
      show _ = Ending.returned (Value.int .i64 ((Lib.count s.data.toList [c] : Nat) : Int))
      rw [Lib.count_one]
      rfl)
    (by decide) (by decide) (by rw [if_pos (by decide)]; omega)
  rw [Nat.add_sub_cancel, splitB_pieces c _ s rfl, countB_pieces c s, Lib.cellsOf_full] at h
  exact h
theorem split_any (s : ByteArray) (c : UInt8) (hs : s.size ≤ 1048576) (w : World) :
    Calls Tryd.prog 24 #[.string s, .string ⟨#[c]⟩] w fun e w' => ∃ a, e = .returned (.slice (some a) (pieces c s).length (pieces c s).length) ∧ w.heap.size ≤ a.block ∧ StrsIn w' (some a) (pieces c s) ∧ Below w.heap.size w w' := by
  have h := genSplit_any s c hs w
  go_enter Tryd.func24, Tryd.ntmps24
  go_wp2_with (go_at_call 46; refine h.mono ?_; rintro e w1 ⟨rfl, hw⟩; have HW := Lib.hid hw; clear hw)
  go_ret
  refine ⟨_, rfl, Nat.le_refl _, ?_, by rw [HW.out]; exact below_new (Below.refl _ _) _⟩
  rw [HW.out]
  intro i hi
  refine ⟨w.heap.size, 0, rfl, by simp, ?_⟩
  rw [World.cell?_alloc_mark]
  simp [hi]

/-! ### Numbers -/
/-- The two errors that the library's reader of numbers names hold some error each. -/
structure PE (W : World) : Prop where
  s : ∃ tp p, W.var? Tryd.prog "strconv.ErrSyntax" = some #[.iface tp p]
  r : ∃ tp p, W.var? Tryd.prog "strconv.ErrRange" = some #[.iface tp p]
theorem varP_below {P : Program} {W W' : World} {n : String} {cs : Array Value} (h : W.var? P n = some cs) {B : Nat} (hb : Below B W W') (hB : W.heap.size ≤ B) : W'.var? P n = some cs := by
  unfold World.var? at h ⊢
  cases hg : P.globalNamed n with
  | none => simp [hg] at h
  | some g =>
    simp only [hg, Option.bind_some] at h ⊢
    have hlt : g < W.heap.size := by
      rcases Nat.lt_or_ge g W.heap.size with h' | h'
      · exact h'
      · simp [Array.getElem?_eq_none h'] at h
    rw [hb.block g (by omega)]
    exact h
theorem PE.kept {W0 W W' : World} {B : Nat} (h : PE W0) (h0 : Below W0.heap.size W0 W) (hb : Below B W W') (hB : W0.heap.size ≤ B) : PE W' := by
  obtain ⟨⟨a, b, h1⟩, ⟨c, d, h2⟩⟩ := h
  have hk : Below W0.heap.size W0 W' := h0.trans (Below.mono hb hB)
  exact ⟨⟨a, b, varP_below h1 hk (Nat.le_refl _)⟩, ⟨c, d, varP_below h2 hk (Nat.le_refl _)⟩⟩
theorem PE.below {W W' : World} (h : PE W) (hb : Below W.heap.size W W') : PE W' := h.kept (Below.refl _ _) hb (Nat.le_refl _)
theorem below_bytes {w w' : World} {t : TypeId} (h : w' = w ∨ ∃ s, w' = Lib.bytesWorld w t s) : Below w.heap.size w w' := by
  rcases h with rfl | ⟨s, rfl⟩
  · exact Below.refl _ _
  · exact Lib.bytesWorld_below _ _ _
theorem parse16_ok (s : ByteArray) (hs : s.size ≤ 1048576) (v : Int) (h : pIn 16 s = some v) (w : World) :
    Calls Tryd.prog 25 #[.string s, .int .i64 10, .int .i64 16] w fun e w' => e = .returned (.tuple #[.int .i64 v, .nilIface]) ∧ Below w.heap.size w w' := by
  have h2 : Lib.parseIntB 16 s.data.toList = .ok v := by
    unfold pIn at h
    split at h
    · rename_i e; rw [e, Option.some.inj h]
    · cases h
  exact (Any.strconv_ParseInt_10_at16_ok Tryd.lays174 s (by omega) v h2 w).mono fun e w' ⟨he, hw⟩ => ⟨he, below_bytes hw⟩
theorem parse16_bad (s : ByteArray) (hs : s.size ≤ 1048576) (h : pIn 16 s = none) (w : World) (hP : PE w) :
    Calls Tryd.prog 25 #[.string s, .int .i64 10, .int .i64 16] w fun e w' => ∃ n t q, e = .returned (.tuple #[.int .i64 n, .iface t q]) ∧ Below w.heap.size w w' := by
  obtain ⟨⟨a, b, h1⟩, ⟨c, d, h2⟩⟩ := hP
  cases e : Lib.parseIntB 16 s.data.toList with
  | ok v => unfold pIn at h; rw [e] at h; cases h
  | «syntax» => exact (Any.strconv_ParseInt_10_at16_syntax_var Tryd.lays174 s (by omega) e a b w h1).mono fun e w' ⟨N, he, _, _, hb⟩ => ⟨_, _, _, he, hb⟩
  | range => exact (Any.strconv_ParseInt_10_at16_range_var Tryd.lays174 s (by omega) e c d w h2).mono fun e w' ⟨N, he, _, _, hb⟩ => ⟨_, _, _, he, hb⟩
theorem parse64_ok (s : ByteArray) (hs : s.size ≤ 1048576) (v : Int) (h : pIn 64 s = some v) (w : World) :
    Calls Tryd.prog 25 #[.string s, .int .i64 10, .int .i64 64] w fun e w' => e = .returned (.tuple #[.int .i64 v, .nilIface]) ∧ Below w.heap.size w w' := by
  have h2 : Lib.parseIntB 64 s.data.toList = .ok v := by
    unfold pIn at h
    split at h
    · rename_i e; rw [e, Option.some.inj h]
    · cases h
  exact (Any.strconv_ParseInt_10_at64_ok Tryd.lays174 s (by omega) v h2 w).mono fun e w' ⟨he, hw⟩ => ⟨he, below_bytes hw⟩
theorem parse64_bad (s : ByteArray) (hs : s.size ≤ 1048576) (h : pIn 64 s = none) (w : World) (hP : PE w) :
    Calls Tryd.prog 25 #[.string s, .int .i64 10, .int .i64 64] w fun e w' => ∃ n t q, e = .returned (.tuple #[.int .i64 n, .iface t q]) ∧ Below w.heap.size w w' := by
  obtain ⟨⟨a, b, h1⟩, ⟨c, d, h2⟩⟩ := hP
  cases e : Lib.parseIntB 64 s.data.toList with
  | ok v => unfold pIn at h; rw [e] at h; cases h
  | «syntax» => exact (Any.strconv_ParseInt_10_at64_syntax_var Tryd.lays174 s (by omega) e a b w h1).mono fun e w' ⟨N, he, _, _, hb⟩ => ⟨_, _, _, he, hb⟩
  | range => exact (Any.strconv_ParseInt_10_at64_range_var Tryd.lays174 s (by omega) e c d w h2).mono fun e w' ⟨N, he, _, _, hb⟩ => ⟨_, _, _, he, hb⟩
theorem pIn_bounds {B : Nat} {s : ByteArray} {v : Int} (h : pIn B s = some v) : -((2 ^ (B - 1) : Nat) : Int) ≤ v ∧ v < ((2 ^ (B - 1) : Nat) : Int) := by
  unfold pIn at h
  split at h
  · rename_i e; rw [Option.some.inj h] at e; exact Lib.parseIntB_bounds e
  · cases h
end Go.Proofs.YtpkpjkceiikakaaDoor

namespace Go.Proofs.YtpkpjkceiikakaaDoor
open Go.ChangeShapes Go.WideShapes Go.ChangeAt Go.RowKit

theorem splitC_at (s : ByteArray) (c : UInt8) (hs : s.size ≤ 1048576) (w : World) :
    Calls Tryd.prog 24 #[.string s, .string ⟨#[c]⟩] w fun e w' => e = .returned (.slice (some ⟨w.heap.size, 0, none⟩) (pieces c s).length (pieces c s).length) ∧ w' = w.alloc (.cells ((pieces c s).map Value.string).toArray 9) := by
  have h := genSplit_any s c hs w
  go_enter Tryd.func24, Tryd.ntmps24
  go_wp2_with (go_at_call 46; refine h.mono ?_; rintro e w1 ⟨rfl, hw⟩; have HW := Lib.hid hw; clear hw)
  go_ret
  exact ⟨rfl, HW.out⟩
theorem ab_newC (w : World) (o : Obj) : Ab w (w.alloc o) := below_new (Below.refl _ _) _
theorem str_neC {x y : ByteArray} (h : x ≠ y) : (x.toList == y.toList) = false := by
  rw [beq_eq_false_iff_ne]
  intro e
  apply h
  apply data_inj
  rw [← Lib.toList_data, ← Lib.toList_data, e]
theorem iHoleC {n : Int} {x : Bool} (h : decide (0 ≤ n ∧ n ≤ 95) = x) (w : World) : Calls Tryd.prog 28 #[.int .i64 n] w fun e w' => e = .returned (.bool x) ∧ w = w' := by
  subst h
  by_cases h0 : 0 ≤ n
  · have d0 : decide (0 ≤ n) = true := decide_eq_true h0
    by_cases h1 : n ≤ 95
    · have d1 : decide (n < 96) = true := decide_eq_true (by omega)
      rw [decide_eq_true ⟨h0, h1⟩]
      go_enter Tryd.func28, Tryd.ntmps28
      go_wp2
      go_returns
      exact ⟨rfl, rfl⟩
    · have d1 : decide (n < 96) = false := decide_eq_false (by omega)
      rw [decide_eq_false (fun q => h1 q.2)]
      go_enter Tryd.func28, Tryd.ntmps28
      go_wp2
      go_returns
      exact ⟨rfl, rfl⟩
  · have d0 : decide (0 ≤ n) = false := decide_eq_false h0
    rw [decide_eq_false (fun q => h0 q.1)]
    go_enter Tryd.func28, Tryd.ntmps28
    go_wp2
    go_returns
    exact ⟨rfl, rfl⟩
def rcV : Option (ByteArray × Int × Int) → Value
  | some (nm, a, b) => .tuple #[.agg #[.string nm, .int .u64 a, .int .u64 b], .int .i64 0]
  | none => .tuple #[.agg #[.string ⟨#[]⟩, .int .u64 0, .int .u64 0], .int .i64 5]
theorem iJoinC (a b c d : Int) (w : World) :
    Calls Tryd.prog 29 #[.agg #[.int .u64 a, .int .u64 b], .agg #[.int .u64 c, .int .u64 d]] w fun e w' => e = .returned (.agg #[.int .u64 (bits .or .u64 a c), .int .u64 (bits .or .u64 b d)]) ∧ Below w.heap.size w w' :=
  (iJoin_any a b c d w).mono fun e w' ⟨he, hw⟩ => ⟨he, by rw [← hw]; exact (by repeat' (first | (with_reducible exact Below.refl _ _) | (with_reducible assumption) | (with_reducible refine below_drewN ?_ _) | (with_reducible refine Below.drew ?_) | (with_reducible refine below_new ?_ _) | (with_reducible refine below_next ?_ (by with_reducible assumption)) | (with_reducible refine Below.setCell ?_ ?_ _) | go_size))⟩
theorem two_of (c : UInt8) (s : ByteArray) : ∃ nm ws, pieces c s = nm :: ws := by
  cases h : pieces c s with
  | nil => exact absurd h (pieces_ne c s)
  | cons nm ws => exact ⟨nm, ws, rfl⟩
theorem cell_str (nm : ByteArray) (ws : List ByteArray) (i : Nat) (hi : i < ws.length) : (((nm :: ws).map Value.string).toArray)[1 + i]? = some (.string (ws.getD i ByteArray.empty)) := by
  rw [Nat.add_comm]
  simp [List.getD, hi]
theorem ret_rc {o : Option (ByteArray × Int × Int)} {v : Value} (h : rcV o = v) : Ending.returned v = .returned (rcV o) := by rw [h]

set_option maxRecDepth 100000 in
set_option maxHeartbeats 6400000 in
theorem iReadCard_any (s : ByteArray) (hs : s.size ≤ 1048576) (w : World) (hP : PE w) :
    Calls Tryd.prog 11 #[.string s] w fun e w' => e = .returned (rcV (rcG fI s)) ∧ Below w.heap.size w w' := by
  have SP := Lib.hid fun W => splitC_at s 32 hs W
  have R0 := Lib.hid (block_alloc w (.cells #[.string ⟨#[]⟩, .int .u64 0, .int .u64 0] 33))
  have B0 := Lib.hid (below_new (Below.refl w.heap.size w) (.cells #[.string ⟨#[]⟩, .int .u64 0, .int .u64 0] 33))
  have P0 := Lib.hid hP
  clear hP
  obtain ⟨nm, ws, hp⟩ := two_of 32 s
  have hfit := pieces_fit 32 s
  have PP := Lib.hid hp
  rw [hp] at SP hfit
  rw [List.length_cons] at SP
  have fn : nm.size ≤ 1048576 := Nat.le_trans (hfit nm (by simp)) hs
  have FW := Lib.hid (fun i (hi : i < ws.length) => Nat.le_trans (hfit (ws.getD i ByteArray.empty) (by simp [List.getD, hi])) hs)
  have hlen : ws.length ≤ 1048576 := by
    have h := pieces_len 32 s
    rw [hp, List.length_cons] at h
    omega
  clear hp hfit
  by_cases hne : ws = []
  · subst hne
    go_enter Tryd.func11, Tryd.ntmps11
    go_wp2_with (go_at_call 24; refine (SP.out _).mono ?_; rintro e w1 ⟨rfl, hw⟩; have N1 := Lib.hid (show w1.heap[w.heap.size + 1]? = some (.cells (([nm] : List ByteArray).map Value.string).toArray 9 (0, 0)) from by rw [hw, show w.heap.size + 1 = (w.alloc (.cells #[.string ⟨#[]⟩, .int .u64 0, .int .u64 0] 33)).heap.size from by simp]; exact block_alloc _ _); have hB := (Below.refl (w.heap.size + 1) (w.alloc (.cells #[.string ⟨#[]⟩, .int .u64 0, .int .u64 0] 33))).alloc (by simp) (.cells (([nm] : List ByteArray).map Value.string).toArray 9); rw [← hw] at hB; have R1 := Lib.hid ((hB.block _ (by simp)).trans R0.out); have B1 := Lib.hid (B0.out.trans (Below.mono hB (by simp))); have c0 : w1.cell? ⟨w.heap.size + 1, 0, none⟩ = some (.string nm) := (cell_of_block N1.out 0).trans (by simp); have l0 := lt_of_block N1.out; clear hB hw)
    have M1 := Lib.hid (show (w1.alloc (.cells #[.string nm, .int .u64 0, .int .u64 0] 33)).heap[w1.heap.size]? = some (.cells #[.string nm, .int .u64 (mo b0 [] 0), .int .u64 (mo b1 [] 0)] 33 (0, 0)) from block_alloc w1 _)
    have A1 := Lib.hid (ab_newC w1 (.cells #[.string nm, .int .u64 0, .int .u64 0] 33))
    generalize w1.alloc (.cells #[.string nm, .int .u64 0, .int .u64 0] 33) = wr at *
    have MM := M1
    have R2 := Lib.hid (Ab.block A1.out R1.out)
    have B2 := Lib.hid (B1.out.trans (Below.mono A1.out B1.out.size))
    have ZZ := Lib.hid (show rdH fI ([] : List ByteArray) ([] : List ByteArray).length = some [] from rfl)
    clear c0 l0 M1 A1
    refine wp_loop_rounds 1 ?_
    rw [rounds_succ]
    have er := rcG_at PP.out ZZ.out
    have ux := mo_u64 b0 [] 0
    have uy := mo_u64 b1 [] 0
    simp only [List.length_nil] at er
    generalize mo b0 [] 0 = X at *
    generalize mo b1 [] 0 = Y at *
    have V := fun W => iValidCard_any nm X Y (by unfold maxLen; omega) W
    have C := Lib.hid fun W => iCardText_any nm X Y (by unfold maxLen; omega) ux uy W
    have c0 := cell_of_block MM.out 0
    have c1 := cell_of_block MM.out 1
    have c2 := cell_of_block MM.out 2
    have s0 := lt_of_block MM.out
    clear ux uy
    cases hk : cardOk nm Y
    · rw [hk] at V
      replace V := Lib.hid V
      rw [if_neg (by rw [hk]; simp)] at er
      have EQ := Lib.hid er
      clear er hk
      go_wp2_with (first
        | (go_at_call 31; refine (V.out _).mono ?_; rintro e w9 ⟨rfl, hB⟩; have R9 := Lib.hid (Ab.block hB R2.out); have B9 := Lib.hid (B2.out.trans (Below.mono hB B2.out.size)); have r0 := cell_of_block R9.out 0; have r1 := cell_of_block R9.out 1; have r2 := cell_of_block R9.out 2; have r9 := lt_of_block R9.out; have rf := free_of_block R9.out; clear hB c0 c1 c2 s0))
      refine bodyPost_ret (by simp [results, Tryd.results11, go_sem,  r0, r1, r2]; try rfl) rfl ?_
      exact ⟨ret_rc (by rw [EQ.out]; rfl), ((B9.out.setCell (by simp) _).setCell (by simp) _).setCell (by simp) _⟩
    · rw [hk] at V
      replace V := Lib.hid V
      generalize hX : cdT nm X Y = T at *
      by_cases hT : T = s
      · subst hT
        rw [if_pos ⟨hk, rfl⟩] at er
        have n1 : (T.toList != T.toList) = false := by simp
        have EQ := Lib.hid er
        clear er hk
        go_wp2_with (first
          | (go_at_call 31; refine (V.out _).mono ?_; rintro e w8 ⟨rfl, hB⟩; have R8 := Lib.hid (Ab.block hB R2.out); have M8 := Lib.hid (Ab.block hB MM.out); have B8 := Lib.hid (B2.out.trans (Below.mono hB B2.out.size)); have c0 := cell_of_block M8.out 0; have c1 := cell_of_block M8.out 1; have c2 := cell_of_block M8.out 2; have s0 := lt_of_block M8.out; clear hB)
          | (go_at_call 32; refine (C.out _).mono ?_; rintro e w9 ⟨rfl, hB⟩; have R9 := Lib.hid (Ab.block hB R8.out); have M9 := Lib.hid (Ab.block hB M8.out); have B9 := Lib.hid (B8.out.trans (Below.mono hB B8.out.size)); have r0 := cell_of_block R9.out 0; have r1 := cell_of_block R9.out 1; have r2 := cell_of_block R9.out 2; have r9 := lt_of_block R9.out; have rf := free_of_block R9.out; have y0 := cell_of_block M9.out 0; have y1 := cell_of_block M9.out 1; have y2 := cell_of_block M9.out 2; have y9 := lt_of_block M9.out; clear hB))
        refine bodyPost_ret (by simp [results, Tryd.results11, go_sem,  r0, r1, r2]; try rfl) rfl ?_
        exact ⟨ret_rc (by rw [EQ.out]; rfl), ((B9.out.setCell (by simp) _).setCell (by simp) _).setCell (by simp) _⟩
      · rw [if_neg (fun q => hT q.2)] at er
        have n1 := str_neC hT
        have EQ := Lib.hid er
        clear er hk
        go_wp2_with (first
          | (go_at_call 31; refine (V.out _).mono ?_; rintro e w8 ⟨rfl, hB⟩; have R8 := Lib.hid (Ab.block hB R2.out); have M8 := Lib.hid (Ab.block hB MM.out); have B8 := Lib.hid (B2.out.trans (Below.mono hB B2.out.size)); have c0 := cell_of_block M8.out 0; have c1 := cell_of_block M8.out 1; have c2 := cell_of_block M8.out 2; have s0 := lt_of_block M8.out; clear hB)
          | (go_at_call 32; refine (C.out _).mono ?_; rintro e w9 ⟨rfl, hB⟩; have R9 := Lib.hid (Ab.block hB R8.out); have B9 := Lib.hid (B8.out.trans (Below.mono hB B8.out.size)); have r0 := cell_of_block R9.out 0; have r1 := cell_of_block R9.out 1; have r2 := cell_of_block R9.out 2; have r9 := lt_of_block R9.out; have rf := free_of_block R9.out; clear hB))
        refine bodyPost_ret (by simp [results, Tryd.results11, go_sem,  r0, r1, r2]; try rfl) rfl ?_
        exact ⟨ret_rc (by rw [EQ.out]; rfl), ((B9.out.setCell (by simp) _).setCell (by simp) _).setCell (by simp) _⟩
  · go_enter Tryd.func11, Tryd.ntmps11
    go_wp2_with (go_at_call 24; refine (SP.out _).mono ?_; rintro e w1 ⟨rfl, hw⟩; have N1 := Lib.hid (show w1.heap[w.heap.size + 1]? = some (.cells ((nm :: ws).map Value.string).toArray 9 (0, 0)) from by rw [hw, show w.heap.size + 1 = (w.alloc (.cells #[.string ⟨#[]⟩, .int .u64 0, .int .u64 0] 33)).heap.size from by simp]; exact block_alloc _ _); have hB := (Below.refl (w.heap.size + 1) (w.alloc (.cells #[.string ⟨#[]⟩, .int .u64 0, .int .u64 0] 33))).alloc (by simp) (.cells ((nm :: ws).map Value.string).toArray 9); rw [← hw] at hB; have R1 := Lib.hid ((hB.block _ (by simp)).trans R0.out); have B1 := Lib.hid (B0.out.trans (Below.mono hB (by simp))); have c0 : w1.cell? ⟨w.heap.size + 1, 0, none⟩ = some (.string nm) := (cell_of_block N1.out 0).trans (by simp); have l0 := lt_of_block N1.out; clear hB hw)
    have M1 := Lib.hid (block_alloc w1 (.cells #[.string nm, .int .u64 0, .int .u64 0] 33))
    have A1 := Lib.hid (ab_newC w1 (.cells #[.string nm, .int .u64 0, .int .u64 0] 33))
    have hR := lt_of_block R1.out
    clear c0
    go_loopw [19] (fun i wr => ∃ (j : Nat) (zs : List Int), j ≤ ws.length ∧ rdH fI ws j = some zs ∧ i = .int .i64 (j : Int) ∧ wr.heap[w1.heap.size]? = some (.cells #[.string nm, .int .u64 (mo b0 zs j), .int .u64 (mo b1 zs j)] 33 (0, 0)) ∧ Below w1.heap.size w1 wr) (fun i _ => ws.length - (intOf i).toNat)
    case atStart => exact ⟨0, [], Nat.zero_le _, rfl, rfl, M1.out, A1.out⟩
    case round =>
      obtain ⟨j, zs, hj, hz, rfl, hM, hA⟩ := hrel
      have hzl := rdH_len _ _ hz
      have MM := Lib.hid hM
      have AA := Lib.hid hA
      have ZZ := Lib.hid hz
      have R2 := Lib.hid (hA.block _ hR |>.trans R1.out)
      have B2 := Lib.hid (B1.out.trans (Below.mono hA B1.out.size))
      clear hz hM hA M1 A1
      by_cases hjl : j < ws.length
      · have dl : decide ((j : Int) < (ws.length : Int)) = true := by simpa using hjl
        have c1 : wr.cell? ⟨w.heap.size + 1, 1 + j, none⟩ = some (.string (ws.getD j ByteArray.empty)) := ((AA.out.cell (p := ⟨w.heap.size + 1, 1 + j, none⟩) l0).trans (cell_of_block N1.out (1 + j))).trans (cell_str nm ws j hjl)
        have l1 := Nat.lt_of_lt_of_le l0 AA.out.size
        have fw := FW.out j hjl
        have i1 : (0 : Int) ≤ (j : Int) := by omega
        have i2 : (j : Int) < (ws.length : Int) := by omega
        generalize hwj : ws.getD j ByteArray.empty = wd at *
        cases hv : pIn 64 wd with
        | none =>
          have EQ := Lib.hid (rcG_bad PP.out (n := j + 1) hjl (rdH_bad ZZ.out (by rw [hwj]; exact fI_none hv)))
          go_wp2_with (go_at_call 25; refine (parse64_bad wd fw hv _ (P0.out.kept (Below.refl _ _) B2.out (Nat.le_refl _))).mono ?_; rintro e w9 ⟨n9, t9, q9, rfl, hB⟩; have R9 := Lib.hid (Ab.block hB R2.out); have B9 := Lib.hid (B2.out.trans (Below.mono hB B2.out.size)); have r0 := cell_of_block R9.out 0; have r1 := cell_of_block R9.out 1; have r2 := cell_of_block R9.out 2; have r9 := lt_of_block R9.out; have rf := free_of_block R9.out; clear hB)
          refine bodyPost_ret (by simp [results, Tryd.results11, go_sem,  r0, r1, r2]; try rfl) rfl ?_
          exact ⟨ret_rc (by rw [EQ.out]; rfl), ((B9.out.setCell (by simp) _).setCell (by simp) _).setCell (by simp) _⟩
        | some h =>
          by_cases hh : 0 ≤ h ∧ h ≤ 95
          · have f := Lib.hid (rdH_next ZZ.out (h := h) (by rw [hwj]; exact fI_in hv hh))
            have H := Lib.hid (iHoleC (decide_eq_true hh))
            have p0 := Lib.hid (mo_push b0 zs h)
            have p1 := Lib.hid (mo_push b1 zs h)
            rw [hzl] at p0 p1
            have O := Lib.hid fun W => iOne_any h hh.1 hh.2 W
            generalize mo b0 zs j = X at *
            generalize mo b1 zs j = Y at *
            generalize b0 h = U at *
            generalize b1 h = V at *
            have J := Lib.hid fun W => iJoinC X Y U V W
            clear hh hzl
            go_wp2_with (first
              | (go_at_call 25; refine (parse64_ok wd fw h hv _).mono ?_; rintro e w3 ⟨rfl, hB⟩; have A3 := Lib.hid (AA.out.trans (Below.mono hB AA.out.size)); have M3 := Lib.hid (Ab.block hB MM.out); clear hB c1 l1)
              | (go_at_call 28; refine (H.out _).mono ?_; rintro e w4 ⟨rfl, rfl⟩))
            refine wp_region_last 6 (by kernel_rfl) rfl rfl (by kernel_rfl) (by kernel_rfl) rfl ?_
            simp only [List.take_succ_cons, List.take_zero]
            intro u1 h1
            have c0 := cell_of_block (h1.block M3.out) 0
            have c1 := cell_of_block (h1.block M3.out) 1
            have c2 := cell_of_block (h1.block M3.out) 2
            have s0 := lt_of_block (h1.block M3.out)
            have hbw := cell_bw
            repeat (go_big_quiet_step (first | (go_at_call 30; exact calls_bw (O.out _)) | (go_at_call 29; exact calls_bw (J.out _))))
            refine wpQuiet_nil ?_
            intro u3 h3
            have f0 := cell_of_block (h3.block M3.out) 0
            have f1 := cell_of_block (h3.block M3.out) 1
            have f2 := cell_of_block (h3.block M3.out) 2
            have ff := free_of_block (h3.block M3.out)
            have A4 := Lib.hid (A3.out.trans (Below.mono h3 A3.out.size))
            have M4 := Lib.hid (h3.block M3.out)
            go_simp
            simp only [Yld]
            go_wp2
            go_roundw
            case rel => exact ⟨j + 1, _, hjl, f.out, by go_num, by rw [p0.out, p1.out]; exact block_setCell _ (block_setCell _ M4.out), (A4.out.setCell (by simp) _).setCell (by simp) _⟩
            case measure => simp [intOf]; omega
          · have EQ := Lib.hid (rcG_bad PP.out (n := j + 1) hjl (rdH_bad ZZ.out (by rw [hwj]; exact fI_out hv hh)))
            have H := Lib.hid (iHoleC (decide_eq_false hh))
            clear hh
            go_wp2_with (first
              | (go_at_call 25; refine (parse64_ok wd fw h hv _).mono ?_; rintro e w9 ⟨rfl, hB⟩; have R9 := Lib.hid (Ab.block hB R2.out); have B9 := Lib.hid (B2.out.trans (Below.mono hB B2.out.size)); have r0 := cell_of_block R9.out 0; have r1 := cell_of_block R9.out 1; have r2 := cell_of_block R9.out 2; have r9 := lt_of_block R9.out; have rf := free_of_block R9.out; clear hB)
              | (go_at_call 28; refine (H.out _).mono ?_; rintro e w4 ⟨rfl, rfl⟩))
            refine bodyPost_ret (by simp [results, Tryd.results11, go_sem,  r0, r1, r2]; try rfl) rfl ?_
            exact ⟨ret_rc (by rw [EQ.out]; rfl), ((B9.out.setCell (by simp) _).setCell (by simp) _).setCell (by simp) _⟩
      · obtain rfl : j = ws.length := by omega
        have dl : decide ((ws.length : Int) < (ws.length : Int)) = false := by simp
        have er := rcG_at PP.out ZZ.out
        have ux := mo_u64 b0 zs zs.length
        have uy := mo_u64 b1 zs zs.length
        rw [hzl] at er ux uy
        generalize mo b0 zs ws.length = X at *
        generalize mo b1 zs ws.length = Y at *
        have V := fun W => iValidCard_any nm X Y (by unfold maxLen; omega) W
        have C := Lib.hid fun W => iCardText_any nm X Y (by unfold maxLen; omega) ux uy W
        have c0 := cell_of_block MM.out 0
        have c1 := cell_of_block MM.out 1
        have c2 := cell_of_block MM.out 2
        have s0 := lt_of_block MM.out
        clear ux uy hzl
        cases hk : cardOk nm Y
        · rw [hk] at V
          replace V := Lib.hid V
          rw [if_neg (by rw [hk]; simp)] at er
          have EQ := Lib.hid er
          clear er hk
          go_wp2_with (first
            | (go_at_call 31; refine (V.out _).mono ?_; rintro e w9 ⟨rfl, hB⟩; have R9 := Lib.hid (Ab.block hB R2.out); have B9 := Lib.hid (B2.out.trans (Below.mono hB B2.out.size)); have r0 := cell_of_block R9.out 0; have r1 := cell_of_block R9.out 1; have r2 := cell_of_block R9.out 2; have r9 := lt_of_block R9.out; have rf := free_of_block R9.out; clear hB c0 c1 c2 s0))
          refine bodyPost_ret (by simp [results, Tryd.results11, go_sem,  r0, r1, r2]; try rfl) rfl ?_
          exact ⟨ret_rc (by rw [EQ.out]; rfl), ((B9.out.setCell (by simp) _).setCell (by simp) _).setCell (by simp) _⟩
        · rw [hk] at V
          replace V := Lib.hid V
          generalize hX : cdT nm X Y = T at *
          by_cases hT : T = s
          · subst hT
            rw [if_pos ⟨hk, rfl⟩] at er
            have n1 : (T.toList != T.toList) = false := by simp
            have EQ := Lib.hid er
            clear er hk
            go_wp2_with (first
              | (go_at_call 31; refine (V.out _).mono ?_; rintro e w8 ⟨rfl, hB⟩; have R8 := Lib.hid (Ab.block hB R2.out); have M8 := Lib.hid (Ab.block hB MM.out); have B8 := Lib.hid (B2.out.trans (Below.mono hB B2.out.size)); have c0 := cell_of_block M8.out 0; have c1 := cell_of_block M8.out 1; have c2 := cell_of_block M8.out 2; have s0 := lt_of_block M8.out; clear hB)
              | (go_at_call 32; refine (C.out _).mono ?_; rintro e w9 ⟨rfl, hB⟩; have R9 := Lib.hid (Ab.block hB R8.out); have M9 := Lib.hid (Ab.block hB M8.out); have B9 := Lib.hid (B8.out.trans (Below.mono hB B8.out.size)); have r0 := cell_of_block R9.out 0; have r1 := cell_of_block R9.out 1; have r2 := cell_of_block R9.out 2; have r9 := lt_of_block R9.out; have rf := free_of_block R9.out; have y0 := cell_of_block M9.out 0; have y1 := cell_of_block M9.out 1; have y2 := cell_of_block M9.out 2; have y9 := lt_of_block M9.out; clear hB))
            refine bodyPost_ret (by simp [results, Tryd.results11, go_sem,  r0, r1, r2]; try rfl) rfl ?_
            exact ⟨ret_rc (by rw [EQ.out]; rfl), ((B9.out.setCell (by simp) _).setCell (by simp) _).setCell (by simp) _⟩
          · rw [if_neg (fun q => hT q.2)] at er
            have n1 := str_neC hT
            have EQ := Lib.hid er
            clear er hk
            go_wp2_with (first
              | (go_at_call 31; refine (V.out _).mono ?_; rintro e w8 ⟨rfl, hB⟩; have R8 := Lib.hid (Ab.block hB R2.out); have M8 := Lib.hid (Ab.block hB MM.out); have B8 := Lib.hid (B2.out.trans (Below.mono hB B2.out.size)); have c0 := cell_of_block M8.out 0; have c1 := cell_of_block M8.out 1; have c2 := cell_of_block M8.out 2; have s0 := lt_of_block M8.out; clear hB)
              | (go_at_call 32; refine (C.out _).mono ?_; rintro e w9 ⟨rfl, hB⟩; have R9 := Lib.hid (Ab.block hB R8.out); have B9 := Lib.hid (B8.out.trans (Below.mono hB B8.out.size)); have r0 := cell_of_block R9.out 0; have r1 := cell_of_block R9.out 1; have r2 := cell_of_block R9.out 2; have r9 := lt_of_block R9.out; have rf := free_of_block R9.out; clear hB))
            refine bodyPost_ret (by simp [results, Tryd.results11, go_sem,  r0, r1, r2]; try rfl) rfl ?_
            exact ⟨ret_rc (by rw [EQ.out]; rfl), ((B9.out.setCell (by simp) _).setCell (by simp) _).setCell (by simp) _⟩
end Go.Proofs.YtpkpjkceiikakaaDoor

namespace Go.Proofs.YtpkpjkceiikakaaDoor
open Go.ChangeShapes Go.WideShapes Go.ChangeAt Go.RowKit
attribute [local go_sem] Oper.semAt_some

theorem own_pushK {B : Nat} {L : List Cd} {s : ByteArray} {a b : Int} {v : Value} {w : World} (h : w.ownsRow B 33 3 v (L.length + 1) (flatC L ++ [.string s, .int .u64 a, .int .u64 b])) : OwnCards B (L ++ [cdOf (s, a, b)]) v w := by
  unfold OwnCards; rw [flatC_app, List.length_append]; exact h
theorem new3K (w : World) (x0 x1 x2 : Value) (t : TypeId) : ∀ j u, [x0, x1, x2][j]? = some u → (w.alloc (.cells #[x0, x1, x2] t)).cell? ((⟨w.heap.size, 0, none⟩ : Addr).add j) = some u := by
  intro j u h
  match j, h with
  | 0, h => simp at h; subst h; simp [Addr.add]
  | 1, h => simp at h; subst h; simp [Addr.add]
  | 2, h => simp at h; subst h; simp [Addr.add]
theorem lnB_len : ∀ l acc : List UInt8, (lnB acc l).length ≤ acc.length + l.length
  | [], acc => by
    rw [lnB]
    split
    · simp
    · rename_i h
      have : 0 < acc.length := List.length_pos_iff.2 h
      first | (simp; done) | (simp; omega)
  | x :: xs, acc => by
    rw [lnB]
    split
    · have := lnB_len xs []
      simp at this ⊢; omega
    · have := lnB_len xs (acc ++ [x])
      simp at this ⊢; omega
theorem lnB_fit : ∀ l acc : List UInt8, ∀ p ∈ lnB acc l, p.length ≤ acc.length + l.length
  | [], acc, p, hp => by
    rw [lnB] at hp
    split at hp
    · cases hp
    · rw [List.mem_singleton.1 hp]; simp
  | x :: xs, acc, p, hp => by
    rw [lnB] at hp
    split at hp
    · rcases List.mem_cons.1 hp with rfl | hp
      · first | (simp; done) | (simp; omega)
      · have := lnB_fit xs [] p hp
        simp at this ⊢; omega
    · have := lnB_fit xs (acc ++ [x]) p hp
      simp at this ⊢; omega
theorem lns_len (s : ByteArray) : (lns s).length ≤ s.size := by
  have := lnB_len s.data.toList []
  unfold lns
  rw [List.length_map]
  simpa using this
theorem lns_fit {s p : ByteArray} (h : p ∈ lns s) : p.size ≤ s.size := by
  unfold lns at h
  obtain ⟨l, hl, rfl⟩ := List.mem_map.1 h
  have := lnB_fit s.data.toList [] l hl
  rw [show (mkS l).size = l.length from List.size_toArray]
  simpa using this
theorem trimB_le (s : ByteArray) : (trimB s).size ≤ s.size := by
  unfold trimB trimL Lib.trimSuffix
  rw [show ∀ l, (mkS l).size = l.length from fun l => List.size_toArray]
  have : s.data.toList.length = s.size := Array.length_toList
  split
  · rw [List.length_take]; omega
  · omega
theorem rdK_fits {f : ByteArray → Option Int} {ts : List ByteArray} {ds : List Cd} (h : rdK f ts = some ds) (i : Nat) (hi : i < ds.length) : (cdAt ds i).fits := by
  have := rdK_at h i hi
  have hk := this.1
  unfold cardOk at hk
  rw [Bool.and_eq_true] at hk
  have hn := nameOk_size hk.1
  exact ⟨by unfold maxLen; omega, this.2.2⟩
theorem new3N (w : World) (n : Nat) (hn : n = w.heap.size) (x0 x1 x2 : Value) (t : TypeId) : ∀ j u, [x0, x1, x2][j]? = some u → (w.alloc (.cells #[x0, x1, x2] t)).cell? ((⟨n, 0, none⟩ : Addr).add j) = some u := by
  subst hn
  exact new3K w x0 x1 x2 t
/-- The answer of ReadDeck. -/
def RkR (o : Option (List Cd)) (w : World) (e : Ending) (w' : World) : Prop := ∃ v, e = .returned (.tuple #[v, .int .i64 (if o.isSome then 0 else 5)]) ∧ OwnCards w.heap.size (o.getD []) v w' ∧ Below w.heap.size w w'
theorem ownK_nil (w : World) (B : Nat) : OwnCards B [] (.slice none 0 0) w := World.ownsRow_nil w B _ 3

theorem iReadCard_no (s : ByteArray) (hs : s.size ≤ 1048576) (h : rcG fI s = none) (w : World) (hP : PE w) :
    Calls Tryd.prog 11 #[.string s] w fun e w' => e = .returned (.tuple #[.agg #[.string ⟨#[]⟩, .int .u64 0, .int .u64 0], .int .i64 5]) ∧ Below w.heap.size w w' := by
  have c := iReadCard_any s hs w hP
  rw [h] at c
  exact c
theorem iReadCard_yes (s : ByteArray) (hs : s.size ≤ 1048576) (nm : ByteArray) (a b : Int) (h : rcG fI s = some (nm, a, b)) (w : World) (hP : PE w) :
    Calls Tryd.prog 11 #[.string s] w fun e w' => e = .returned (.tuple #[.agg #[.string nm, .int .u64 a, .int .u64 b], .int .i64 0]) ∧ Below w.heap.size w w' := by
  have c := iReadCard_any s hs w hP
  rw [h] at c
  exact c
theorem block_four (w : World) (o p q r : Obj) : ((((w.alloc o).alloc p).alloc q).alloc r).heap[w.heap.size]? = some o ∧ ((((w.alloc o).alloc p).alloc q).alloc r).heap[w.heap.size + 1]? = some p ∧ ((((w.alloc o).alloc p).alloc q).alloc r).heap[w.heap.size + 1 + 1]? = some q ∧ ((((w.alloc o).alloc p).alloc q).alloc r).heap[w.heap.size + 1 + 1 + 1]? = some r := by
  have s1 : (w.alloc o).heap.size = w.heap.size + 1 := by simp
  have s2 : ((w.alloc o).alloc p).heap.size = w.heap.size + 1 + 1 := by simp
  have s3 : (((w.alloc o).alloc p).alloc q).heap.size = w.heap.size + 1 + 1 + 1 := by simp
  have a3 : ∀ k, k < w.heap.size + 1 + 1 + 1 → ((((w.alloc o).alloc p).alloc q).alloc r).heap[k]? = (((w.alloc o).alloc p).alloc q).heap[k]? := fun k hk => Below.heap_alloc _ _ _ (by rw [s3]; exact hk)
  have a2 : ∀ k, k < w.heap.size + 1 + 1 → (((w.alloc o).alloc p).alloc q).heap[k]? = ((w.alloc o).alloc p).heap[k]? := fun k hk => Below.heap_alloc _ _ _ (by rw [s2]; exact hk)
  have a1 : ∀ k, k < w.heap.size + 1 → ((w.alloc o).alloc p).heap[k]? = (w.alloc o).heap[k]? := fun k hk => Below.heap_alloc _ _ _ (by rw [s1]; exact hk)
  refine ⟨?_, ?_, ?_, ?_⟩
  · rw [a3 _ (by omega), a2 _ (by omega), a1 _ (by omega)]; exact block_alloc _ _
  · rw [a3 _ (by omega), a2 _ (by omega), ← s1]; exact block_alloc _ _
  · rw [a3 _ (by omega), ← s2]; exact block_alloc _ _
  · rw [← s3]; exact block_alloc _ _

set_option maxRecDepth 100000 in
set_option maxHeartbeats 6400000 in
theorem iReadDeck_any (s : ByteArray) (hs : s.size ≤ 1048576) (w : World) (hP : PE w) :
    Calls Tryd.prog 14 #[.string s] w (RkR (rkI s) w) := by
  obtain ⟨i0, hi, hz0, hz1, hz2⟩ := info_parts info_card
  have P0 := Lib.hid hP
  clear hP
  refine (callsIn_wide (n := 0)).1 (callsIn_of_wp_marks Tryd.func14 rfl trivial ?_ rfl)
  simp only [Tryd.ntmps14, List.size_toArray, List.length_cons, List.length_nil, Nat.reduceAdd, Nat.reduceSub, Array.replicate_succ, Array.replicate_zero, List.push_toArray, List.append_toArray, List.nil_append, List.cons_append]
  refine wpIn_wide.2 ?_
  go_wp2_with (go_at_call 35; refine (lines_any s _).mono ?_; rintro e w1 ⟨rfl, hw⟩; have HW := Lib.hid hw; clear hw)
  have sz1 : w1.heap.size = w.heap.size + 4 := by rw [← HW.out]; simp
  obtain ⟨q0, q1, q2, q3⟩ := block_four w (.cells #[.slice none 0 0] 37) (.cells #[.int .i64 0] 2) (.cells #[.slice none 0 0] 37) (.cells #[.string s] 9)
  rw [HW.out] at q0 q1 q2 q3
  have c0 := cell_of_block q0 0
  have c1 := cell_of_block q1 0
  have c2 := cell_of_block q2 0
  have c3 := cell_of_block q3 0
  have f0 := free_of_block q0 0
  have f1 := free_of_block q1 0
  have f2 := free_of_block q2 0
  have f3 := free_of_block q3 0
  clear q0 q1 q2 q3
  have B0 : Below w.heap.size w w1 := by rw [← HW.out]; exact (by repeat' (first | (with_reducible exact Below.refl _ _) | (with_reducible assumption) | (with_reducible refine below_drewN ?_ _) | (with_reducible refine Below.drew ?_) | (with_reducible refine below_new ?_ _) | (with_reducible refine below_next ?_ (by with_reducible assumption)) | (with_reducible refine Below.setCell ?_ ?_ _) | go_size))
  clear HW
  have hq := lines_by _ s (by unfold maxLen; omega) w1 (by omega) c3 f3
  have hfit := fun x (hx : x ∈ lns s) => Nat.le_trans (Nat.le_trans (trimB_le x) (lns_fit hx)) hs
  have hlen := lns_len s
  refine wp_rangeO rfl (enters_of Tryd.func57 (by kernel_rfl) rfl) hq (fun _ => rfl) (fun h k => ⟨Nat.le_trans h.1 k.1, k.2.trans h.2⟩)
    (fun A B hAB => ⟨hAB.size, hAB.block _ (by omega)⟩) (fun A B hAB k hk hk2 => hAB.block k (by omega) hk2)
    (fun pre W => ∃ ds v, rdK fI (pre.map trimB) = some ds ∧ W.cell? ⟨w.heap.size + 1 + 1, 0, none⟩ = some v ∧ OwnCards (w1.heap.size + 2) ds v W ∧ W.cell? ⟨w.heap.size, 0, none⟩ = some (.slice none 0 0) ∧ W.cell? ⟨w.heap.size + 1, 0, none⟩ = some (.int .i64 0) ∧ W.frozen? ⟨w.heap.size, 0, none⟩ = false ∧ W.frozen? ⟨w.heap.size + 1, 0, none⟩ = false ∧ W.frozen? ⟨w.heap.size + 1 + 1, 0, none⟩ = false ∧ w1.heap.size ≤ W.heap.size ∧ Below w.heap.size w W)
    (fun c pre W => (c = .ret ∧ rdK fI (pre.map trimB) = none) ∧ W.cell? ⟨w.heap.size, 0, none⟩ = some (.slice none 0 0) ∧ W.cell? ⟨w.heap.size + 1, 0, none⟩ = some (.int .i64 5) ∧ w1.heap.size ≤ W.heap.size ∧ Below w.heap.size w W)
    ?i1 ?i2 ?i3 ?i4 ?i5 (fun _ _ _ => trivial) ⟨[], _, rfl, c2, ownK_nil _ _, c0, c1, f0, f1, f2, Nat.le_refl _, B0⟩
    (fun x => { tmps := #[.string s, undef, .pointer (some ⟨w.heap.size, 0, none⟩), .pointer (some ⟨w.heap.size + 1, 0, none⟩), .pointer (some ⟨w.heap.size + 1 + 1, 0, none⟩), .string x, undef, undef, .string s, .func (.func 57) #[] #[.pointer (some ⟨w.heap.size + 1 + 1 + 1, 0, none⟩)], .string x, undef, undef, undef, undef, undef, undef, undef, undef, undef, undef, undef, undef, undef, undef, undef, undef, undef, undef, undef, undef, undef, undef, undef], defers := [] }) ?assign ?body ?done ?stop
  case i1 =>
    rintro pre A B ⟨ds, v, h1, h2, h3, h4, h5, h6, h7, h8, h9, h10⟩ hs
    exact ⟨ds, v, h1, (cell_same (hs.block _ (by omega) (by omega))).trans h2, ownCards_oth h3 hs (by omega), (cell_same (hs.block _ (by omega) (by omega))).trans h4, (cell_same (hs.block _ (by omega) (by omega))).trans h5, (frozen_same (hs.block _ (by omega) (by omega))).trans h6, (frozen_same (hs.block _ (by omega) (by omega))).trans h7, (frozen_same (hs.block _ (by omega) (by omega))).trans h8, Nat.le_trans h9 hs.size, h10.trans (Below.mono (hs.below (by omega)) (by omega))⟩
  case i2 =>
    rintro c pre A B ⟨h1, h4, h5, h9, h10⟩ hs
    exact ⟨h1, (cell_same (hs.block _ (by omega) (by omega))).trans h4, (cell_same (hs.block _ (by omega) (by omega))).trans h5, Nat.le_trans h9 hs.size, h10.trans (Below.mono (hs.below (by omega)) (by omega))⟩
  case i3 =>
    rintro pre A o hA ⟨ds, v, h1, h2, h3, h4, h5, h6, h7, h8, h9, h10⟩
    have hs := below_new (Below.refl A.heap.size A) o
    exact ⟨ds, v, h1, (hs.cell (p := ⟨_, 0, none⟩) (by simp; omega)).trans h2, World.ownsRow.alloc h3 _, (hs.cell (p := ⟨_, 0, none⟩) (by simp; omega)).trans h4, (hs.cell (p := ⟨_, 0, none⟩) (by simp; omega)).trans h5, (hs.frozen (p := ⟨_, 0, none⟩) (by simp; omega)).trans h6, (hs.frozen (p := ⟨_, 0, none⟩) (by simp; omega)).trans h7, (hs.frozen (p := ⟨_, 0, none⟩) (by simp; omega)).trans h8, Nat.le_trans h9 hs.size, h10.trans (hs.mono (by omega))⟩
  case i4 =>
    rintro pre A k o o' hk hl ho ⟨ds, v, h1, h2, h3, h4, h5, h6, h7, h8, h9, h10⟩
    have hs : Below w1.heap.size A (A.putObj k o') := below_put hk
    exact ⟨ds, v, h1, (hs.cell (p := ⟨_, 0, none⟩) (by simp; omega)).trans h2, ownsRow_putObj h3 o' hl ho, (hs.cell (p := ⟨_, 0, none⟩) (by simp; omega)).trans h4, (hs.cell (p := ⟨_, 0, none⟩) (by simp; omega)).trans h5, (hs.frozen (p := ⟨_, 0, none⟩) (by simp; omega)).trans h6, (hs.frozen (p := ⟨_, 0, none⟩) (by simp; omega)).trans h7, (hs.frozen (p := ⟨_, 0, none⟩) (by simp; omega)).trans h8, by simpa using h9, h10.trans (hs.mono (by omega))⟩
  case i5 =>
    rintro c pre A k o o' hk hl ho ⟨h1, h4, h5, h9, h10⟩
    have hs : Below w1.heap.size A (A.putObj k o') := below_put hk
    exact ⟨h1, (hs.cell (p := ⟨_, 0, none⟩) (by simp; omega)).trans h4, (hs.cell (p := ⟨_, 0, none⟩) (by simp; omega)).trans h5, by simpa using h9, h10.trans (hs.mono (by omega))⟩
  case assign =>
    intro l x W K hK
    gi_wp2
    exact hK
  case body =>
    rintro l pre x W ⟨ds, v, h1, h2, h3, h4, h5, h6, h7, h8, h9, h10⟩ hask hlt
    have hx := hask.subset (show x ∈ pre ++ [x] by simp)
    have fx := hfit x hx
    have T := Lib.hid fun W => trim_any x (by have := lns_fit hx; unfold maxLen; omega) W
    have pl : pre.length < 1048577 := by
      have := hask.length_le
      simp at this
      omega
    have em : (pre ++ [x]).map trimB = pre.map trimB ++ [trimB x] := by rw [List.map_append]; rfl
    have dl := rdK_len h1
    rw [List.length_map] at dl
    have C := fun h W hP => iReadCard_no (trimB x) fx h W hP
    have D := fun nm a b h W hP => iReadCard_yes (trimB x) fx nm a b h W hP
    have PW := Lib.hid (P0.out.kept (Below.refl _ _) h10 (Nat.le_refl _))
    have HH := Lib.hid h1
    have OO := Lib.hid h3
    have BB := Lib.hid h10
    have EM := Lib.hid em
    clear hq hask hfit hx em h1 h3 h10
    generalize trimB x = y at *
    cases hr : rcG fI y with
    | none =>
      replace C := Lib.hid (C hr)
      clear D
      have EQ := Lib.hid (show rdK fI (List.map trimB (pre ++ [x])) = none by rw [EM.out]; exact rdK_bad hr [])
      gi_wp2_with (first
        | (refine ⟨trivial, rfl, ?_⟩; gi_at_call 36; refine (CallsIn.inRound l (callsIn_wide.2 (T.out _))).mono ?_; rintro e w2 ⟨rfl, rfl⟩)
        | (refine ⟨trivial, rfl, ?_⟩; gi_at_call 11; refine (CallsIn.inRound l (callsIn_wide.2 (C.out _ PW.out))).mono ?_; rintro e w3 ⟨rfl, hB⟩; have hB3 := below_new hB (.cells #[.string ⟨#[]⟩, .int .u64 0, .int .u64 0] 33); have B3 := Lib.hid hB3; have k0 := (hB3.cell (p := ⟨w.heap.size, 0, none⟩) (by simp; omega)).trans h4; have k1 := (hB3.cell (p := ⟨w.heap.size + 1, 0, none⟩) (by simp; omega)).trans h5; have z0 := (hB3.frozen (p := ⟨w.heap.size, 0, none⟩) (by simp; omega)).trans h6; have z1 := (hB3.frozen (p := ⟨w.heap.size + 1, 0, none⟩) (by simp; omega)).trans h7; clear hB hB3))
      generalize w3.alloc (.cells #[.string ⟨#[]⟩, .int .u64 0, .int .u64 0] 33) = w4 at *
      have s4 := B3.out.size
      refine ⟨((Kept.of B3.out hlt).trans (Kept.set w4 0 _ (by omega))).trans (Kept.set _ 0 _ (by omega)), ⟨rfl, EQ.out⟩, ?_, ?_, by simp [World.setCell]; omega, ((BB.out.trans (B3.out.mono BB.out.size)).setCell (p := ⟨w.heap.size, 0, none⟩) (Nat.le_refl _) _).setCell (p := ⟨w.heap.size + 1, 0, none⟩) (by simp) _⟩
      · rw [World.cell?_setCell_other (h := by simp)]
        exact World.cell?_setCell_same' _ _ _ (by rw [k0]; rfl)
      · exact World.cell?_setCell_same' _ _ _ (by rw [World.cell?_setCell_other (h := by simp), k1]; rfl)
    | some c =>
      obtain ⟨nm, a, b⟩ := c
      replace D := Lib.hid (D nm a b hr)
      clear C
      have EQ := Lib.hid (show rdK fI (List.map trimB (pre ++ [x])) = some (ds ++ [cdOf (nm, a, b)]) by rw [EM.out]; exact rdK_snoc HH.out hr)
      gi_wp2_with (first
        | (refine ⟨trivial, rfl, ?_⟩; gi_at_call 36; refine (CallsIn.inRound l (callsIn_wide.2 (T.out _))).mono ?_; rintro e w2 ⟨rfl, rfl⟩)
        | (refine ⟨trivial, rfl, ?_⟩; gi_at_call 11; refine (CallsIn.inRound l (callsIn_wide.2 (D.out _ PW.out))).mono ?_; rintro e w3 ⟨rfl, hB⟩; go_loud (have O3 := Lib.hid (World.ownsRow.alloc (ownCards_kept OO.out hB) (.cells #[.string nm, .int .u64 a, .int .u64 b] 33))); go_loud (have B3 := Lib.hid hB); go_loud (have k2 := (hB.cell (p := ⟨w.heap.size + 1 + 1, 0, none⟩) (by first | (simp; done) | (simp; omega))).trans h2); go_loud (have z2 := (hB.frozen (p := ⟨w.heap.size + 1 + 1, 0, none⟩) (by first | (simp; done) | (simp; omega))).trans h8); go_loud (have s3 := hB.size); go_loud (have y2 : w.heap.size + 1 + 1 < w3.heap.size := by omega); clear hB)
        | (gi_at_builtin; go_loud (refine wpListIn_append_own _ rfl _ _ 37 rfl (w1.heap.size + 2) 33 i0 (.agg #[.string ByteArray.empty, .int .u64 0, .int .u64 0]) 3 32 Tryd.underlying37 hi hz0 hz1 hz2 rfl (by decide) _ _ _ rfl (World.ownsRow.alloc O3.out _) ⟨w3.heap.size + 1, 0, none⟩ 1 1 [.string nm, .int .u64 a, .int .u64 b] rfl rfl (new3N _ _ (by simp) _ _ _ _) (fun x hx => by simp at hx; rcases hx with rfl | rfl | rfl <;> rfl) (by unfold maxLen; omega) (by omega) (by first | (simp; done) | (simp; omega)) ?_; intro v' w5 hown hgrow _; have P0 := own_pushK hown; obtain ⟨av, cv, rfl, _⟩ := ownCards_in P0; have P := Lib.hid P0; clear P0; have G := Lib.hid (Below.grown (((Below.mono B3.out (show w1.heap.size + 2 ≤ _ by omega)).alloc (by omega) (.cells #[.string nm, .int .u64 a, .int .u64 b] 33)).alloc (by first | (simp; done) | (simp; omega)) (.cells #[.string nm, .int .u64 a, .int .u64 b] 33)) hgrow (by first | (simp; done) | (simp; omega)) (fun j hj => (World.ownsRow.lt OO.out j hj).1)); have k5 := (G.out.cell (p := ⟨w.heap.size + 1 + 1, 0, none⟩) (by first | (simp; done) | (simp; omega))).trans h2; have z5 := (G.out.frozen (p := ⟨w.heap.size + 1 + 1, 0, none⟩) (by first | (simp; done) | (simp; omega))).trans h8; clear hown hgrow)))
      have hL : (ds ++ [cdOf (nm, a, b)]).length = pre.length + 1 := by simp [dl]
      have PP : OwnCards (w1.heap.size + 2) (ds ++ [cdOf (nm, a, b)]) (.slice av (pre.length + 1) cv) w5 := hL ▸ P.out
      have bk : ∀ k, k < w1.heap.size + 2 → k ≠ w.heap.size + 1 + 1 → (w5.setCell ⟨w.heap.size + 1 + 1, 0, none⟩ (.slice av (pre.length + 1) cv)).heap[k]? = w2.heap[k]? := fun k hk hne => (Below.heap_setCell _ _ _ _ (by simp; omega)).trans (G.out.block k hk)
      have gs := G.out.size
      refine ⟨⟨bk _ (by omega) (by omega), bk _ (by omega) (by omega)⟩, ⟨by simp [World.setCell]; omega, bk _ (by omega) (by omega)⟩, _, _, EQ.out, World.cell?_setCell_same' _ _ _ (by rw [k5]; rfl), ownsRow_setCell_below PP (by simp; omega) _, (cell_same (bk _ (by omega) (by omega))).trans h4, (cell_same (bk _ (by omega) (by omega))).trans h5, (frozen_same (bk _ (by omega) (by omega))).trans h6, (frozen_same (bk _ (by omega) (by omega))).trans h7, by rw [World.frozen?_setCell]; exact z5, by simp [World.setCell]; omega, (BB.out.trans (G.out.mono (by omega))).setCell (p := ⟨w.heap.size + 1 + 1, 0, none⟩) (by simp; omega) _⟩
  case done =>
    rintro xs W rfl ⟨ds, v, h1, h2, h3, h4, h5, h6, h7, h8, h9, h10⟩ hK
    obtain ⟨ad, c, rfl, hC⟩ := ownCards_in h3
    have hC := cardsIn_of hC (rdK_fits h1)
    have V := fun W h => iDeckOk_any ad ds c W h
    have X := Lib.hid fun W h => iDeckText_any ad ds c W h
    have er : rkI s = if deckOk ds = true ∧ dkT ds = s then some ds else none := by
      unfold rkI tl
      rw [h1]
    have HC := Lib.hid hC
    have OO := Lib.hid h3
    have BB := Lib.hid h10
    have lt1 : w1.heap.size < W.heap.size := (Array.getElem?_eq_some_iff.1 hK).1
    clear hq hfit hC h3 h10 h1
    cases hk : deckOk ds
    · rw [hk] at V
      rw [if_neg (by rw [hk]; simp)] at er
      have EQ := Lib.hid er
      replace V := Lib.hid V
      clear er hk
      go_wp2_with (first
        | (go_at_call 37; refine (V.out _ HC.out).mono ?_; rintro e w3 ⟨rfl, hB⟩; have B3 := Lib.hid hB; have k0 := (hB.cell (p := ⟨w.heap.size, 0, none⟩) (by first | (simp; done) | (simp; omega))).trans h4; have k1 := (hB.cell (p := ⟨w.heap.size + 1, 0, none⟩) (by first | (simp; done) | (simp; omega))).trans h5; have z0 := (hB.frozen (p := ⟨w.heap.size, 0, none⟩) (by first | (simp; done) | (simp; omega))).trans h6; have z1 := (hB.frozen (p := ⟨w.heap.size + 1, 0, none⟩) (by first | (simp; done) | (simp; omega))).trans h7; clear hB))
      have BL := B3
      have c5 : ((w3.setCell ⟨w.heap.size, 0, none⟩ (.slice none 0 0)).setCell ⟨w.heap.size + 1, 0, none⟩ (.int .i64 5)).cell? ⟨w.heap.size, 0, none⟩ = some (.slice none 0 0) := by
        rw [World.cell?_setCell_other (h := by simp)]
        exact World.cell?_setCell_same' _ _ _ (by rw [k0]; rfl)
      have c6 : ((w3.setCell ⟨w.heap.size, 0, none⟩ (.slice none 0 0)).setCell ⟨w.heap.size + 1, 0, none⟩ (.int .i64 5)).cell? ⟨w.heap.size + 1, 0, none⟩ = some (.int .i64 5) := World.cell?_setCell_same' _ _ _ (by rw [World.cell?_setCell_other (h := by simp), k1]; rfl)
      have k9 : ((w3.setCell ⟨w.heap.size, 0, none⟩ (.slice none 0 0)).setCell ⟨w.heap.size + 1, 0, none⟩ (.int .i64 5)).heap[w.heap.size + 4]? = some (.deferred (some [])) := (Below.heap_setCell _ _ _ _ (by simp)).trans ((Below.heap_setCell _ _ _ _ (by simp)).trans ((BL.out.block _ (by omega)).trans (sz1 ▸ hK)))
      have BF : Below w.heap.size w ((w3.setCell ⟨w.heap.size, 0, none⟩ (.slice none 0 0)).setCell ⟨w.heap.size + 1, 0, none⟩ (.int .i64 5)) := ((BB.out.trans (BL.out.mono BB.out.size)).setCell (p := ⟨w.heap.size, 0, none⟩) (Nat.le_refl _) _).setCell (p := ⟨w.heap.size + 1, 0, none⟩) (by simp) _
      generalize (w3.setCell ⟨w.heap.size, 0, none⟩ (.slice none 0 0)).setCell ⟨w.heap.size + 1, 0, none⟩ (.int .i64 5) = w9 at *
      refine ⟨by simp, .inl ⟨_, _, rfl, run_takeDeferred k9, ?_⟩⟩
      have c7 := (cell_same (o := 0) (World.putObj_heap_other (w := w9) (o := .deferred none) (show w.heap.size ≠ w.heap.size + 4 by omega))).trans c5
      have c8 := (cell_same (o := 0) (World.putObj_heap_other (w := w9) (o := .deferred none) (show w.heap.size + 1 ≠ w.heap.size + 4 by omega))).trans c6
      refine ⟨.tuple #[(.slice none 0 0), .int .i64 5], ?_, (.slice none 0 0), by rw [EQ.out]; rfl, ?_, BF.trans (below_put (by omega))⟩
      · simp [results, Tryd.results14, go_sem, c7, c8]
      · rw [EQ.out]; exact ownK_nil _ _
    · rw [hk] at V
      replace V := Lib.hid V
      generalize hT0 : dkT ds = T at *
      by_cases hT : T = s
      · subst hT
        rw [if_pos ⟨hk, rfl⟩] at er
        have n1 : (T.toList == T.toList) = true := by simp
        have EQ := Lib.hid er
        clear er hk hT0
        go_wp2_with (first
          | (go_at_call 37; refine (V.out _ HC.out).mono ?_; rintro e w3 ⟨rfl, hB⟩; have B3 := Lib.hid hB; have H3 := Lib.hid (cardsIn_below HC.out hB); have k2 := (hB.cell (p := ⟨w.heap.size + 1 + 1, 0, none⟩) (by first | (simp; done) | (simp; omega))).trans h2; have s3 := hB.size; have y2 : w.heap.size + 1 + 1 < w3.heap.size := (by omega); clear hB)
          | (go_at_call 38; refine (X.out _ H3.out).mono ?_; rintro e w4 ⟨rfl, hB⟩; have BL := Lib.hid (B3.out.trans (Below.mono hB B3.out.size)); have k2 := (BL.out.cell (p := ⟨w.heap.size + 1 + 1, 0, none⟩) (by first | (simp; done) | (simp; omega))).trans h2; have s4 := BL.out.size; have y2 : w.heap.size + 1 + 1 < w4.heap.size := (by omega); have k0 := (BL.out.cell (p := ⟨w.heap.size, 0, none⟩) (by first | (simp; done) | (simp; omega))).trans h4; have k1 := (BL.out.cell (p := ⟨w.heap.size + 1, 0, none⟩) (by first | (simp; done) | (simp; omega))).trans h5; have z0 := (BL.out.frozen (p := ⟨w.heap.size, 0, none⟩) (by first | (simp; done) | (simp; omega))).trans h6; have z1 := (BL.out.frozen (p := ⟨w.heap.size + 1, 0, none⟩) (by first | (simp; done) | (simp; omega))).trans h7; clear hB))
        have c5 : ((w4.setCell ⟨w.heap.size, 0, none⟩ (.slice ad ds.length c)).setCell ⟨w.heap.size + 1, 0, none⟩ (.int .i64 0)).cell? ⟨w.heap.size, 0, none⟩ = some (.slice ad ds.length c) := by
          rw [World.cell?_setCell_other (h := by simp)]
          exact World.cell?_setCell_same' _ _ _ (by rw [k0]; rfl)
        have c6 : ((w4.setCell ⟨w.heap.size, 0, none⟩ (.slice ad ds.length c)).setCell ⟨w.heap.size + 1, 0, none⟩ (.int .i64 0)).cell? ⟨w.heap.size + 1, 0, none⟩ = some (.int .i64 0) := World.cell?_setCell_same' _ _ _ (by rw [World.cell?_setCell_other (h := by simp), k1]; rfl)
        have k9 : ((w4.setCell ⟨w.heap.size, 0, none⟩ (.slice ad ds.length c)).setCell ⟨w.heap.size + 1, 0, none⟩ (.int .i64 0)).heap[w.heap.size + 4]? = some (.deferred (some [])) := (Below.heap_setCell _ _ _ _ (by simp)).trans ((Below.heap_setCell _ _ _ _ (by simp)).trans ((BL.out.block _ (by omega)).trans (sz1 ▸ hK)))
        have BF : Below w.heap.size w ((w4.setCell ⟨w.heap.size, 0, none⟩ (.slice ad ds.length c)).setCell ⟨w.heap.size + 1, 0, none⟩ (.int .i64 0)) := ((BB.out.trans (BL.out.mono BB.out.size)).setCell (p := ⟨w.heap.size, 0, none⟩) (Nat.le_refl _) _).setCell (p := ⟨w.heap.size + 1, 0, none⟩) (by simp) _
        have OF : OwnCards (w1.heap.size + 2) ds (.slice ad ds.length c) ((w4.setCell ⟨w.heap.size, 0, none⟩ (.slice ad ds.length c)).setCell ⟨w.heap.size + 1, 0, none⟩ (.int .i64 0)) := ownsRow_setCell_below (ownsRow_setCell_below (ownCards_kept OO.out BL.out) (by simp; omega) _) (by simp; omega) _
        generalize (w4.setCell ⟨w.heap.size, 0, none⟩ (.slice ad ds.length c)).setCell ⟨w.heap.size + 1, 0, none⟩ (.int .i64 0) = w9 at *
        refine ⟨by simp, .inl ⟨_, _, rfl, run_takeDeferred k9, ?_⟩⟩
        have c7 := (cell_same (o := 0) (World.putObj_heap_other (w := w9) (o := .deferred none) (show w.heap.size ≠ w.heap.size + 4 by omega))).trans c5
        have c8 := (cell_same (o := 0) (World.putObj_heap_other (w := w9) (o := .deferred none) (show w.heap.size + 1 ≠ w.heap.size + 4 by omega))).trans c6
        refine ⟨.tuple #[(.slice ad ds.length c), .int .i64 0], ?_, (.slice ad ds.length c), by rw [EQ.out]; rfl, ?_, BF.trans (below_put (by omega))⟩
        · simp [results, Tryd.results14, go_sem, c7, c8]
        · rw [EQ.out]; exact ownCards_weaken (ownsRow_putObj OF _ k9 rfl) (by omega)
      · rw [if_neg (fun q => hT q.2)] at er
        have n1 := str_neC hT
        have EQ := Lib.hid er
        clear er hk hT0
        go_wp2_with (first
          | (go_at_call 37; refine (V.out _ HC.out).mono ?_; rintro e w3 ⟨rfl, hB⟩; have B3 := Lib.hid hB; have H3 := Lib.hid (cardsIn_below HC.out hB); have k2 := (hB.cell (p := ⟨w.heap.size + 1 + 1, 0, none⟩) (by first | (simp; done) | (simp; omega))).trans h2; have s3 := hB.size; have y2 : w.heap.size + 1 + 1 < w3.heap.size := (by omega); clear hB)
          | (go_at_call 38; refine (X.out _ H3.out).mono ?_; rintro e w4 ⟨rfl, hB⟩; have BL := Lib.hid (B3.out.trans (Below.mono hB B3.out.size)); have k0 := (BL.out.cell (p := ⟨w.heap.size, 0, none⟩) (by first | (simp; done) | (simp; omega))).trans h4; have k1 := (BL.out.cell (p := ⟨w.heap.size + 1, 0, none⟩) (by first | (simp; done) | (simp; omega))).trans h5; have z0 := (BL.out.frozen (p := ⟨w.heap.size, 0, none⟩) (by first | (simp; done) | (simp; omega))).trans h6; have z1 := (BL.out.frozen (p := ⟨w.heap.size + 1, 0, none⟩) (by first | (simp; done) | (simp; omega))).trans h7; clear hB))
        have c5 : ((w4.setCell ⟨w.heap.size, 0, none⟩ (.slice none 0 0)).setCell ⟨w.heap.size + 1, 0, none⟩ (.int .i64 5)).cell? ⟨w.heap.size, 0, none⟩ = some (.slice none 0 0) := by
          rw [World.cell?_setCell_other (h := by simp)]
          exact World.cell?_setCell_same' _ _ _ (by rw [k0]; rfl)
        have c6 : ((w4.setCell ⟨w.heap.size, 0, none⟩ (.slice none 0 0)).setCell ⟨w.heap.size + 1, 0, none⟩ (.int .i64 5)).cell? ⟨w.heap.size + 1, 0, none⟩ = some (.int .i64 5) := World.cell?_setCell_same' _ _ _ (by rw [World.cell?_setCell_other (h := by simp), k1]; rfl)
        have k9 : ((w4.setCell ⟨w.heap.size, 0, none⟩ (.slice none 0 0)).setCell ⟨w.heap.size + 1, 0, none⟩ (.int .i64 5)).heap[w.heap.size + 4]? = some (.deferred (some [])) := (Below.heap_setCell _ _ _ _ (by simp)).trans ((Below.heap_setCell _ _ _ _ (by simp)).trans ((BL.out.block _ (by omega)).trans (sz1 ▸ hK)))
        have BF : Below w.heap.size w ((w4.setCell ⟨w.heap.size, 0, none⟩ (.slice none 0 0)).setCell ⟨w.heap.size + 1, 0, none⟩ (.int .i64 5)) := ((BB.out.trans (BL.out.mono BB.out.size)).setCell (p := ⟨w.heap.size, 0, none⟩) (Nat.le_refl _) _).setCell (p := ⟨w.heap.size + 1, 0, none⟩) (by simp) _
        generalize (w4.setCell ⟨w.heap.size, 0, none⟩ (.slice none 0 0)).setCell ⟨w.heap.size + 1, 0, none⟩ (.int .i64 5) = w9 at *
        refine ⟨by simp, .inl ⟨_, _, rfl, run_takeDeferred k9, ?_⟩⟩
        have c7 := (cell_same (o := 0) (World.putObj_heap_other (w := w9) (o := .deferred none) (show w.heap.size ≠ w.heap.size + 4 by omega))).trans c5
        have c8 := (cell_same (o := 0) (World.putObj_heap_other (w := w9) (o := .deferred none) (show w.heap.size + 1 ≠ w.heap.size + 4 by omega))).trans c6
        refine ⟨.tuple #[(.slice none 0 0), .int .i64 5], ?_, (.slice none 0 0), by rw [EQ.out]; rfl, ?_, BF.trans (below_put (by omega))⟩
        · simp [results, Tryd.results14, go_sem, c7, c8]
        · rw [EQ.out]; exact ownK_nil _ _
  case stop =>
    rintro c pre W hpre ⟨⟨rfl, h1⟩, h4, h5, h9, h10⟩ hK
    go_wp2
    refine ⟨by simp, .inl ⟨_, _, rfl, run_takeDeferred hK, ?_⟩⟩
    have c5 : (W.putObj w1.heap.size (.deferred none)).cell? ⟨w.heap.size, 0, none⟩ = some (.slice none 0 0) := (cell_same (World.putObj_heap_other (by omega))).trans h4
    have c6 : (W.putObj w1.heap.size (.deferred none)).cell? ⟨w.heap.size + 1, 0, none⟩ = some (.int .i64 5) := (cell_same (World.putObj_heap_other (by omega))).trans h5
    refine ⟨.tuple #[.slice none 0 0, .int .i64 5], ?_, .slice none 0 0, ?_, ?_, h10.trans (below_put (by omega))⟩
    · simp [results, Tryd.results14, go_sem, c5, c6]
    · rw [rkI_prefix hpre h1]; rfl
    · rw [rkI_prefix hpre h1]; exact ownK_nil _ _
end Go.Proofs.YtpkpjkceiikakaaDoor

namespace Go.Proofs.YtpkpjkceiikakaaDoor
open Go.ChangeShapes Go.WideShapes Go.ChangeAt Go.RowKit

def nuV (o : Option Nat) : Value := match o with
  | some n => .tuple #[.int .i64 (n : Int), .bool true]
  | none => .tuple #[.int .i64 0, .bool false]
/-- The first i digits spell n. -/
structure NuAt (s : ByteArray) (n i : Nat) : Prop where
  le : i ≤ s.size
  lt : n < 10 ^ i
  eq : digs 0 s.data.toList = digs n (s.data.toList.drop i)
theorem nuAt_start (s : ByteArray) : NuAt s 0 0 := ⟨Nat.zero_le _, by simp, rfl⟩
theorem nuAt_next {s : ByteArray} {n i : Nat} (h : NuAt s n i) (hi : i < s.size) (h1 : 48 ≤ s[i].toNat) (h2 : s[i].toNat ≤ 57) : NuAt s (10 * n + (s[i].toNat - 48)) (i + 1) := by
  refine ⟨hi, ?_, ?_⟩
  · have := h.lt
    rw [Nat.pow_succ]
    omega
  · rw [h.eq, drop_byte s i hi, digs, if_pos ⟨h1, h2⟩]
theorem nuAt_bad {s : ByteArray} {n i : Nat} (h : NuAt s n i) (hi : i < s.size) (h1 : ¬ (48 ≤ s[i].toNat ∧ s[i].toNat ≤ 57)) : numL s.data.toList = none := by
  unfold numL
  split
  · rfl
  · rw [h.eq, drop_byte s i hi, digs, if_neg h1]
theorem nuAt_end {s : ByteArray} {n : Nat} (h : NuAt s n s.size) (hc : ¬ (s.data.toList = [] ∨ 10 < s.data.toList.length ∨ (s.data.toList.head? = some 48 ∧ 1 < s.data.toList.length))) : numL s.data.toList = some n := by
  unfold numL
  rw [if_neg hc, h.eq, List.drop_eq_nil_of_le (by simp), digs]
theorem len_data (s : ByteArray) : s.data.toList.length = s.size := Array.length_toList
theorem head_data {s : ByteArray} (h : 0 < s.size) : s.data.toList.head? = some s[0] := by
  have := drop_byte s 0 h
  rw [List.drop_zero] at this
  rw [this]; rfl
theorem num_cond {s : ByteArray} (h0 : 0 < s.size) (h1 : s.size ≤ 10) (h2 : ¬ (s[0].toNat = 48 ∧ 1 < s.size)) : ¬ (s.data.toList = [] ∨ 10 < s.data.toList.length ∨ (s.data.toList.head? = some 48 ∧ 1 < s.data.toList.length)) := by
  rintro (h | h | ⟨h, h3⟩)
  · have := len_data s
    rw [h] at this
    simp at this
    omega
  · rw [len_data] at h; omega
  · rw [head_data h0] at h
    rw [len_data] at h3
    exact h2 ⟨by rw [Option.some.inj h]; rfl, h3⟩
theorem num_no {s : ByteArray} (h : s.size = 0 ∨ 10 < s.size ∨ (∃ h : 0 < s.size, s[0].toNat = 48 ∧ 1 < s.size)) : numL s.data.toList = none := by
  unfold numL
  rw [if_pos]
  rcases h with h | h | ⟨h0, h, h3⟩
  · exact .inl (List.length_eq_zero_iff.1 (by rw [len_data]; exact h))
  · exact .inr (.inl (by rw [len_data]; exact h))
  · refine .inr (.inr ⟨?_, by rw [len_data]; exact h3⟩)
    rw [head_data h0]
    congr 1
    exact UInt8.toNat_inj.1 h
theorem ret_nu {o : Option Nat} {v : Value} (h : nuV o = v) : Ending.returned v = .returned (nuV o) := by rw [h]
theorem empty_yes {s : ByteArray} (h : s.size = 0) : s.toList.isEmpty = true := by
  rw [Lib.toList_data, List.isEmpty_iff]
  exact List.length_eq_zero_iff.1 (by rw [len_data]; exact h)
theorem empty_no {s : ByteArray} (h : 0 < s.size) : s.toList.isEmpty = false := by
  rw [Lib.toList_data]
  cases q : s.data.toList with
  | nil => have := len_data s; rw [q] at this; simp at this; omega
  | cons => rfl

set_option maxRecDepth 100000 in
set_option maxHeartbeats 1600000 in
theorem sNum_any (s : ByteArray) (hs : s.size ≤ 1048576) (w : World) :
    Calls Tryd.prog 22 #[.string s] w fun e w' => e = .returned (nuV (numL s.data.toList)) ∧ Below w.heap.size w w' := by
  by_cases h0 : s.size = 0
  · rw [num_no (.inl h0)]
    have he := empty_yes h0
    clear h0
    go_enter Tryd.func22, Tryd.ntmps22
    go_wp2
    go_returns
    exact ⟨rfl, (by repeat' (first | (with_reducible exact Below.refl _ _) | (with_reducible assumption) | (with_reducible refine below_drewN ?_ _) | (with_reducible refine Below.drew ?_) | (with_reducible refine below_new ?_ _) | (with_reducible refine below_next ?_ (by with_reducible assumption)) | (with_reducible refine Below.setCell ?_ ?_ _) | go_size))⟩
  · have he := empty_no (s := s) (by omega)
    by_cases h1 : 10 < s.size
    · rw [num_no (.inr (.inl h1))]
      have d1 : decide ((10 : Int) < (s.size : Int)) = true := by simp; omega
      go_enter Tryd.func22, Tryd.ntmps22
      go_wp2
      go_returns
      exact ⟨rfl, (by repeat' (first | (with_reducible exact Below.refl _ _) | (with_reducible assumption) | (with_reducible refine below_drewN ?_ _) | (with_reducible refine Below.drew ?_) | (with_reducible refine below_new ?_ _) | (with_reducible refine below_next ?_ (by with_reducible assumption)) | (with_reducible refine Below.setCell ?_ ?_ _) | go_size))⟩
    · have d1 : decide ((10 : Int) < (s.size : Int)) = false := by simp; omega
      have hl : 0 < s.size := by omega
      by_cases h2 : s[0].toNat = 48 ∧ 1 < s.size
      · rw [num_no (.inr (.inr ⟨hl, h2⟩))]
        obtain ⟨h2, h3⟩ := h2
        have d2 : ((s[0].toNat : Int) == 48) = true := by rw [h2]; rfl
        have d3 : decide ((1 : Int) < (s.size : Int)) = true := by simp; omega
        go_enter Tryd.func22, Tryd.ntmps22
        go_wp2
        go_returns
        exact ⟨rfl, (by repeat' (first | (with_reducible exact Below.refl _ _) | (with_reducible assumption) | (with_reducible refine below_drewN ?_ _) | (with_reducible refine Below.drew ?_) | (with_reducible refine below_new ?_ _) | (with_reducible refine below_next ?_ (by with_reducible assumption)) | (with_reducible refine Below.setCell ?_ ?_ _) | go_size))⟩
      · have HC := Lib.hid (num_cond hl (by omega) h2)
        have key : ((s[0].toNat : Int) == 48) = false ∨ (((s[0].toNat : Int) == 48) = true ∧ decide ((1 : Int) < (s.size : Int)) = false) := by
          by_cases e : s[0].toNat = 48
          · exact .inr ⟨by rw [e]; rfl, by simp; omega⟩
          · exact .inl (by rw [beq_eq_false_iff_ne]; omega)
        clear h2
        rcases key with d2 | ⟨d2, d3⟩
        all_goals
          have DD := Lib.hid d2
          go_enter Tryd.func22, Tryd.ntmps22
          go_wp2
          go_loop [4, 5] (fun v i => ∃ (n k : Nat), NuAt s n k ∧ i = .int .i64 (k : Int) ∧ v = .int .i64 (n : Int)) (fun _ i => s.size - (intOf i).toNat)
          case atStart => exact ⟨0, 0, nuAt_start s, rfl, rfl⟩
          case round =>
            obtain ⟨n, k, hN, rfl, rfl⟩ := hrel
            have hk := hN.le
            have hn := hN.lt
            have NN := Lib.hid hN
            clear hN
            by_cases hlt : k < s.size
            · have dl : decide ((k : Int) < (s.size : Int)) = true := by simpa using hlt
              by_cases c1 : s[k].toNat < 48
              · have f := Lib.hid (nuAt_bad NN.out hlt (by omega))
                have t1 : decide ((s[k].toNat : Int) < 48) = true := by simp; omega
                clear d2
                go_wp2
                go_returns
                exact ⟨ret_nu (by rw [f.out]; rfl), (by repeat' (first | (with_reducible exact Below.refl _ _) | (with_reducible assumption) | (with_reducible refine below_drewN ?_ _) | (with_reducible refine Below.drew ?_) | (with_reducible refine below_new ?_ _) | (with_reducible refine below_next ?_ (by with_reducible assumption)) | (with_reducible refine Below.setCell ?_ ?_ _) | go_size))⟩
              · by_cases c2 : 57 < s[k].toNat
                · have f := Lib.hid (nuAt_bad NN.out hlt (by omega))
                  have t1 : decide ((s[k].toNat : Int) < 48) = false := by simp; omega
                  have t2 : decide ((57 : Int) < (s[k].toNat : Int)) = true := by simp; omega
                  clear d2
                  go_wp2
                  go_returns
                  exact ⟨ret_nu (by rw [f.out]; rfl), (by repeat' (first | (with_reducible exact Below.refl _ _) | (with_reducible assumption) | (with_reducible refine below_drewN ?_ _) | (with_reducible refine Below.drew ?_) | (with_reducible refine below_new ?_ _) | (with_reducible refine below_next ?_ (by with_reducible assumption)) | (with_reducible refine Below.setCell ?_ ?_ _) | go_size))⟩
                · have f := Lib.hid (nuAt_next NN.out hlt (by omega) (by omega))
                  have t1 : decide ((s[k].toNat : Int) < 48) = false := by simp; omega
                  have t2 : decide ((57 : Int) < (s[k].toNat : Int)) = false := by simp; omega
                  have hp : (10 : Nat) ^ k ≤ 10 ^ 9 := Nat.pow_le_pow_right (by omega) (by omega)
                  have w1 : IntKind.u8.wrap ((s[k].toNat : Int) - 48) = ((s[k].toNat - 48 : Nat) : Int) := by rw [show (s[k].toNat : Int) - 48 = ((s[k].toNat - 48 : Nat) : Int) from by omega]; exact IntWalk.u8_in _ ⟨by omega, by omega⟩
                  have w2 : IntKind.i64.wrap ((s[k].toNat - 48 : Nat) : Int) = ((s[k].toNat - 48 : Nat) : Int) := IntWalk.i64_in _ (by omega)
                  have w3 : IntKind.i64.wrap (10 * (n : Int)) = 10 * (n : Int) := IntWalk.i64_in _ (by omega)
                  have w4 : IntKind.i64.wrap (10 * (n : Int) + ((s[k].toNat - 48 : Nat) : Int)) = ((10 * n + (s[k].toNat - 48) : Nat) : Int) := by rw [show 10 * (n : Int) + ((s[k].toNat - 48 : Nat) : Int) = ((10 * n + (s[k].toNat - 48) : Nat) : Int) from by omega]; exact IntWalk.i64_in _ (by omega)
                  clear d2 hp hn c1 c2
                  go_wp2
                  go_round
                  case rel => exact ⟨_, k + 1, f.out, by go_num, rfl⟩
                  case measure => simp [intOf]; omega
            · obtain rfl : k = s.size := by omega
              have dl : decide ((s.size : Int) < (s.size : Int)) = false := by simp
              have f := Lib.hid (nuAt_end NN.out HC.out)
              clear d2
              go_wp2
              go_returns
              exact ⟨ret_nu (by rw [f.out]; rfl), (by repeat' (first | (with_reducible exact Below.refl _ _) | (with_reducible assumption) | (with_reducible refine below_drewN ?_ _) | (with_reducible refine Below.drew ?_) | (with_reducible refine below_new ?_ _) | (with_reducible refine below_next ?_ (by with_reducible assumption)) | (with_reducible refine Below.setCell ?_ ?_ _) | go_size))⟩
theorem sNum_ok (s : ByteArray) (hs : s.size ≤ 1048576) (n : Nat) (h : numL s.data.toList = some n) (w : World) :
    Calls Tryd.prog 22 #[.string s] w fun e w' => e = .returned (.tuple #[.int .i64 (n : Int), .bool true]) ∧ Below w.heap.size w w' := by
  have c := sNum_any s hs w
  rw [h] at c
  exact c
theorem sNum_no (s : ByteArray) (hs : s.size ≤ 1048576) (h : numL s.data.toList = none) (w : World) :
    Calls Tryd.prog 22 #[.string s] w fun e w' => e = .returned (.tuple #[.int .i64 0, .bool false]) ∧ Below w.heap.size w w' := by
  have c := sNum_any s hs w
  rw [h] at c
  exact c
end Go.Proofs.YtpkpjkceiikakaaDoor

namespace Go.Proofs.YtpkpjkceiikakaaDoor
open Go.ChangeShapes Go.WideShapes Go.ChangeAt Go.RowKit

/-- The slice's texts are these, in a row of the call's own from block B on. -/
def OwnStrs (B : Nat) (ps : List ByteArray) (v : Value) (w : World) : Prop := w.ownsRow B 9 1 v ps.length (ps.map Value.string)
theorem ownStrs_in {B : Nat} {ps : List ByteArray} {v : Value} {w : World} (h : OwnStrs B ps v w) : ∃ a c, v = .slice a ps.length c ∧ StrsIn w a ps := by
  have h0 := h
  obtain ⟨_, h2⟩ := h
  rcases h2 with ⟨rfl, hn⟩ | ⟨g, cap, cur, rfl, hb, hg, _⟩
  · exact ⟨none, 0, by rw [hn], fun i hi => by omega⟩
  · refine ⟨_, cap, rfl, fun i hi => ⟨g, 0, rfl, (Array.getElem?_eq_some_iff.1 hg).1, ?_⟩⟩
    have := World.ownsRow.cellAt h0 i (by omega)
    rw [Nat.zero_add, this, List.getElem?_map, List.getElem?_eq_getElem hi]
    simp [List.getD, hi]
theorem ownStrs_kept {B : Nat} {ps : List ByteArray} {v : Value} {w w' : World} (h : OwnStrs B ps v w) (hb : Below w.heap.size w w') : OwnStrs B ps v w' := by
  obtain ⟨h1, h2⟩ := h
  refine ⟨h1, ?_⟩
  rcases h2 with hn | ⟨g, cap, cur, rfl, hB, hg, rest⟩
  · exact .inl hn
  · exact .inr ⟨g, cap, cur, rfl, hB, (hb.block g (Array.getElem?_eq_some_iff.1 hg).1).trans hg, rest⟩
theorem ownStrs_none {w : World} {n B : Nat} (hn : n = w.heap.size) (hB : B ≤ w.heap.size) : OwnStrs B [] (.slice (some ⟨n, 0, none⟩) 0 0) (w.alloc (.cells #[] 9)) := by
  subst hn; exact World.ownsRow_made w #[] 0 hB (Nat.zero_le _) rfl
theorem ownStrs_push {B : Nat} {ps : List ByteArray} {x : ByteArray} {v : Value} {w : World} (h : w.ownsRow B 9 1 v (ps.length + 1) (ps.map Value.string ++ [.string x])) : OwnStrs B (ps ++ [x]) v w := by unfold OwnStrs; simpa using h
theorem ownStrs_lt {B : Nat} {ps : List ByteArray} {v : Value} {w : World} (h : OwnStrs B ps v w) : ∀ j, v.ownBlock = some j → B ≤ j := fun j hj => (World.ownsRow.lt h j hj).1
theorem one_newS (w : World) (x : Value) (t : TypeId) : ∀ j u, [x][j]? = some u → (w.alloc (.cells #[x] t)).cell? ((⟨w.heap.size, 0, none⟩ : Addr).add j) = some u := by
  intro j u h
  cases j with
  | zero => simp at h; subst h; simp [Addr.add]
  | succ => simp at h

/-- A new slice of texts. -/
def StrsR (ps : List ByteArray) (w : World) (e : Ending) (w' : World) : Prop := ∃ v, e = .returned v ∧ OwnStrs w.heap.size ps v w' ∧ Below w.heap.size w w'

set_option maxRecDepth 100000 in
set_option maxHeartbeats 1600000 in
theorem sSplitAt_any (s : ByteArray) (c : UInt8) (hs : s.size ≤ 4000000) (w : World) :
    Calls Tryd.prog 21 #[.string s, .int .u8 c.toNat] w (StrsR (pieces c s) w) := by
  obtain ⟨i0, hi, hz0, hz1, hz2⟩ := info_parts info_str
  go_enter Tryd.func21, Tryd.ntmps21
  go_wp2
  go_loopw [5, 6, 7] (fun v b i wr => ∃ (done : List ByteArray) (k j : Nat), SplAt c s done k j ∧ i = .int .i64 j ∧ b = .int .i64 k ∧ OwnStrs w.heap.size done v wr ∧ Below w.heap.size w wr) (fun _ _ i _ => s.size - (intOf i).toNat)
  case atStart => exact ⟨[], 0, 0, splAt_start c s, rfl, rfl, ownStrs_none rfl (Nat.le_refl _), below_new (Below.refl _ _) _⟩
  case round =>
    obtain ⟨done, k, j, hS, rfl, rfl, O, hB⟩ := hrel
    have OO := Lib.hid O
    have BB := Lib.hid hB
    have SP := Lib.hid hS
    have hk := hS.le
    have hj := hS.lt
    have hn := hS.len
    have hz := hB.size
    clear O hB hS
    by_cases hjl : j < s.size
    · have hd : decide ((j : Int) < (s.size : Int)) = true := by simpa using hjl
      by_cases hc : s[j] = c
      · have hx : ((s[j].toNat : Int) == (c.toNat : Int)) = true := by rw [hc]; simp
        have N := Lib.hid (splAt_hit SP.out hjl hc)
        go_wp2_with (at_builtin; refine wpList_append_own _ rfl _ _ 47 rfl w.heap.size 9 i0 (.string ⟨#[]⟩) 1 16 Tryd.underlying47 hi hz0 hz1 hz2 rfl (by decide) _ _ _ rfl (OO.out.alloc _) ⟨wr.heap.size, 0, none⟩ 1 1 [.string (s.extract k j)] rfl rfl (one_newS _ _ _) (fun x hx => by simp at hx; subst hx; rfl) (by unfold maxLen; omega) (by omega) (by simp; omega) ?_; intro v' w2 hown hgrow _; have P := Lib.hid (ownStrs_push hown); have G := Lib.hid hgrow; clear hown hgrow)
        exact ⟨⟨_, j + 1, j + 1, N.out, by rw [Int.natCast_succ], by rw [Int.natCast_succ], P.out, Below.grown (BB.out.alloc hz _) G.out (by simp; omega) (ownStrs_lt OO.out)⟩, by (simp [intOf]) <;> omega⟩
      · have hx : ((s[j].toNat : Int) == (c.toNat : Int)) = false := by
          rw [beq_eq_false_iff_ne]
          intro h
          exact hc (UInt8.toNat_inj.1 (by exact_mod_cast h))
        have N := Lib.hid (splAt_miss SP.out hjl hc)
        go_wp2
        exact ⟨⟨_, k, j + 1, N.out, by rw [Int.natCast_succ], rfl, OO.out, BB.out⟩, by (simp [intOf]) <;> omega⟩
    · have e : j = s.size := by omega
      subst e
      have hd : decide ((s.size : Int) < (s.size : Int)) = false := by simp
      have N := Lib.hid (splAt_end SP.out)
      go_wp2_with (at_builtin; refine wpList_append_own _ rfl _ _ 47 rfl w.heap.size 9 i0 (.string ⟨#[]⟩) 1 16 Tryd.underlying47 hi hz0 hz1 hz2 rfl (by decide) _ _ _ rfl (OO.out.alloc _) ⟨wr.heap.size, 0, none⟩ 1 1 [.string (s.extract k s.size)] rfl rfl (one_newS _ _ _) (fun x hx => by simp at hx; subst hx; rfl) (by unfold maxLen; omega) (by omega) (by simp; omega) ?_; intro v' w2 hown hgrow _; have P := Lib.hid (ownStrs_push hown); have G := Lib.hid hgrow; clear hown hgrow)
      go_ret
      exact ⟨_, rfl, by rw [← N.out]; exact P.out, Below.grown (BB.out.alloc hz _) G.out (by simp; omega) (ownStrs_lt OO.out)⟩
end Go.Proofs.YtpkpjkceiikakaaDoor

namespace Go.Proofs.YtpkpjkceiikakaaDoor
open Go.ChangeShapes Go.WideShapes Go.ChangeAt Go.RowKit

/-- Operations that hang on no world, in the text's order; one whose guard says no is left out. -/
def wpPure (P : Program) (ops : Array Oper) (R : Act → Prop) : List Oper → Act → Prop
  | [], a => R a
  | o :: l, a => if Region.wanted o (yielded ops a.tmps) = true then ∃ v, PQ P o a v ∧ wpPure P ops R l (a.put o.dst v) else wpPure P ops R l (a.put o.dst undef)
theorem wpPure_skip {P : Program} {ops : Array Oper} {R : Act → Prop} {o : Oper} {l : List Oper} {a : Act} (h : Region.wanted o (yielded ops a.tmps) = false) (k : wpPure P ops R l (a.put o.dst undef)) : wpPure P ops R (o :: l) a := by
  unfold wpPure
  rw [if_neg (by rw [h]; decide)]
  exact k
theorem wpPure_do {P : Program} {ops : Array Oper} {R : Act → Prop} {o : Oper} {l : List Oper} {a : Act} (v : Value) (h : Region.wanted o (yielded ops a.tmps) = true) (hv : PQ P o a v) (k : wpPure P ops R l (a.put o.dst v)) : wpPure P ops R (o :: l) a := by
  unfold wpPure
  rw [if_pos h]
  exact ⟨v, hv, k⟩
theorem wpPure_nil {P : Program} {ops : Array Oper} {R : Act → Prop} {a : Act} (k : R a) : wpPure P ops R [] a := k
theorem lexW_pureW {P : Program} {ops : Array Oper} {W : World} {G : Type} {I : G → World → Prop} {early : G → Prop} {loud late pur : Nat → Bool} {Q : Act → G → Prop} {R : Act → Prop} {rest : List Oper} {g : G} : ∀ (l : List Oper) (k : Nat) (a : Act), (∀ j, j < l.length → l[j]? = ops[k + j]? ∧ pur (k + j) = true) →
    (∀ a, R a → lexW P ops W I early loud late pur Q rest (k + l.length) a g) → wpPure P ops R l a → lexW P ops W I early loud late pur Q (l ++ rest) k a g
  | [], k, a, _, h2, h => h2 a h
  | o :: l, k, a, hl, h2, h => by
    have h0 : ops[k]? = some o := by simpa using (hl 0 (by simp)).1.symm
    have hpk : pur k = true := by simpa using (hl 0 (by simp)).2
    have next : ∀ a', wpPure P ops R l a' → lexW P ops W I early loud late pur Q (l ++ rest) (k + 1) a' g := fun a' h' =>
      lexW_pureW l (k + 1) a' (fun j hj => by have := hl (j + 1) (by simp; omega); simpa [Nat.add_assoc, Nat.add_comm 1 j] using this) (fun a hR => by have := h2 a hR; simpa [Nat.add_assoc, Nat.add_comm 1 l.length] using this) h'
    unfold wpPure at h
    by_cases hw : Region.wanted o (yielded ops a.tmps) = true
    · rw [if_pos hw] at h
      obtain ⟨v, hv, hk⟩ := h
      refine fOp_of h0 (O := fun v' g' => v' = v ∧ g' = g) ?_ ?_
      · unfold Fam; rw [if_pos hw, if_pos hpk]; exact ⟨_, hv, rfl⟩
      · rintro v' g' ⟨rfl, rfl⟩
        exact next _ hk
    · rw [if_neg hw] at h
      refine fOp_of h0 (O := fun v' g' => v' = undef ∧ g' = g) ?_ ?_
      · unfold Fam; rw [if_neg hw]
      · rintro v' g' ⟨rfl, rfl⟩
        exact next _ h
/-- Every one ahead of number m is waited for by a later one ahead of m, or by number n. -/
def Region.sinksM (md : Region.Mode) (ops : Array Oper) (m n : Nat) : Bool :=
  (List.range m).all fun i => (List.range (n + 1)).any fun j => decide (i < j) && (decide (j < m) || j == n) && match ops[j]? with
    | some oj => oj.after.any fun e => Region.binds md e && e.on == i
    | none => false
theorem late_of_sinksM {md : Region.Mode} {ops : Array Oper} {m n : Nat} (hs : Region.sinksM md ops m n = true) (hmn : m ≤ n) (hn : n < ops.size) : Region.LateLast md ops (fun i => i == n) (fun i => decide (m ≤ i ∧ i ≠ n)) := by
  intro listed hcl
  have key : ∀ d i, n - i = d → i < m → listed.getD i true = false → n ∉ Region.ready md ops listed := by
    intro d
    induction d using Nat.strongRecOn with
    | _ d ih =>
      intro i hd hi hun hr
      have h1 := List.all_eq_true.1 hs i (List.mem_range.2 hi)
      obtain ⟨j, hj, hj2⟩ := List.any_eq_true.1 h1
      rw [Bool.and_eq_true, Bool.and_eq_true, decide_eq_true_eq, Bool.or_eq_true, decide_eq_true_eq, beq_iff_eq] at hj2
      obtain ⟨⟨hij, hjm⟩, hw⟩ := hj2
      cases hoj : ops[j]? with
      | none => rw [hoj] at hw; cases hw
      | some oj =>
        rw [hoj] at hw
        obtain ⟨e, he, hb⟩ := Array.any_eq_true'.1 hw
        simp only [Bool.and_eq_true, beq_iff_eq] at hb
        by_cases hjn : j = n
        · subst hjn
          obtain ⟨_, o2, ho2, hall⟩ := mem_ready.1 hr
          obtain rfl : oj = o2 := Option.some.inj (hoj.symm.trans ho2)
          have := hall e he hb.1
          rw [hb.2, off_off hun] at this
          cases this
        · have hjlt : j < m := by omega
          cases hl : listed.getD j false with
          | true =>
            have := hcl.2 j oj hoj hl e he hb.1
            rw [hb.2, off_off hun] at this
            cases this
          | false =>
            have hjs : j < listed.size := by rw [hcl.1]; omega
            exact ih (n - j) (by omega) j rfl hjlt (by simp [hjs] at hl ⊢; exact hl) hr
  intro i hun j hr hne
  by_cases hjn : j = n
  case neg => exact .inl (by simpa using hjn)
  subst hjn
  by_cases h : i < m
  · exact absurd hr (key _ i rfl h hun)
  · exact .inr (by simp only [decide_eq_true_eq]; exact ⟨by omega, fun e => hne e.symm⟩)

/-- **Number m + d stores; the d ones ahead of it hang on no world, and may come later than it.** -/
theorem wp_region_storeM {P : Program} {id : Nat} {Q : Exit → Act → World → Prop} {a : Act} {w : World} {l : List Oper} {oS : Oper} (m d : Nat)
    (hm : P.follows .mixedOrders = true) (hl : l.take m ++ ((l.drop m).take d ++ oS :: l.drop (m + d + 1)) = l) (hlm : (l.take m).length = m) (hld : ((l.drop m).take d).length = d) (hpu : (l.drop (m + d + 1)).all isPure = true)
    (hB : Region.lexBL .any l.toArray (fun i => i == m + d) = true) (hSk : Region.sinksM .any l.toArray m (m + d) = true) (hgS : oS.guard = none)
    (h : ∀ w1, Ab w w1 → wpQuiet P l.toArray (fun w' => ∃ p : Regrown, w' = bw w1 p) (wpPure P l.toArray (fun a1 => ∀ w3, Ab w w3 → Yld P (fun v w4 => Q .normal (pureRun (l.drop (m + d + 1)) (a1.put oS.dst v)) w4) w3 ((execOp a1.eval oS).run P w3)) ((l.drop m).take d)) (l.take m) a) :
    (Code.region id l.toArray true).wp P Q a w := by
  obtain ⟨ops, hops⟩ : ∃ ops, ops = l.toArray := ⟨_, rfl⟩
  obtain ⟨l1, hl1⟩ : ∃ l1, l1 = l.take m := ⟨_, rfl⟩
  obtain ⟨l2, hl2⟩ : ∃ l2, l2 = (l.drop m).take d := ⟨_, rfl⟩
  obtain ⟨l3, hl3⟩ : ∃ l3, l3 = l.drop (m + d + 1) := ⟨_, rfl⟩
  rw [← hops] at hB hSk h ⊢
  rw [← hl1, ← hl2, ← hl3] at hl h
  rw [← hl1] at hlm
  rw [← hl2] at hld
  rw [← hl3] at hpu
  have hget : ∀ j, l[j]? = ops[j]? := fun j => by rw [hops, List.getElem?_toArray]
  have hlen : ops.size = (l1 ++ (l2 ++ oS :: l3)).length := by rw [hops, List.size_toArray, hl]
  simp only [Region.lexBL, Bool.and_eq_true] at hB
  have wantS : ∀ a : Act, Region.wanted oS (yielded ops a.tmps) = true := fun a => by simp [Region.wanted, hgS]
  have gS : ops[m + d]? = some oS := by
    rw [← hget, ← hl, List.getElem?_append_right (by omega), List.getElem?_append_right (by omega), show m + d - l1.length - l2.length = 0 by omega]; rfl
  have g1 : ∀ j, j < l1.length → l1[j]? = ops[0 + j]? ∧ (fun i => i == m + d) (0 + j) = false ∧ (fun i => decide (m ≤ i ∧ i ≠ m + d)) (0 + j) = false := fun j hj => by
    refine ⟨by rw [← hget, Nat.zero_add, ← hl, List.getElem?_append_left hj], ?_, ?_⟩
    · simp only [beq_eq_false_iff_ne]; omega
    · simp only [decide_eq_false_iff_not]; omega
  have g2 : ∀ j, j < l2.length → l2[j]? = ops[m + j]? ∧ (fun i => decide (m ≤ i ∧ i ≠ m + d)) (m + j) = true := fun j hj => by
    refine ⟨?_, by simp only [decide_eq_true_eq]; omega⟩
    rw [← hget, ← hl, List.getElem?_append_right (by omega), show m + j - l1.length = j by omega, List.getElem?_append_left hj]
  have g3 : ∀ j, j < l3.length → l3[j]? = ops[m + d + 1 + j]? ∧ (fun i => decide (m ≤ i ∧ i ≠ m + d)) (m + d + 1 + j) = true := fun j hj => by
    refine ⟨?_, by simp only [decide_eq_true_eq]; omega⟩
    rw [← hget, ← hl, List.getElem?_append_right (by omega), List.getElem?_append_right (by omega), show m + d + 1 + j - l1.length - l2.length = j + 1 by omega, List.getElem?_cons_succ]
  have base : Ab w { w with drawn := w.drawn + 1 } := ⟨rfl, rfl, rfl, Nat.le_refl _, fun _ _ => rfl⟩
  refine wp_region_any hm (wpAny_of_float (G := Option (World → Prop)) (W := w) (I := fun g w' => match g with | none => Ab w w' | some R => R w') (early := fun g => g = none) (loud := fun i => i == m + d) (late := fun i => i == m + d) (pur := fun i => decide (m ≤ i ∧ i ≠ m + d))
    (Q := fun a' g => ∃ R, g = some R ∧ ∀ w', R w' → Q .normal a' w') ?_ ?_ ?_ _ _ _ none _ base ?_)
  · rintro g w' rfl h; exact h
  · rintro g w' w'' rfl h k; exact Ab.trans h k
  · rintro a' g w' hI ⟨R, rfl, hQ⟩; exact hQ w' hI
  · rw [hlen]
    refine wpAnyF_lex hB.1 (late_of_sinksM hSk (Nat.le_add_right _ _) (by rw [hlen]; simp; omega)) (l1 ++ (l2 ++ oS :: l3)) 0 _ _ _ (by rw [← hlen]; exact closed_start) (fun j => by rw [hl, hget, Nat.zero_add]) (by rw [← hlen]; exact hB.2) ?_
    refine lexW_quiet (loud := fun i => i == m + d) (early := fun g => g = none) (pur := fun i => decide (m ≤ i ∧ i ≠ m + d)) rfl l1 0 a g1 (fun a0 h0 => ?_) h
    rw [Nat.zero_add, hlm]
    refine lexW_pureW l2 m a0 g2 (fun a1 h1 => ?_) h0
    rw [hld]
    refine fOp_of (o := oS) (O := fun v g' => g' = some (fun w' => Q .normal (pureRun l3 (a1.put oS.dst v)) w')) gS ?_ ?_
    · unfold Fam
      rw [if_pos (wantS _), if_neg (by simp), if_pos (by simp)]
      refine ⟨rfl, ⟨⟨undef, _, rfl⟩, fun w' hw' => ?_⟩, fun hlate => absurd hlate (by simp)⟩
      exact Yld.mono (fun v w4 hQ => ⟨_, rfl, hQ⟩) (h1 w' hw')
    · rintro v g' rfl
      exact lexW_pure l3 (m + d + 1) _ g3 hpu ⟨_, rfl, fun w' h' => h'⟩
end Go.Proofs.YtpkpjkceiikakaaDoor

namespace Go.Proofs.YtpkpjkceiikakaaDoor
open Go.ChangeShapes Go.WideShapes Go.ChangeAt Go.RowKit

theorem sInC (n lo hi : Int) (w : World) : Calls Tryd.prog 45 #[.int .i64 n, .int .i64 lo, .int .i64 hi] w fun e w' => e = .returned (.bool (decide (lo ≤ n) && decide (n ≤ hi))) ∧ w = w' := by
  by_cases h : lo ≤ n
  · rw [decide_eq_true h, Bool.true_and]
    by_cases h2 : n ≤ hi
    · have d := decide_eq_true h2
      rw [d]
      go_enter Tryd.func45, Tryd.ntmps45
      go_wp2
      go_returns
      exact ⟨rfl, rfl⟩
    · have d := decide_eq_false h2
      rw [d]
      go_enter Tryd.func45, Tryd.ntmps45
      go_wp2
      go_returns
      exact ⟨rfl, rfl⟩
  · have d := decide_eq_false h
    rw [d, Bool.false_and]
    go_enter Tryd.func45, Tryd.ntmps45
    go_wp2
    go_returns
    exact ⟨rfl, rfl⟩
theorem sHoleC {n : Int} {x : Bool} (h : decide (0 ≤ n ∧ n ≤ 95) = x) (w : World) : Calls Tryd.prog 40 #[.int .i64 n] w fun e w' => e = .returned (.bool x) ∧ w = w' := by
  have hx : (decide (0 ≤ n) && decide (n ≤ 95)) = x := by rw [← h]; by_cases h0 : 0 ≤ n <;> by_cases h1 : n ≤ 95 <;> simp [h0, h1]
  have I := Lib.hid fun W => sInC n 0 95 W
  rw [hx] at I
  clear h hx
  go_enter Tryd.func40, Tryd.ntmps40
  go_wp2_with (go_at_call 45; refine (I.out _).mono ?_; rintro e w1 ⟨rfl, rfl⟩)
  go_returns
  exact ⟨rfl, rfl⟩
theorem sJoinC (a b c d : Int) (w : World) :
    Calls Tryd.prog 41 #[.agg #[.int .u64 a, .int .u64 b], .agg #[.int .u64 c, .int .u64 d]] w fun e w' => e = .returned (.agg #[.int .u64 (bits .or .u64 a c), .int .u64 (bits .or .u64 b d)]) ∧ Below w.heap.size w w' :=
  (sJoin_any a b c d w).mono fun e w' ⟨he, hw⟩ => ⟨he, by rw [← hw]; exact (by repeat' (first | (with_reducible exact Below.refl _ _) | (with_reducible assumption) | (with_reducible refine below_drewN ?_ _) | (with_reducible refine Below.drew ?_) | (with_reducible refine below_new ?_ _) | (with_reducible refine below_next ?_ (by with_reducible assumption)) | (with_reducible refine Below.setCell ?_ ?_ _) | go_size))⟩
theorem strsC_at {w : World} {a : Option Addr} {zs : List ByteArray} (h : StrsIn w a zs) (h0 : 0 < zs.length) : ∃ b off, a = some ⟨b, off, none⟩ ∧ b < w.heap.size ∧ ∀ i, i < zs.length → w.cell? ⟨b, off + i, none⟩ = some (.string (zs.getD i ⟨#[]⟩)) := by
  obtain ⟨b, off, rfl, hb, _⟩ := h 0 h0
  refine ⟨b, off, rfl, hb, fun i hi => ?_⟩
  obtain ⟨b', off', e, _, hc⟩ := h i hi
  cases e
  exact hc
theorem rc_drew {n : Nat} {w W : World} (h : Below n w W) : Below n w W.drew := Below.drew h
/-- What the model's reader of a card tells. -/
def RdR (s : ByteArray) (w : World) (e : Ending) (w' : World) : Prop := ∃ nm x y, e = .returned (.tuple #[.agg #[.string nm, .int .u64 x, .int .u64 y], .bool (rcG fS s).isSome]) ∧ (∀ v, rcG fS s = some v → v = (nm, x, y)) ∧ Below w.heap.size w w'
theorem rdR_no {s nm : ByteArray} {x y : Int} {w w' : World} (h : rcG fS s = none) (hb : Below w.heap.size w w') : RdR s w (.returned (.tuple #[.agg #[.string nm, .int .u64 x, .int .u64 y], .bool false])) w' :=
  ⟨nm, x, y, by rw [h]; rfl, fun v e => (by rw [h] at e; cases e), hb⟩
theorem rdR_yes {s nm : ByteArray} {x y : Int} {w w' : World} (h : rcG fS s = some (nm, x, y)) (hb : Below w.heap.size w w') : RdR s w (.returned (.tuple #[.agg #[.string nm, .int .u64 x, .int .u64 y], .bool true])) w' :=
  ⟨nm, x, y, by rw [h]; rfl, fun v e => (by rw [h] at e; exact (Option.some.inj e).symm), hb⟩

set_option maxRecDepth 100000 in
set_option maxHeartbeats 6400000 in
theorem sRdC_any (s : ByteArray) (hs : s.size ≤ 1048576) (w : World) :
    Calls Tryd.prog 27 #[.string s] w (RdR s w) := by
  have SP := Lib.hid fun W => sSplitAt_any s 32 (by omega) W
  have R0 := Lib.hid (block_alloc w (.cells #[.string ⟨#[]⟩, .int .u64 0, .int .u64 0] 33))
  have B0 := Lib.hid (below_new (Below.refl w.heap.size w) (.cells #[.string ⟨#[]⟩, .int .u64 0, .int .u64 0] 33))
  obtain ⟨nm, ws, hp⟩ := two_of 32 s
  have hfit := pieces_fit 32 s
  have PP := Lib.hid hp
  rw [hp] at SP hfit
  have fn : nm.size ≤ 1048576 := Nat.le_trans (hfit nm (by simp)) hs
  have FW := Lib.hid (fun i (hi : i < ws.length) => Nat.le_trans (hfit (ws.getD i ⟨#[]⟩) (by simp [List.getD, hi])) hs)
  have hlen : ws.length ≤ 1048576 := by
    have h := pieces_len 32 s
    rw [hp, List.length_cons] at h
    omega
  clear hp hfit
  obtain ⟨L, hL⟩ : ∃ L, L = (nm :: ws).length := ⟨_, rfl⟩
  have HL := Lib.hid (show L = ws.length + 1 from hL)
  have hL1 : 1 ≤ L := by have := HL.out; omega
  have hL2 : L ≤ 1048577 := by have := HL.out; omega
  have HQ := Lib.hid hL
  clear hL
  go_enter Tryd.func27, Tryd.ntmps27
  go_wp2_with (go_at_call 21; refine (SP.out _).mono ?_; rintro e w1 ⟨v, rfl, hO, hB⟩; obtain ⟨a1, k1, hv, hI⟩ := ownStrs_in hO; rw [← HQ.out] at hv; obtain ⟨bq, oq, ha1, l1, hc⟩ := strsC_at hI (by simp); subst ha1; subst hv; have R1 := Lib.hid ((hB.block _ (by simp)).trans R0.out); have B1 := Lib.hid (B0.out.trans (Below.mono hB (by simp))); have d0 := hc 0 (by simp); simp only [List.getD_cons_zero, Nat.add_zero] at d0; have DD := Lib.hid (fun k (h1 : 1 ≤ k) (h2 : k < L) => show w1.cell? ⟨bq, oq + k, none⟩ = some (.string (ws.getD (k - 1) ⟨#[]⟩)) from (by obtain ⟨j, rfl⟩ : ∃ j, k = j + 1 := ⟨k - 1, by omega⟩; exact hc (j + 1) (by rw [← HQ.out]; exact h2))); have L1 := Lib.hid l1; have y9 := lt_of_block R1.out; clear hO hB hI hc)
  have M1 := Lib.hid (block_alloc w1 (.cells #[.string nm, .int .u64 0, .int .u64 0] 33))
  have A1 := Lib.hid (ab_newC w1 (.cells #[.string nm, .int .u64 0, .int .u64 0] 33))
  have hR := lt_of_block R1.out
  clear d0 l1 y9 HQ
  go_loopw [6] (fun i wr => ∃ (k : Nat) (zs : List Int), 1 ≤ k ∧ k ≤ L ∧ rdH fS ws (k - 1) = some zs ∧ i = .int .i64 (k : Int) ∧ wr.heap[w1.heap.size]? = some (.cells #[.string nm, .int .u64 (mo b0 zs (k - 1)), .int .u64 (mo b1 zs (k - 1))] 33 (0, 0)) ∧ Below w1.heap.size w1 wr) (fun i _ => L - (intOf i).toNat)
  case atStart => exact ⟨1, [], Nat.le_refl _, hL1, rfl, rfl, M1.out, A1.out⟩
  case round =>
    obtain ⟨k, zs, hk1, hk2, hz, rfl, hM, hA⟩ := hrel
    have hzl := rdH_len _ _ hz
    have MM := Lib.hid hM
    have AA := Lib.hid hA
    have ZZ := Lib.hid hz
    have R2 := Lib.hid (hA.block _ hR |>.trans R1.out)
    have B2 := Lib.hid (B1.out.trans (Below.mono hA B1.out.size))
    have ux := mo_u64 b0 zs zs.length
    have uy := mo_u64 b1 zs zs.length
    have p0 := fun h => mo_push b0 zs h
    have p1 := fun h => mo_push b1 zs h
    rw [hzl] at ux uy p0 p1
    clear hz hM hA M1 A1
    by_cases hkl : k < L
    · have dl : decide ((k : Int) < (L : Int)) = true := by simpa using hkl
      have c1 : wr.cell? ⟨bq, oq + k, none⟩ = some (.string (ws.getD (k - 1) ⟨#[]⟩)) := (AA.out.cell (p := ⟨bq, oq + k, none⟩) L1.out).trans (DD.out k hk1 hkl)
      have l1 := Nat.lt_of_lt_of_le L1.out AA.out.size
      have hkw : k - 1 < ws.length := by have := HL.out; omega
      have fw := FW.out (k - 1) hkw
      have i1 : (0 : Int) ≤ (k : Int) := by omega
      have i2 : (k : Int) < (L : Int) := by omega
      have ek : k - 1 + 1 = k + 1 - 1 := by omega
      have EK := Lib.hid ek
      clear ek
      generalize hwj : ws.getD (k - 1) ⟨#[]⟩ = wd at *
      have er : wr.frozen? ⟨w.heap.size, 0, none⟩ = false := free_of_block R2.out 0
      have FR := free_of_block R2.out
      cases hv : numL wd.data.toList with
      | none =>
        have EQ := Lib.hid (rcG_bad PP.out (n := k - 1 + 1) hkw (rdH_bad ZZ.out (by rw [show ByteArray.empty = ⟨#[]⟩ from rfl, hwj]; exact fS_none hv)))
        go_wp2_with (go_at_call 22; refine (sNum_no wd fw hv _).mono ?_; rintro e w9 ⟨rfl, hB⟩; have R9 := Lib.hid (Ab.block hB R2.out); have M9 := Ab.block hB MM.out; have B9 := Lib.hid (B2.out.trans (Below.mono hB B2.out.size)); have r0 := cell_of_block R9.out 0; have r1 := cell_of_block R9.out 1; have r2 := cell_of_block R9.out 2; have r9 := lt_of_block R9.out; have rf := free_of_block R9.out; have y0 := cell_of_block M9 0; have y1 := cell_of_block M9 1; have y2 := cell_of_block M9 2; have y9 := lt_of_block M9; clear hB M9)
        refine bodyPost_ret (by simp [results, Tryd.results27, go_sem,  r0, r1, r2]; try rfl) rfl ?_
        exact rdR_no EQ.out (((B9.out.setCell (by simp) _).setCell (by simp) _).setCell (by simp) _)
      | some h =>
        by_cases hh : h ≤ 95
        · have f := Lib.hid (rdH_next ZZ.out (h := (h : Int)) (by rw [show ByteArray.empty = ⟨#[]⟩ from rfl, hwj]; exact fS_in hv hh))
          have H := Lib.hid (sHoleC (n := (h : Int)) (decide_eq_true ⟨by omega, by omega⟩))
          have q0 := Lib.hid (p0 (h : Int))
          have q1 := Lib.hid (p1 (h : Int))
          have O := Lib.hid fun W => sBit_any (h : Int) (by omega) (by omega) W
          generalize mo b0 zs (k - 1) = X at *
          generalize mo b1 zs (k - 1) = Y at *
          generalize b0 (h : Int) = U at *
          generalize b1 (h : Int) = V at *
          have J := Lib.hid fun W => sJoinC X Y U V W
          clear hh hzl ux uy p0 p1
          go_wp2_with (first
            | (go_at_call 22; refine (sNum_ok wd fw h hv _).mono ?_; rintro e w3 ⟨rfl, hB⟩; have A3 := Lib.hid (AA.out.trans (Below.mono hB AA.out.size)); have M3 := Lib.hid (Ab.block hB MM.out); clear hB c1 l1)
            | (go_at_call 40; refine (H.out _).mono ?_; rintro e w4 ⟨rfl, rfl⟩))
          refine wp_region_last 6 (by kernel_rfl) rfl rfl (by kernel_rfl) (by kernel_rfl) rfl ?_
          simp only [List.take_succ_cons, List.take_zero]
          intro u1 h1
          have c0 := cell_of_block (h1.block M3.out) 0
          have c1 := cell_of_block (h1.block M3.out) 1
          have c2 := cell_of_block (h1.block M3.out) 2
          have s0 := lt_of_block (h1.block M3.out)
          have hbw := cell_bw
          repeat (go_big_quiet_step (first | (go_at_call 42; exact calls_bw (O.out _)) | (go_at_call 41; exact calls_bw (J.out _))))
          refine wpQuiet_nil ?_
          intro u3 h3
          have f0 := cell_of_block (h3.block M3.out) 0
          have f1 := cell_of_block (h3.block M3.out) 1
          have f2 := cell_of_block (h3.block M3.out) 2
          have ff := free_of_block (h3.block M3.out)
          have A4 := Lib.hid (A3.out.trans (Below.mono h3 A3.out.size))
          have M4 := Lib.hid (h3.block M3.out)
          go_simp
          simp only [Yld]
          go_wp2
          go_roundw
          case rel => exact ⟨k + 1, _, by omega, hkl, EK.out ▸ f.out, by go_num, by rw [← EK.out, q0.out, q1.out]; exact block_setCell _ (block_setCell _ M4.out), (A4.out.setCell (by simp) _).setCell (by simp) _⟩
          case measure => simp [intOf]; omega
        · have EQ := Lib.hid (rcG_bad PP.out (n := k - 1 + 1) hkw (rdH_bad ZZ.out (by rw [show ByteArray.empty = ⟨#[]⟩ from rfl, hwj]; exact fS_out hv hh)))
          have H := Lib.hid (sHoleC (n := (h : Int)) (decide_eq_false (by omega)))
          clear hh
          go_wp2_with (first
            | (go_at_call 22; refine (sNum_ok wd fw h hv _).mono ?_; rintro e w9 ⟨rfl, hB⟩; have R9 := Lib.hid (Ab.block hB R2.out); have M9 := Ab.block hB MM.out; have B9 := Lib.hid (B2.out.trans (Below.mono hB B2.out.size)); have r0 := cell_of_block R9.out 0; have r1 := cell_of_block R9.out 1; have r2 := cell_of_block R9.out 2; have r9 := lt_of_block R9.out; have rf := free_of_block R9.out; have y0 := cell_of_block M9 0; have y1 := cell_of_block M9 1; have y2 := cell_of_block M9 2; have y9 := lt_of_block M9; clear hB M9)
            | (go_at_call 40; refine (H.out _).mono ?_; rintro e w4 ⟨rfl, rfl⟩))
          refine bodyPost_ret (by simp [results, Tryd.results27, go_sem,  r0, r1, r2]; try rfl) rfl ?_
          exact rdR_no EQ.out (((B9.out.setCell (by simp) _).setCell (by simp) _).setCell (by simp) _)
    · obtain rfl : k = L := by omega
      have dl : decide ((k : Int) < (k : Int)) = false := by simp
      have ekL : k - 1 = ws.length := by have := HL.out; omega
      have er := rcG_at PP.out (hs := zs) (by rw [← ekL]; exact ZZ.out)
      rw [hzl] at er
      generalize mo b0 zs (k - 1) = X at *
      generalize mo b1 zs (k - 1) = Y at *
      have V := fun W h0 h1 h2 => sOk_any nm Y (by unfold maxLen; omega) w1.heap.size 0 W X h0 h1 h2
      clear hzl ekL p0 p1
      cases hk : cardOk nm Y
      · rw [hk] at V
        rw [if_neg (by rw [hk]; simp)] at er
        have EQ := Lib.hid er
        replace V := Lib.hid V
        clear er hk
        have c0 := cell_of_block MM.out 0
        have c0 := cell_of_block MM.out 0
        go_wp2_with fail
        clear c0
        refine wp_region_storeM 4 3 (by kernel_rfl) rfl rfl rfl rfl (by kernel_rfl) (by kernel_rfl) rfl ?_
        simp only [Nat.reduceAdd, List.take_succ_cons, List.take_zero, List.drop_succ_cons, List.drop_zero]
        intro u1 h1
        have c0 := cell_of_block (h1.block MM.out) 0
        have c1 := cell_of_block (h1.block MM.out) 1
        have c2 := cell_of_block (h1.block MM.out) 2
        have s0 := lt_of_block (h1.block MM.out)
        have hbw := cell_bw
        have V2 := Lib.hid fun q : Regrown => V.out (bw u1 q) ((cell_bw u1 q _ 0 s0).trans (c0.trans (by simp))) ((cell_bw u1 q _ 1 s0).trans (c1.trans (by simp))) ((cell_bw u1 q _ 2 s0).trans (c2.trans (by simp)))
        repeat (go_big_quiet_step (first | (go_at_call 51; exact calls_bw (V2.out _))))
        refine wpQuiet_nil ?_
        refine wpPure_skip rfl ?_
        refine wpPure_skip rfl ?_
        refine wpPure_do (.bool false) rfl (fun w => by go_simp) (wpPure_nil ?_)
        intro u3 h3
        have R5 := Lib.hid (h3.block R2.out)
        have B5 := Lib.hid (B2.out.trans (Below.mono h3 B2.out.size))
        have g0 := cell_of_block R5.out 0
        have g1 := cell_of_block R5.out 1
        have g2 := cell_of_block R5.out 2
        have g9 := lt_of_block R5.out
        have gf := free_of_block R5.out
        go_simp
        simp only [Yld, pureRun, pureVal, Act.put, Act.eval, List.setIfInBounds_toArray, List.set_cons_succ, List.set_cons_zero]
        clear hbw c0 c1 c2 s0
        go_wp2
        refine bodyPost_ret (by simp [results, Tryd.results27, go_sem,  g0, g1, g2]; try rfl) rfl ?_
        exact rdR_no EQ.out (((B5.out.setCell (by simp) _).setCell (by simp) _).setCell (by simp) _)
      · rw [hk] at V
        have nk : nm.size ≤ 16 := by
          have hk2 := hk
          unfold cardOk at hk2
          rw [Bool.and_eq_true] at hk2
          exact (nameOk_size hk2.1).2
        have C := fun W h0 h1 h2 => sCt_any nm X Y nk ux uy w1.heap.size 0 W h0 h1 h2
        have hT : cdT nm X Y = cdN nm (hol (hasB X Y) 96) (hol (hasB X Y) 96).length := by unfold cdT; rw [if_pos hk]
        rw [← hT] at C
        clear hT
        replace C := Lib.hid C
        replace V := Lib.hid V
        generalize cdT nm X Y = T at *
        by_cases hT : T = s
        · subst hT
          rw [if_pos ⟨hk, rfl⟩] at er
          have n1 : (T.toList == T.toList) = true := by simp
          have EQ := Lib.hid er
          clear er hk
          have c0 := cell_of_block MM.out 0
          have c0 := cell_of_block MM.out 0
          go_wp2_with fail
          clear c0
          refine wp_region_storeM 4 3 (by kernel_rfl) rfl rfl rfl rfl (by kernel_rfl) (by kernel_rfl) rfl ?_
          simp only [Nat.reduceAdd, List.take_succ_cons, List.take_zero, List.drop_succ_cons, List.drop_zero]
          intro u1 h1
          have c0 := cell_of_block (h1.block MM.out) 0
          have c1 := cell_of_block (h1.block MM.out) 1
          have c2 := cell_of_block (h1.block MM.out) 2
          have s0 := lt_of_block (h1.block MM.out)
          have hbw := cell_bw
          have V2 := Lib.hid fun q : Regrown => V.out (bw u1 q) ((cell_bw u1 q _ 0 s0).trans (c0.trans (by simp))) ((cell_bw u1 q _ 1 s0).trans (c1.trans (by simp))) ((cell_bw u1 q _ 2 s0).trans (c2.trans (by simp)))
          have C2 := Lib.hid fun q : Regrown => C.out (bw u1 q) ((cell_bw u1 q _ 0 s0).trans (c0.trans (by simp))) ((cell_bw u1 q _ 1 s0).trans (c1.trans (by simp))) ((cell_bw u1 q _ 2 s0).trans (c2.trans (by simp)))
          repeat (go_big_quiet_step (first | (go_at_call 51; exact calls_bw (V2.out _)) | (go_at_call 52; exact calls_bw (C2.out _))))
          refine wpQuiet_nil ?_
          refine wpPure_do (.string T) rfl (fun _ => rfl) ?_
          refine wpPure_do (.bool true) rfl (fun w => by go_simp) ?_
          refine wpPure_do (.bool true) rfl (fun w => by go_simp) (wpPure_nil ?_)
          intro u3 h3
          have R5 := Lib.hid (h3.block R2.out)
          have B5 := Lib.hid (B2.out.trans (Below.mono h3 B2.out.size))
          have g0 := cell_of_block R5.out 0
          have g1 := cell_of_block R5.out 1
          have g2 := cell_of_block R5.out 2
          have g9 := lt_of_block R5.out
          have gf := free_of_block R5.out
          go_simp
          simp only [Yld, pureRun, pureVal, Act.put, Act.eval, List.setIfInBounds_toArray, List.set_cons_succ, List.set_cons_zero]
          clear hbw c0 c1 c2 s0
          go_wp2
          refine bodyPost_ret (by simp [results, Tryd.results27, go_sem,  g0, g1, g2]; try rfl) rfl ?_
          exact rdR_yes EQ.out (((B5.out.setCell (by simp) _).setCell (by simp) _).setCell (by simp) _)
        · rw [if_neg (fun q => hT q.2)] at er
          have n1 := str_neC hT
          have EQ := Lib.hid er
          clear er hk
          have c0 := cell_of_block MM.out 0
          have c0 := cell_of_block MM.out 0
          go_wp2_with fail
          clear c0
          refine wp_region_storeM 4 3 (by kernel_rfl) rfl rfl rfl rfl (by kernel_rfl) (by kernel_rfl) rfl ?_
          simp only [Nat.reduceAdd, List.take_succ_cons, List.take_zero, List.drop_succ_cons, List.drop_zero]
          intro u1 h1
          have c0 := cell_of_block (h1.block MM.out) 0
          have c1 := cell_of_block (h1.block MM.out) 1
          have c2 := cell_of_block (h1.block MM.out) 2
          have s0 := lt_of_block (h1.block MM.out)
          have hbw := cell_bw
          have V2 := Lib.hid fun q : Regrown => V.out (bw u1 q) ((cell_bw u1 q _ 0 s0).trans (c0.trans (by simp))) ((cell_bw u1 q _ 1 s0).trans (c1.trans (by simp))) ((cell_bw u1 q _ 2 s0).trans (c2.trans (by simp)))
          have C2 := Lib.hid fun q : Regrown => C.out (bw u1 q) ((cell_bw u1 q _ 0 s0).trans (c0.trans (by simp))) ((cell_bw u1 q _ 1 s0).trans (c1.trans (by simp))) ((cell_bw u1 q _ 2 s0).trans (c2.trans (by simp)))
          repeat (go_big_quiet_step (first | (go_at_call 51; exact calls_bw (V2.out _)) | (go_at_call 52; exact calls_bw (C2.out _))))
          refine wpQuiet_nil ?_
          refine wpPure_do (.string s) rfl (fun _ => rfl) ?_
          refine wpPure_do (.bool false) rfl (fun w => by go_simp) ?_
          refine wpPure_do (.bool false) rfl (fun w => by go_simp) (wpPure_nil ?_)
          intro u3 h3
          have R5 := Lib.hid (h3.block R2.out)
          have B5 := Lib.hid (B2.out.trans (Below.mono h3 B2.out.size))
          have g0 := cell_of_block R5.out 0
          have g1 := cell_of_block R5.out 1
          have g2 := cell_of_block R5.out 2
          have g9 := lt_of_block R5.out
          have gf := free_of_block R5.out
          go_simp
          simp only [Yld, pureRun, pureVal, Act.put, Act.eval, List.setIfInBounds_toArray, List.set_cons_succ, List.set_cons_zero]
          clear hbw c0 c1 c2 s0
          go_wp2
          refine bodyPost_ret (by simp [results, Tryd.results27, go_sem,  g0, g1, g2]; try rfl) rfl ?_
          exact rdR_no EQ.out (((B5.out.setCell (by simp) _).setCell (by simp) _).setCell (by simp) _)

theorem sReadCard_any (s : ByteArray) (hs : s.size ≤ 1048576) (w : World) :
    Calls Tryd.prog 10 #[.string s] w fun e w' => e = .returned (rcV (rcG fS s)) ∧ Below w.heap.size w w' := by
  have R0 := Lib.hid (block_alloc w (.cells #[.string ⟨#[]⟩, .int .u64 0, .int .u64 0] 33))
  have B0 := Lib.hid (below_new (Below.refl w.heap.size w) (.cells #[.string ⟨#[]⟩, .int .u64 0, .int .u64 0] 33))
  cases hr : rcG fS s with
  | none =>
    have C := fun W => sRdC_any s hs W
    unfold RdR at C
    rw [hr] at C
    have C := Lib.hid C
    clear hr
    go_enter Tryd.func10, Tryd.ntmps10
    go_wp2_with (go_at_call 27; refine (C.out _).mono ?_; rintro e w1 ⟨nm, x, y, rfl, _, hB⟩; have hB2 := below_new hB (.cells #[.string nm, .int .u64 x, .int .u64 y] 33); have R9 := Lib.hid (Ab.block hB2 R0.out); have B9 := Lib.hid (B0.out.trans (Below.mono hB2 B0.out.size)); have r0 := cell_of_block R9.out 0; have r1 := cell_of_block R9.out 1; have r2 := cell_of_block R9.out 2; have r9 := lt_of_block R9.out; have rf := free_of_block R9.out; clear hB hB2)
    refine bodyPost_ret (by simp [results, Tryd.results10, go_sem,  r0, r1, r2]; try rfl) rfl ?_
    exact ⟨rfl, ((B9.out.setCell (by simp) _).setCell (by simp) _).setCell (by simp) _⟩
  | some v =>
    obtain ⟨nm, a, b⟩ := v
    have C := fun W => sRdC_any s hs W
    unfold RdR at C
    rw [hr] at C
    have C := Lib.hid C
    clear hr
    go_enter Tryd.func10, Tryd.ntmps10
    go_wp2_with (go_at_call 27; refine (C.out _).mono ?_; rintro e w1 ⟨nm', x, y, rfl, hq, hB⟩; have hq := hq _ rfl; simp only [Prod.mk.injEq] at hq; obtain ⟨h1, h2, h3⟩ := hq; subst h1; subst h2; subst h3; have hB2 := below_new hB (.cells #[.string nm, .int .u64 a, .int .u64 b] 33); have R9 := Lib.hid (Ab.block hB2 R0.out); have Y9 := Lib.hid (block_alloc w1 (.cells #[.string nm, .int .u64 a, .int .u64 b] 33)); have B9 := Lib.hid (B0.out.trans (Below.mono hB2 B0.out.size)); have r0 := cell_of_block R9.out 0; have r1 := cell_of_block R9.out 1; have r2 := cell_of_block R9.out 2; have r9 := lt_of_block R9.out; have rf := free_of_block R9.out; have y0 := cell_of_block Y9.out 0; have y1 := cell_of_block Y9.out 1; have y2 := cell_of_block Y9.out 2; have y9 := lt_of_block Y9.out; clear hB hB2)
    refine bodyPost_ret (by simp [results, Tryd.results10, go_sem,  r0, r1, r2]; try rfl) rfl ?_
    exact ⟨rfl, ((B9.out.setCell (by simp) _).setCell (by simp) _).setCell (by simp) _⟩
end Go.Proofs.YtpkpjkceiikakaaDoor

namespace Go.Proofs.YtpkpjkceiikakaaDoor
open Go.ChangeShapes Go.WideShapes Go.ChangeAt Go.RowKit

theorem sRdC_no (s : ByteArray) (hs : s.size ≤ 1048576) (h : rcG fS s = none) (w : World) :
    Calls Tryd.prog 27 #[.string s] w fun e w' => ∃ nm x y, e = .returned (.tuple #[.agg #[.string nm, .int .u64 x, .int .u64 y], .bool false]) ∧ Below w.heap.size w w' :=
  (sRdC_any s hs w).mono fun e w' h' => by
    obtain ⟨nm, x, y, he, _, hb⟩ := h'
    exact ⟨nm, x, y, by rw [he, h]; rfl, hb⟩
theorem sRdC_yes (s : ByteArray) (hs : s.size ≤ 1048576) (nm : ByteArray) (a b : Int) (h : rcG fS s = some (nm, a, b)) (w : World) :
    Calls Tryd.prog 27 #[.string s] w fun e w' => e = .returned (.tuple #[.agg #[.string nm, .int .u64 a, .int .u64 b], .bool true]) ∧ Below w.heap.size w w' :=
  (sRdC_any s hs w).mono fun e w' h' => by
    obtain ⟨nm', x, y, he, hq, hb⟩ := h'
    have hq := hq _ h
    simp only [Prod.mk.injEq] at hq
    obtain ⟨rfl, rfl, rfl⟩ := hq
    exact ⟨by rw [he, h]; rfl, hb⟩
theorem ownK_made {w : World} {n B : Nat} (hn : n = w.heap.size) (hB : B ≤ w.heap.size) : OwnCards B [] (.slice (some ⟨n, 0, none⟩) 0 0) (w.alloc (.cells #[] 33)) := by
  subst hn; exact World.ownsRow_made w #[] 0 hB (Nat.zero_le _) rfl
theorem rkS_last {s : ByteArray} (h : (pieces 10 s).getLast? ≠ some ByteArray.empty) : rkS s = none := by unfold rkS; rw [if_neg h]
theorem rkS_bad {s : ByteArray} {j : Nat} (hj : j + 1 ≤ (pieces 10 s).length) (h : rdK fS ((pieces 10 s).take j) = none) : rkS s = none := by
  unfold rkS
  split
  · have e : (pieces 10 s).dropLast = (pieces 10 s).take j ++ ((pieces 10 s).dropLast).drop j := by
      rw [List.dropLast_eq_take]
      conv => lhs; rw [← List.take_append_drop j ((pieces 10 s).take ((pieces 10 s).length - 1))]
      rw [List.take_take, Nat.min_eq_left (by omega)]
    rw [e, rdK_none_app h]
  · rfl
theorem rkS_at {s : ByteArray} {ds : List Cd} (hl : (pieces 10 s).getLast? = some ByteArray.empty) (h : rdK fS ((pieces 10 s).take ((pieces 10 s).length - 1)) = some ds) : rkS s = if deckOk ds = true then some ds else none := by
  unfold rkS
  rw [if_pos hl, List.dropLast_eq_take, h]
theorem take_next {ps : List ByteArray} {j : Nat} (h : j < ps.length) : ps.take (j + 1) = ps.take j ++ [ps.getD j ⟨#[]⟩] := by
  rw [List.take_add_one, List.getElem?_eq_getElem h]
  simp [List.getD, h]
theorem last_at {ps : List ByteArray} (h : ps ≠ []) : ps.getLast? = some (ps.getD (ps.length - 1) ⟨#[]⟩) := by
  rw [List.getLast?_eq_getElem?, List.getElem?_eq_getElem (by have := List.length_pos_iff.2 h; omega)]
  simp [List.getD, show ps.length - 1 < ps.length by have := List.length_pos_iff.2 h; omega]
theorem empty_of {s : ByteArray} (h : s.toList.isEmpty = true) : s = ByteArray.empty := by
  rw [Lib.toList_data, List.isEmpty_iff] at h
  exact data_inj h

theorem start_yes {ps : List ByteArray} {lv : ByteArray} {b : Bool} (h : ps.getLast? = some lv) (hb : lv.toList.isEmpty = b) : b = true → rdK fS (ps.take 0) = some [] ∧ ps.getLast? = some ByteArray.empty := by
  rintro rfl
  exact ⟨rfl, by rw [h, empty_of hb]⟩
theorem start_no {s : ByteArray} {ps : List ByteArray} {lv : ByteArray} {b : Bool} (hL : ps.getLast? ≠ some ByteArray.empty → rkS s = none) (h : ps.getLast? = some lv) (hb : lv.toList.isEmpty = b) : b = false → rkS s = none := by
  rintro rfl
  apply hL
  rw [h]
  intro e
  rw [Option.some.inj e] at hb
  exact absurd hb (by rw [Lib.toList_data]; decide)

set_option maxRecDepth 100000 in
set_option maxHeartbeats 6400000 in
theorem sReadDeck_any (s : ByteArray) (hs : s.size ≤ 1048576) (w : World) :
    Calls Tryd.prog 13 #[.string s] w (RkR (rkS s) w) := by
  obtain ⟨i0, hi, hz0, hz1, hz2⟩ := info_parts info_card
  have SP := Lib.hid fun W => sSplitAt_any s 10 (by omega) W
  have hfit := pieces_fit 10 s
  have hne := pieces_ne 10 s
  have hlen := pieces_len 10 s
  have hla := last_at hne
  obtain ⟨ps, hps⟩ : ∃ ps, ps = pieces 10 s := ⟨_, rfl⟩
  have BD := Lib.hid fun j hj (h : rdK fS (ps.take j) = none) => rkS_bad (s := s) (j := j) (by rw [← hps]; exact hj) (by rw [← hps]; exact h)
  have LA := Lib.hid fun (h : ps.getLast? ≠ some ByteArray.empty) => rkS_last (s := s) (by rw [← hps]; exact h)
  have AT := Lib.hid fun ds (h1 : ps.getLast? = some ByteArray.empty) (h : rdK fS (ps.take (ps.length - 1)) = some ds) => rkS_at (s := s) (ds := ds) (by rw [← hps]; exact h1) (by rw [← hps]; exact h)
  rw [← hps] at SP hfit hne hlen hla
  clear hps
  have FW := Lib.hid (fun i (hi : i < ps.length) => Nat.le_trans (hfit (ps.getD i ⟨#[]⟩) (by simp [List.getD, hi])) hs)
  obtain ⟨n, hn⟩ : ∃ n, n = ps.length := ⟨_, rfl⟩
  have hn1 : 1 ≤ n := by rw [hn]; exact List.length_pos_iff.2 hne
  have hn2 : n ≤ 1048577 := by omega
  have HN := Lib.hid hn
  have HL := Lib.hid hla
  have kw : IntKind.i64.wrap ((n : Int) - 1) = ((n - 1 : Nat) : Int) := by rw [show (n : Int) - 1 = ((n - 1 : Nat) : Int) by omega]; exact IntWalk.i64_in _ (by omega)
  have i1 : (0 : Int) ≤ ((n - 1 : Nat) : Int) := by omega
  have i2 : ((n - 1 : Nat) : Int) < (n : Int) := by omega
  clear hfit hne hlen hla hn
  obtain ⟨lv, hlv⟩ : ∃ lv, lv = ps.getD (n - 1) ⟨#[]⟩ := ⟨_, rfl⟩
  have LV := Lib.hid hlv
  clear hlv
  obtain ⟨b0, hl⟩ : ∃ b0, lv.toList.isEmpty = b0 := ⟨_, rfl⟩
  have HE := Lib.hid hl
  go_enter Tryd.func13, Tryd.ntmps13
  go_wp2_with (go_at_call 21; refine (SP.out _).mono ?_; rintro e w1 ⟨v, rfl, hO, hB⟩; obtain ⟨a1, k1, hv, hI⟩ := ownStrs_in hO; rw [← HN.out] at hv; obtain ⟨bq, oq, ha1, l1, hc⟩ := strsC_at hI (by rw [← HN.out]; exact hn1); subst ha1; subst hv; have B1 := Lib.hid hB; have d0 := hc (n - 1) (by rw [← HN.out]; omega); rw [← LV.out] at d0; have DD := Lib.hid (fun k (h2 : k < n) => hc k (by rw [← HN.out]; exact h2)); have L1 := Lib.hid l1; clear hO hB hI hc)
  have O1 := Lib.hid (ownK_made (w := w1) (B := w1.heap.size) rfl (Nat.le_refl _))
  have A1 := Lib.hid (below_new (Below.refl w1.heap.size w1) (.cells #[] 33))
  have EL : Hid (ps.getLast? = some lv) := Lib.hid (by rw [HL.out, LV.out, HN.out])
  clear d0 l1
  go_loopw [5, 6, 7] (fun v okv i wr => ∃ (j : Nat) (ds : List Cd) (b : Bool), j + 1 ≤ n ∧ ds.length = j ∧ (b = true → rdK fS (ps.take j) = some ds ∧ ps.getLast? = some ByteArray.empty) ∧ (b = false → rkS s = none) ∧ i = .int .i64 (j : Int) ∧ okv = .bool b ∧ OwnCards w1.heap.size ds v wr ∧ Below w1.heap.size w1 wr) (fun _ _ i _ => n - (intOf i).toNat)
  case atStart => exact ⟨0, [], _, hn1, rfl, start_yes EL.out HE.out, start_no LA.out EL.out HE.out, rfl, rfl, O1.out, A1.out⟩
  case round =>
    obtain ⟨j, ds, b, hj, hd, ht, hf, rfl, rfl, hO, hA⟩ := hrel
    have OO := Lib.hid hO
    have AA := Lib.hid hA
    have x1 : IntKind.i64.wrap ((j : Int) + 1) = (j : Int) + 1 := IntWalk.i64_in _ (by omega)
    have HD := Lib.hid hd
    have hd2 : ds.length + 1 ≤ 1048577 := by omega
    clear hO hA hd
    cases b
    · have EQ := Lib.hid (hf rfl)
      clear ht hf
      by_cases hjn : j + 1 < n
      all_goals
        have dl : decide ((j : Int) + 1 < (n : Int)) = decide (j + 1 < n) := by rw [Bool.eq_iff_iff, decide_eq_true_eq, decide_eq_true_eq]; omega
        simp only [hjn, decide_true, decide_false] at dl
        go_wp2
        go_returns
        exact ⟨_, by rw [EQ.out]; rfl, by rw [EQ.out]; exact ownK_made rfl (Nat.le_trans B1.out.size AA.out.size), below_new (B1.out.trans (Below.mono AA.out B1.out.size)) _⟩
    · obtain ⟨hr, hq⟩ := ht rfl
      have RR := Lib.hid hr
      have QQ := Lib.hid hq
      clear ht hf hr hq
      by_cases hjn : j + 1 < n
      · have dl : decide ((j : Int) + 1 < (n : Int)) = true := decide_eq_true (by omega)
        have c1 : wr.cell? ⟨bq, oq + j, none⟩ = some (.string (ps.getD j ⟨#[]⟩)) := (AA.out.cell (p := ⟨bq, oq + j, none⟩) L1.out).trans (DD.out j (by omega))
        have l1 := Nat.lt_of_lt_of_le L1.out AA.out.size
        have fw := FW.out j (by rw [← HN.out]; omega)
        have j1 : (0 : Int) ≤ (j : Int) := by omega
        have j2 : (j : Int) < (n : Int) := by omega
        have TN := Lib.hid (take_next (ps := ps) (j := j) (by rw [← HN.out]; omega))
        generalize ps.getD j ⟨#[]⟩ = y at *
        cases hc : rcG fS y with
        | none =>
          have EQ := Lib.hid (BD.out (j + 1) (by rw [← HN.out]; omega) (by rw [TN.out]; exact rdK_bad hc []))
          have C := Lib.hid (sRdC_no y fw hc)
          go_wp2_with (first
            | (go_at_call 27; refine (C.out _).mono ?_; rintro e w3 ⟨nx, xx, yx, rfl, hB⟩; have O3 := Lib.hid (World.ownsRow.alloc (ownCards_kept OO.out hB) (.cells #[.string nx, .int .u64 xx, .int .u64 yx] 33)); have A3 := Lib.hid (AA.out.trans (Below.mono hB AA.out.size)); clear hB)
            | (at_builtin; go_loud (refine wpList_append_own _ rfl _ _ 37 rfl w1.heap.size 33 i0 (.agg #[.string ByteArray.empty, .int .u64 0, .int .u64 0]) 3 32 Tryd.underlying37 hi hz0 hz1 hz2 rfl (by decide) _ _ _ rfl (World.ownsRow.alloc O3.out _) ⟨w3.heap.size + 1, 0, none⟩ 1 1 [.string nx, .int .u64 xx, .int .u64 yx] rfl rfl (new3N _ _ (by simp) _ _ _ _) (fun x hx => by simp at hx; rcases hx with rfl | rfl | rfl <;> rfl) (by unfold maxLen; omega) (by omega) (by have h := A3.out.size; first | (simp; done) | (simp; omega)) ?_; intro v' w5 hown hgrow _; have P := Lib.hid (own_pushK hown); have G := Lib.hid (Below.grown ((A3.out.alloc A3.out.size (.cells #[.string nx, .int .u64 xx, .int .u64 yx] 33)).alloc (by have h := A3.out.size; first | (simp; done) | (simp; omega)) (.cells #[.string nx, .int .u64 xx, .int .u64 yx] 33)) hgrow (by have h := A3.out.size; first | (simp; done) | (simp; omega)) (fun j hj => (World.ownsRow.lt OO.out j hj).1)); clear hown hgrow)))
          exact ⟨⟨j + 1, _, false, by omega, by rw [List.length_append, HD.out]; rfl, fun h => (by cases h), fun _ => EQ.out, by go_num, rfl, P.out, G.out⟩, by (simp [intOf]) <;> omega⟩
        | some c =>
          obtain ⟨nm, a, b⟩ := c
          have EQ := Lib.hid (show rdK fS (ps.take (j + 1)) = some (ds ++ [cdOf (nm, a, b)]) by rw [TN.out]; exact rdK_snoc RR.out hc)
          have C := Lib.hid (sRdC_yes y fw nm a b hc)
          go_wp2_with (first
            | (go_at_call 27; refine (C.out _).mono ?_; rintro e w3 ⟨rfl, hB⟩; have O3 := Lib.hid (World.ownsRow.alloc (ownCards_kept OO.out hB) (.cells #[.string nm, .int .u64 a, .int .u64 b] 33)); have A3 := Lib.hid (AA.out.trans (Below.mono hB AA.out.size)); clear hB)
            | (at_builtin; go_loud (refine wpList_append_own _ rfl _ _ 37 rfl w1.heap.size 33 i0 (.agg #[.string ByteArray.empty, .int .u64 0, .int .u64 0]) 3 32 Tryd.underlying37 hi hz0 hz1 hz2 rfl (by decide) _ _ _ rfl (World.ownsRow.alloc O3.out _) ⟨w3.heap.size + 1, 0, none⟩ 1 1 [.string nm, .int .u64 a, .int .u64 b] rfl rfl (new3N _ _ (by simp) _ _ _ _) (fun x hx => by simp at hx; rcases hx with rfl | rfl | rfl <;> rfl) (by unfold maxLen; omega) (by omega) (by have h := A3.out.size; first | (simp; done) | (simp; omega)) ?_; intro v' w5 hown hgrow _; have P := Lib.hid (own_pushK hown); have G := Lib.hid (Below.grown ((A3.out.alloc A3.out.size (.cells #[.string nm, .int .u64 a, .int .u64 b] 33)).alloc (by have h := A3.out.size; first | (simp; done) | (simp; omega)) (.cells #[.string nm, .int .u64 a, .int .u64 b] 33)) hgrow (by have h := A3.out.size; first | (simp; done) | (simp; omega)) (fun j hj => (World.ownsRow.lt OO.out j hj).1)); clear hown hgrow)))
          exact ⟨⟨j + 1, _, true, by omega, by rw [List.length_append, HD.out]; rfl, fun _ => ⟨EQ.out, QQ.out⟩, fun h => (by cases h), by go_num, rfl, P.out, G.out⟩, by (simp [intOf]) <;> omega⟩
      · have ej : j = n - 1 := by omega
        have dl : decide ((j : Int) + 1 < (n : Int)) = false := decide_eq_false (by omega)
        obtain ⟨ad, cc, hv, hC⟩ := ownCards_in OO.out
        subst hv
        have CC := Lib.hid hC
        clear hC
        have er := AT.out ds QQ.out (by rw [← HN.out, ← ej]; exact RR.out)
        have CI := Lib.hid (cardsIn_of CC.out (rdK_fits RR.out))
        have V := fun W h => sDeckOk_any ad ds cc W h
        clear ej
        cases hk : deckOk ds
        · rw [hk] at V
          rw [if_neg (by rw [hk]; simp)] at er
          have EQ := Lib.hid er
          replace V := Lib.hid V
          clear er hk
          go_wp2_with (go_at_call 34; refine (V.out _ CI.out).mono ?_; rintro e w3 ⟨rfl, hB⟩; have A3 := Lib.hid (AA.out.trans (Below.mono hB AA.out.size)); clear hB)
          go_returns
          exact ⟨_, by rw [EQ.out]; rfl, by rw [EQ.out]; exact ownK_made rfl (Nat.le_trans B1.out.size A3.out.size), below_new (B1.out.trans (Below.mono A3.out B1.out.size)) _⟩
        · rw [hk] at V
          rw [if_pos hk] at er
          have EQ := Lib.hid er
          replace V := Lib.hid V
          clear er hk
          go_wp2_with (go_at_call 34; refine (V.out _ CI.out).mono ?_; rintro e w3 ⟨rfl, hB⟩; have A3 := Lib.hid (AA.out.trans (Below.mono hB AA.out.size)); have O3 := Lib.hid (ownCards_kept OO.out hB); clear hB)
          go_returns
          exact ⟨_, by rw [EQ.out]; rfl, by rw [EQ.out]; exact ownCards_weaken O3.out B1.out.size, B1.out.trans (Below.mono A3.out B1.out.size)⟩
end Go.Proofs.YtpkpjkceiikakaaDoor

namespace Go.Proofs.YtpkpjkceiikakaaDoor
open Go.ChangeShapes Go.WideShapes Go.ChangeAt Go.RowKit

theorem pe_star : "*" ++ "errors.errorString" = "*errors.errorString" := by decide
theorem pe_row (u : TypeId) (h : Tryd.prog.typeName? 3 u = some "*errors.errorString") : u = 156 :=
  typeName_ptr_named (nm := "errors.errorString") (by rw [pe_star]; kernel_rfl) (by kernel_rfl) (by decide) u (by rw [pe_star]; exact h)
theorem pe_of_laid {x0 x1 x2 x3 : String × DataW Unit} {r : List (String × DataW Unit)} {t1 t2 : List UInt8} {W : World}
    (h : laidMet Tryd.prog (x0 :: x1 :: x2 :: x3 :: ("strconv.ErrRange", .iface "*errors.errorString" (.ptr (.agg [.lit (.string t1)]))) :: ("strconv.ErrSyntax", .iface "*errors.errorString" (.ptr (.agg [.lit (.string t2)]))) :: r) W) : PE W := by
  have h4 := h.tail.tail.tail.tail
  obtain ⟨a, _, v1, _⟩ := laid_sentinel (g := 3) h4 (by kernel_rfl) (by kernel_rfl) Tryd.underlying57 pe_row Tryd.underlying156 Tryd.underlying158 rfl rfl Tryd.underlying9 (by kernel_rfl) (by kernel_rfl)
  obtain ⟨b, _, v2, _⟩ := laid_sentinel (g := 2) h4.tail (by kernel_rfl) (by kernel_rfl) Tryd.underlying57 pe_row Tryd.underlying156 Tryd.underlying158 rfl rfl Tryd.underlying9 (by kernel_rfl) (by kernel_rfl)
  exact ⟨⟨_, _, v2⟩, ⟨_, _, v1⟩⟩
end Go.Proofs.YtpkpjkceiikakaaDoor
