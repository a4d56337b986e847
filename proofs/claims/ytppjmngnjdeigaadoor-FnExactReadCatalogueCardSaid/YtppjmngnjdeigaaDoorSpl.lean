/- A text split at a byte, in plain words (no program). -/
import Derived.Test.YtppjmngnjdeigaaDoorStrs
import Derived.Lib.IndexBytes
namespace Go.Proofs.YtppjmngnjdeigaaDoor
open Go.ChangeShapes Go.WideShapes Go.ChangeAt Go.RowKit

/-- The pieces between the bytes c; what stands ahead of the first one is told. -/
def spl (c : UInt8) : List UInt8 → List UInt8 → List (List UInt8)
  | acc, [] => [acc]
  | acc, x :: xs => if x = c then acc :: spl c [] xs else spl c (acc ++ [x]) xs
def mkS (l : List UInt8) : ByteArray := ⟨l.toArray⟩
theorem mkS_data (s : ByteArray) : mkS s.data.toList = s := Lib.mk_data s
theorem data_mkS (l : List UInt8) : (mkS l).data.toList = l := rfl
def pieces (c : UInt8) (s : ByteArray) : List ByteArray := (spl c [] s.data.toList).map mkS

theorem extract_none (s : ByteArray) (i : Nat) : (s.extract i i).data.toList = [] := by rw [Lib.extract_data, Nat.sub_self]; rfl
theorem drop_byte (s : ByteArray) (i : Nat) (h : i < s.size) : s.data.toList.drop i = s[i] :: s.data.toList.drop (i + 1) := by
  rw [List.drop_eq_getElem_cons (by simpa using h)]; rfl
theorem extract_more (s : ByteArray) (b i : Nat) (hb : b ≤ i) (h : i < s.size) : (s.extract b (i + 1)).data.toList = (s.extract b i).data.toList ++ [s[i]] := by
  rw [Lib.extract_data, Lib.extract_data, show i + 1 - b = (i - b) + 1 by omega, List.take_add_one]
  congr 1
  rw [List.getElem?_drop, show b + (i - b) = i by omega, List.getElem?_eq_getElem (by simpa using h)]
  rfl

/-- i bytes have been read; some pieces are done, the one in hand began at b. -/
structure SplAt (c : UInt8) (s : ByteArray) (done : List ByteArray) (b i : Nat) : Prop where
  le : b ≤ i
  lt : i ≤ s.size
  len : done.length ≤ i
  eq : done ++ (spl c (s.extract b i).data.toList (s.data.toList.drop i)).map mkS = pieces c s
theorem splAt_start (c : UInt8) (s : ByteArray) : SplAt c s [] 0 0 :=
  ⟨Nat.le_refl _, Nat.zero_le _, Nat.le_refl _, by rw [extract_none]; rfl⟩
theorem splAt_hit {c : UInt8} {s : ByteArray} {done : List ByteArray} {b i : Nat} (h : SplAt c s done b i) (hi : i < s.size) (e : s[i] = c) : SplAt c s (done ++ [s.extract b i]) (i + 1) (i + 1) := by
  refine ⟨Nat.le_refl _, hi, by rw [List.length_append]; exact Nat.succ_le_succ h.len, ?_⟩
  rw [← h.eq, drop_byte s i hi, spl, if_pos e, List.map_cons, mkS_data, extract_none, List.append_assoc]
  rfl
theorem splAt_miss {c : UInt8} {s : ByteArray} {done : List ByteArray} {b i : Nat} (h : SplAt c s done b i) (hi : i < s.size) (e : s[i] ≠ c) : SplAt c s done b (i + 1) := by
  refine ⟨Nat.le_succ_of_le h.le, hi, Nat.le_succ_of_le h.len, ?_⟩
  rw [← h.eq, drop_byte s i hi, spl, if_neg e, extract_more s b i h.le hi]
theorem splAt_end {c : UInt8} {s : ByteArray} {done : List ByteArray} {b : Nat} (h : SplAt c s done b s.size) : done ++ [s.extract b s.size] = pieces c s := by
  rw [← h.eq, List.drop_eq_nil_of_le (by simp), spl, List.map_cons, mkS_data]
  rfl
theorem pieces_len (c : UInt8) (s : ByteArray) : (pieces c s).length ≤ s.size + 1 := by
  have key : ∀ (l acc : List UInt8), (spl c acc l).length ≤ l.length + 1 := by
    intro l
    induction l with
    | nil => intro acc; exact Nat.le_refl _
    | cons x xs ih =>
      intro acc
      rw [spl]
      split
      · exact Nat.succ_le_succ (ih _)
      · exact Nat.le_succ_of_le (ih _)
  have := key s.data.toList []
  unfold pieces
  rw [List.length_map]
  simpa using this
theorem pieces_fit (c : UInt8) (s : ByteArray) : ∀ p ∈ pieces c s, p.size ≤ s.size := by
  have key : ∀ (l acc : List UInt8), ∀ p ∈ spl c acc l, p.length ≤ acc.length + l.length := by
    intro l
    induction l with
    | nil => intro acc p hp; simp [spl] at hp; subst hp; simp
    | cons x xs ih =>
      intro acc p hp
      rw [spl] at hp
      split at hp
      · rcases List.mem_cons.1 hp with rfl | hp
        · omega
        · have := ih _ p hp; simp at this ⊢; omega
      · have := ih _ p hp; simp at this ⊢; omega
  intro p hp
  unfold pieces at hp
  obtain ⟨l, hl, rfl⟩ := List.mem_map.1 hp
  have := key s.data.toList [] l hl
  rw [show (mkS l).size = l.length from List.size_toArray]
  simpa using this

/-- The same, piece by piece: up to the next byte c. -/
theorem spl_none {c : UInt8} : ∀ (l acc : List UInt8), c ∉ l → spl c acc l = [acc ++ l]
  | [], acc, _ => by rw [spl, List.append_nil]
  | x :: xs, acc, h => by
    rw [spl, if_neg (fun e => h (by rw [e]; exact List.mem_cons_self)), spl_none xs _ (fun e => h (List.mem_cons_of_mem _ e)), List.append_assoc]; rfl
theorem spl_at {c : UInt8} : ∀ (l acc : List UInt8) (i : Nat), l[i]? = some c → c ∉ l.take i → spl c acc l = (acc ++ l.take i) :: spl c [] (l.drop (i + 1))
  | [], acc, i, h, _ => by simp at h
  | x :: xs, acc, 0, h, _ => by
    simp at h
    rw [spl, if_pos h, List.take_zero, List.append_nil]; rfl
  | x :: xs, acc, i + 1, h, hn => by
    rw [spl, if_neg (fun e => hn (by rw [List.take_succ_cons, e]; exact List.mem_cons_self)), spl_at xs _ i (by simpa using h) (fun e => hn (by rw [List.take_succ_cons]; exact List.mem_cons_of_mem _ e)), List.append_assoc]; rfl
end Go.Proofs.YtppjmngnjdeigaaDoor
