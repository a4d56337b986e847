/- The state of a card in a valid deck: that of the first card with the name; decks behind an edit, in plain words. -/
import Derived.Test.YtbmjghkdhhcffaaDoorSt
import Derived.Test.YtbmjghkdhhcffaaDoorFind
import Derived.Test.YtbmjghkdhhcffaaDoorMarkC
namespace Go.Proofs.YtbmjghkdhhcffaaDoor
open Go.ChangeShapes Go.WideShapes Go.ChangeAt Go.RowKit

theorem bytes_eq {t s : ByteArray} (h : (t == s) = true) : t = s := by
  rw [bytes_beq] at h
  have h := eq_of_beq h
  obtain ⟨⟨t⟩⟩ := t
  obtain ⟨⟨s⟩⟩ := s
  simp only at h
  subst h
  rfl
theorem bytes_self (s : ByteArray) : (s == s) = true := by rw [bytes_beq]; simp
theorem bytes_ne {t s : ByteArray} (h : (t == s) = false) : t ≠ s := fun e => by subst e; rw [bytes_self] at h; cases h
theorem bytes_no {t s : ByteArray} (h : t ≠ s) : (t == s) = false := by
  cases e : (t == s)
  · rfl
  · exact absurd (bytes_eq e) h
/-- No two names are equal. -/
theorem okTo_uniq {cs : List Cd} : ∀ {n i j : Nat}, okTo cs n = true → i < j → j < n → (cdAt cs i).s ≠ (cdAt cs j).s
  | 0, _, _, _, _, h => absurd h (Nat.not_lt_zero _)
  | n + 1, i, j, h, hij, hj => by
    unfold okTo at h
    rw [Bool.and_eq_true, Bool.and_eq_true] at h
    by_cases e : j = n
    · subst e
      intro he
      have := hasN_mono (s := (cdAt cs j).s) (k := i) (by rw [he]; exact bytes_self _) j hij
      rw [this] at h
      exact absurd h.2.2 (by decide)
    · exact okTo_uniq h.1 hij (by omega)
theorem deckOk_to {cs : List Cd} (h : deckOk cs = true) : okTo cs cs.length = true := by
  unfold deckOk at h
  rw [Bool.and_eq_true] at h
  exact h.2
theorem deckOk_uniq {cs : List Cd} (h : deckOk cs = true) {i j : Nat} (hi : i < cs.length) (hj : j < cs.length) (he : (cdAt cs i).s = (cdAt cs j).s) : i = j := by
  have := deckOk_to h
  rcases Nat.lt_trichotomy i j with h1 | h1 | h1
  · exact absurd he (okTo_uniq this h1 hj)
  · exact h1
  · exact absurd he.symm (okTo_uniq this h1 hi)
theorem st_none {cs : List Cd} {s : ByteArray} : ∀ n, (∀ k, k < n → (cdAt cs k).s ≠ s) → stTo cs s n = st0
  | 0, _ => rfl
  | n + 1, h => by
    unfold stTo
    rw [if_neg (by rw [bytes_no (h n (by omega))]; simp)]
    exact st_none n fun k hk => h k (by omega)
theorem st_hit {cs : List Cd} {s : ByteArray} {k : Nat} (he : (cdAt cs k).s = s) : ∀ n, k < n → (∀ j, k < j → j < n → (cdAt cs j).s ≠ s) → stTo cs s n = ⟨true, (cdAt cs k).a, (cdAt cs k).b⟩
  | 0, hk, _ => absurd hk (Nat.not_lt_zero _)
  | n + 1, hk, h => by
    unfold stTo
    by_cases e : k = n
    · subst e; rw [if_pos (by rw [he]; exact bytes_self s)]
    · rw [if_neg (by rw [bytes_no (h n (by omega) (by omega))]; simp)]
      exact st_hit he n (by omega) fun j h1 h2 => h j h1 (by omega)
theorem findFrom_none {cs : List Cd} {s : ByteArray} : ∀ f j, (∀ k, j ≤ k → k < j + f → (cdAt cs k).s ≠ s) → findFrom cs s f j = -1
  | 0, _, _ => rfl
  | f + 1, j, h => by
    unfold findFrom
    rw [if_neg (by rw [bytes_no (h j (Nat.le_refl _) (by omega))]; simp)]
    exact findFrom_none f (j + 1) fun k h1 h2 => h k (by omega) (by omega)
theorem findFrom_hit {cs : List Cd} {s : ByteArray} {k : Nat} (he : (cdAt cs k).s = s) : ∀ f j, j ≤ k → k < j + f → (∀ i, j ≤ i → i < k → (cdAt cs i).s ≠ s) → findFrom cs s f j = k
  | 0, j, h1, h2, _ => by omega
  | f + 1, j, h1, h2, h => by
    unfold findFrom
    by_cases e : j = k
    · subst e; rw [if_pos (by rw [he]; exact bytes_self s)]
    · rw [if_neg (by rw [bytes_no (h j (Nat.le_refl _) (by omega))]; simp)]
      exact findFrom_hit he f (j + 1) (by omega) (by omega) fun i a b => h i (by omega) b
/-- There is no card with the name, or just one. -/
theorem st_find {cs : List Cd} (h : deckOk cs = true) (s : ByteArray) :
    (findC cs s = -1 ∧ stOf cs s = st0 ∧ ∀ k, k < cs.length → (cdAt cs k).s ≠ s) ∨ ∃ k, k < cs.length ∧ findC cs s = (k : Int) ∧ (cdAt cs k).s = s ∧ stOf cs s = ⟨true, (cdAt cs k).a, (cdAt cs k).b⟩ ∧ ∀ j, j < cs.length → j ≠ k → (cdAt cs j).s ≠ s := by
  by_cases e : ∃ k, k < cs.length ∧ (cdAt cs k).s = s
  · obtain ⟨k, hk, he⟩ := e
    have hu : ∀ j, j < cs.length → j ≠ k → (cdAt cs j).s ≠ s := fun j hj hne h2 => hne (deckOk_uniq h hj hk (h2.trans he.symm))
    refine .inr ⟨k, hk, findFrom_hit he _ _ (Nat.zero_le _) (by omega) (fun i _ hi => hu i (by omega) (by omega)), he, st_hit he _ hk (fun j h1 h2 => hu j h2 (by omega)), hu⟩
  · have hn : ∀ k, k < cs.length → (cdAt cs k).s ≠ s := fun k hk he => e ⟨k, hk, he⟩
    exact .inl ⟨findFrom_none _ _ (fun k _ h2 => hn k (by omega)), st_none _ hn, hn⟩

/-- The first n cards, the one with the name s having come to a state. -/
def apL (cs : List Cd) (s : ByteArray) (x : St) : Nat → List Cd
  | 0 => []
  | k + 1 => if ((cdAt cs k).s == s) = true then (if x.t then apL cs s x k ++ [⟨s, x.a, x.b⟩] else apL cs s x k) else apL cs s x k ++ [cdAt cs k]
theorem apL_none {cs : List Cd} {s : ByteArray} (x : St) : ∀ n, n ≤ cs.length → (∀ k, k < n → (cdAt cs k).s ≠ s) → apL cs s x n = cs.take n
  | 0, _, _ => by simp [apL]
  | n + 1, hn, h => by
    unfold apL
    rw [if_neg (by rw [bytes_no (h n (by omega))]; simp), apL_none x n (by omega) fun k hk => h k (by omega), List.take_succ_eq_append_getElem (by omega)]
    congr 2
    unfold cdAt
    rw [List.getD, List.getElem?_eq_getElem (by omega)]
    rfl
theorem apL_hit {cs : List Cd} {s : ByteArray} (x : St) {k : Nat} (he : (cdAt cs k).s = s) : ∀ m, k + 1 + m ≤ cs.length → (∀ j, j < cs.length → j ≠ k → (cdAt cs j).s ≠ s) → apL cs s x (k + 1 + m) = cs.take k ++ ((if x.t then [⟨s, x.a, x.b⟩] else []) ++ (cs.drop (k + 1)).take m)
  | 0, hm, h => by
    show apL cs s x (k + 1) = _
    unfold apL
    rw [if_pos (by rw [he]; exact bytes_self s), apL_none x k (by omega) fun j hj => h j (by omega) (by omega)]
    cases x.t <;> simp
  | m + 1, hm, h => by
    rw [← Nat.add_assoc]
    unfold apL
    rw [if_neg (by rw [bytes_no (h (k + 1 + m) (by omega) (by omega))]; simp), apL_hit x he m (by omega) h, List.append_assoc, List.append_assoc, List.take_succ_eq_append_getElem (by rw [List.length_drop]; omega)]
    congr 4
    rw [List.getElem_drop]
    unfold cdAt
    rw [List.getD, List.getElem?_eq_getElem (by omega)]
    rfl
theorem apL_len (cs : List Cd) (s : ByteArray) (x : St) : ∀ n, (apL cs s x n).length ≤ n
  | 0 => Nat.le_refl _
  | n + 1 => by
    have := apL_len cs s x n
    unfold apL
    split
    · split
      · rw [List.length_append]; simp; omega
      · omega
    · rw [List.length_append]; simp; omega
end Go.Proofs.YtbmjghkdhhcffaaDoor
