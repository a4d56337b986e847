/- Decks of the call's own: they are written into (markCardS) and read again (heldCardS). -/
import Derived.Test.YtllhglakihfjmaaDoorMark
import Derived.Test.YtllhglakihfjmaaDoorDeck3
import Derived.Deep.DeepCutAuto
namespace Go.Proofs.YtllhglakihfjmaaDoor
open Go.ChangeShapes Go.WideShapes Go.ChangeAt Go.RowKit

/-- The digits of a number, ahead of a text. -/
def mdig (k : Nat) (s : ByteArray) : ByteArray := if _h : k = 0 then s else mdig (k / 10) (⟨#[UInt8.ofNat (48 + k % 10)]⟩ ++ s)
termination_by k
theorem mdig_zero (s : ByteArray) : mdig 0 s = s := by unfold mdig; simp
theorem mdig_next {k : Nat} (s : ByteArray) (h : 0 < k) : mdig k s = mdig (k / 10) (⟨#[UInt8.ofNat (48 + k % 10)]⟩ ++ s) := by rw [mdig]; simp; omega
/-- The text that is the mark with a number. -/
def mtext (k : Nat) : ByteArray := if k = 0 then ⟨#[109, 48]⟩ else ⟨#[109]⟩ ++ mdig k ByteArray.empty


/-- Cards as cells. -/
def flatC : List Cd → List Value
  | [] => []
  | c :: cs => .string c.s :: .int .u64 c.a :: .int .u64 c.b :: flatC cs
theorem flatC_len : ∀ cs : List Cd, (flatC cs).length = cs.length * 3
  | [] => rfl
  | c :: cs => by simp only [flatC, List.length_cons, flatC_len cs]; omega
theorem flatC_app : ∀ (cs ds : List Cd), flatC (cs ++ ds) = flatC cs ++ flatC ds
  | [], _ => rfl
  | c :: cs, ds => by simp only [flatC, List.cons_append, flatC_app cs ds]
theorem cdAt_succ (c : Cd) (cs : List Cd) (i : Nat) : cdAt (c :: cs) (i + 1) = cdAt cs i := rfl
theorem flatC_get : ∀ (cs : List Cd) (i : Nat), i < cs.length → (flatC cs)[i * 3]? = some (.string (cdAt cs i).s) ∧ (flatC cs)[i * 3 + 1]? = some (.int .u64 (cdAt cs i).a) ∧ (flatC cs)[i * 3 + 2]? = some (.int .u64 (cdAt cs i).b)
  | [], i, h => absurd h (Nat.not_lt_zero _)
  | c :: cs, 0, _ => ⟨rfl, rfl, rfl⟩
  | c :: cs, i + 1, h => by
    have := flatC_get cs i (by simpa using h)
    rw [show (i + 1) * 3 = i * 3 + 1 + 1 + 1 by omega]
    exact this
theorem flatC_set : ∀ (cs : List Cd) (i : Nat) (c : Cd), (((flatC cs).set (i * 3) (.string c.s)).set (i * 3 + 1) (.int .u64 c.a)).set (i * 3 + 2) (.int .u64 c.b) = flatC (cs.set i c)
  | [], i, c => rfl
  | d :: cs, 0, c => rfl
  | d :: cs, i + 1, c => by
    rw [show (i + 1) * 3 = i * 3 + 1 + 1 + 1 by omega]
    have := flatC_set cs i c
    simp only [flatC, List.set_cons_succ, this]
/-- Cards of the call's own. -/
def OwnCards (B : Nat) (cs : List Cd) (v : Value) (w : World) : Prop := w.ownsRow B 30 3 v cs.length (flatC cs)
/-- The cells of cards. -/
def CellsC (w : World) (a : Option Addr) (cs : List Cd) : Prop := ∀ i, i < cs.length → ∃ b off, a = some ⟨b, off, none⟩ ∧ b < w.heap.size ∧ w.cell? ⟨b, off + i * 3, none⟩ = some (.string (cdAt cs i).s) ∧ w.cell? ⟨b, off + i * 3 + 1, none⟩ = some (.int .u64 (cdAt cs i).a) ∧ w.cell? ⟨b, off + i * 3 + 2, none⟩ = some (.int .u64 (cdAt cs i).b)
theorem ownCards_in {B : Nat} {cs : List Cd} {v : Value} {w : World} (h : OwnCards B cs v w) : ∃ a c, v = .slice a cs.length c ∧ CellsC w a cs := by
  have h0 := h
  obtain ⟨_, h2⟩ := h
  rcases h2 with ⟨rfl, hn⟩ | ⟨g, cap, cur, rfl, hb, hg, _⟩
  · exact ⟨none, 0, by rw [hn], fun i hi => by omega⟩
  · refine ⟨_, cap, rfl, fun i hi => ⟨g, 0, rfl, (Array.getElem?_eq_some_iff.1 hg).1, ?_, ?_, ?_⟩⟩
    · rw [Nat.zero_add, World.ownsRow.cellAt h0 _ (by omega)]; exact (flatC_get cs i hi).1
    · rw [Nat.zero_add, World.ownsRow.cellAt h0 _ (by omega)]; exact (flatC_get cs i hi).2.1
    · rw [Nat.zero_add, World.ownsRow.cellAt h0 _ (by omega)]; exact (flatC_get cs i hi).2.2
theorem cellsC_below {w w' : World} {a : Option Addr} {cs : List Cd} (h : CellsC w a cs) (hb : Below w.heap.size w w') : CellsC w' a cs := fun i hi => by
  obtain ⟨b, off, ha, hlt, h0, h1, h2⟩ := h i hi
  exact ⟨b, off, ha, Nat.lt_of_lt_of_le hlt hb.size, (hb.cell hlt).trans h0, (hb.cell hlt).trans h1, (hb.cell hlt).trans h2⟩
theorem cardsIn_of {w : World} {a : Option Addr} {cs : List Cd} (h : CellsC w a cs) (hf : ∀ i, i < cs.length → (cdAt cs i).fits) : CardsIn w a cs := fun i hi => ⟨hf i hi, h i hi⟩
theorem ownCards_kept {B : Nat} {cs : List Cd} {v : Value} {w w' : World} (h : OwnCards B cs v w) (hb : Below w.heap.size w w') : OwnCards B cs v w' := ownsRow_below h hb
theorem ownCards_weaken {B B' : Nat} {cs : List Cd} {v : Value} {w : World} (h : OwnCards B cs v w) (hb : B' ≤ B) : OwnCards B' cs v w := by
  obtain ⟨h1, h2⟩ := h
  refine ⟨h1, ?_⟩
  rcases h2 with hn | ⟨g, cap, cur, rfl, hB, rest⟩
  · exact .inl hn
  · exact .inr ⟨g, cap, cur, rfl, Nat.le_trans hb hB, rest⟩
theorem ownCards_oth {B g : Nat} {cs : List Cd} {v : Value} {w w' : World} (h : OwnCards B cs v w) (hb : Oth g w w') (hg : g < B) : OwnCards B cs v w' := by
  obtain ⟨h1, h2⟩ := h
  refine ⟨h1, ?_⟩
  rcases h2 with hn | ⟨b, cap, cur, rfl, hB, hh, rest⟩
  · exact .inl hn
  · exact .inr ⟨b, cap, cur, rfl, hB, (hb.block b (by omega) (Array.getElem?_eq_some_iff.1 hh).1).trans hh, rest⟩

/-- The card that is written with the number q. -/
def mkC (q : Nat) : Cd := ⟨mtext q, (q : Int) + 1, (q : Int) + 1 + 1⟩
/-- The first j cards are marked, from k on. -/
def Marked (k j : Nat) (cs : List Cd) : Prop := ∀ l, l < j → cdAt cs l = mkC (k + 3 * l)
theorem marked_next {k j : Nat} {cs : List Cd} (h : Marked k j cs) (hj : j < cs.length) : Marked k (j + 1) (cs.set j (mkC (k + 3 * j))) := by
  intro l hl
  unfold cdAt
  rw [List.getD, List.getElem?_set]
  by_cases e : j = l
  · subst e; simp [hj]
  · rw [if_neg e]; exact h l (by omega)

end Go.Proofs.YtllhglakihfjmaaDoor
