/- Edits of the call's own: they are written into and read again by the laws. -/
import Derived.Test.YtllhglakihfjmaaDoorEds2
import Derived.Test.YtllhglakihfjmaaDoorMarkC
import Derived.Test.YtllhglakihfjmaaDoorHeldC
namespace Go.Proofs.YtllhglakihfjmaaDoor
open Go.ChangeShapes Go.WideShapes Go.ChangeAt Go.RowKit

/-- They as cells. -/
def fled : List Ed → List Value
  | [] => []
  | c :: xs => .int .i8 c.k :: .string c.s :: .int .i16 c.h :: .int .u64 c.a :: .int .u64 c.b :: fled xs
theorem fled_len : ∀ xs : List Ed, (fled xs).length = xs.length * 5
  | [] => rfl
  | c :: xs => by simp only [fled, List.length_cons, fled_len xs]; omega
theorem fled_app : ∀ (xs ys : List Ed), fled (xs ++ ys) = fled xs ++ fled ys
  | [], _ => rfl
  | c :: xs, ys => by simp only [fled, List.cons_append, fled_app xs ys]
theorem edAt_succ (c : Ed) (xs : List Ed) (i : Nat) : edAt (c :: xs) (i + 1) = edAt xs i := rfl
theorem fled_get : ∀ (xs : List Ed) (i : Nat), i < xs.length → (fled xs)[i * 5]? = some (.int .i8 (edAt xs i).k) ∧ (fled xs)[i * 5 + 1]? = some (.string (edAt xs i).s) ∧ (fled xs)[i * 5 + 2]? = some (.int .i16 (edAt xs i).h) ∧ (fled xs)[i * 5 + 3]? = some (.int .u64 (edAt xs i).a) ∧ (fled xs)[i * 5 + 4]? = some (.int .u64 (edAt xs i).b)
  | [], i, h => absurd h (Nat.not_lt_zero _)
  | c :: xs, 0, _ => ⟨rfl, rfl, rfl, rfl, rfl⟩
  | c :: xs, i + 1, h => by
    have := fled_get xs i (by simpa using h)
    rw [show (i + 1) * 5 = i * 5 + 1 + 1 + 1 + 1 + 1 by omega]
    exact this
theorem fled_set : ∀ (xs : List Ed) (i : Nat) (c : Ed), ((((((fled xs).set (i * 5) (.int .i8 c.k)).set (i * 5 + 1) (.string c.s)).set (i * 5 + 2) (.int .i16 c.h)).set (i * 5 + 3) (.int .u64 c.a)).set (i * 5 + 4) (.int .u64 c.b)) = fled (xs.set i c)
  | [], i, c => rfl
  | d :: xs, 0, c => rfl
  | d :: xs, i + 1, c => by
    rw [show (i + 1) * 5 = i * 5 + 1 + 1 + 1 + 1 + 1 by omega]
    have := fled_set xs i c
    simp only [fled, List.set_cons_succ, this]
def OwnEdits (B : Nat) (xs : List Ed) (v : Value) (w : World) : Prop := w.ownsRow B 108 5 v xs.length (fled xs)
def Cellsed (w : World) (a : Option Addr) (xs : List Ed) : Prop := ∀ i, i < xs.length → ∃ b off, a = some ⟨b, off, none⟩ ∧ b < w.heap.size ∧ w.cell? ⟨b, off + i * 5, none⟩ = some (.int .i8 (edAt xs i).k) ∧ w.cell? ⟨b, off + i * 5 + 1, none⟩ = some (.string (edAt xs i).s) ∧ w.cell? ⟨b, off + i * 5 + 2, none⟩ = some (.int .i16 (edAt xs i).h) ∧ w.cell? ⟨b, off + i * 5 + 3, none⟩ = some (.int .u64 (edAt xs i).a) ∧ w.cell? ⟨b, off + i * 5 + 4, none⟩ = some (.int .u64 (edAt xs i).b)
theorem ownEdits_in {B : Nat} {xs : List Ed} {v : Value} {w : World} (h : OwnEdits B xs v w) : ∃ a c, v = .slice a xs.length c ∧ Cellsed w a xs := by
  have h0 := h
  obtain ⟨_, h2⟩ := h
  rcases h2 with ⟨rfl, hn⟩ | ⟨g, cap, cur, rfl, hb, hg, _⟩
  · exact ⟨none, 0, by rw [hn], fun i hi => by omega⟩
  · refine ⟨_, cap, rfl, fun i hi => ⟨g, 0, rfl, (Array.getElem?_eq_some_iff.1 hg).1, ?_, ?_, ?_, ?_, ?_⟩⟩
    · rw [Nat.zero_add, World.ownsRow.cellAt h0 _ (by omega)]; exact (fled_get xs i hi).1
    · rw [Nat.zero_add, World.ownsRow.cellAt h0 _ (by omega)]; exact (fled_get xs i hi).2.1
    · rw [Nat.zero_add, World.ownsRow.cellAt h0 _ (by omega)]; exact (fled_get xs i hi).2.2.1
    · rw [Nat.zero_add, World.ownsRow.cellAt h0 _ (by omega)]; exact (fled_get xs i hi).2.2.2.1
    · rw [Nat.zero_add, World.ownsRow.cellAt h0 _ (by omega)]; exact (fled_get xs i hi).2.2.2.2
theorem cellsed_below {w w' : World} {a : Option Addr} {xs : List Ed} (h : Cellsed w a xs) (hb : Below w.heap.size w w') : Cellsed w' a xs := fun i hi => by
  obtain ⟨b, off, ha, hlt, h0, h1, h2, h3, h4⟩ := h i hi
  exact ⟨b, off, ha, Nat.lt_of_lt_of_le hlt hb.size, (hb.cell hlt).trans h0, (hb.cell hlt).trans h1, (hb.cell hlt).trans h2, (hb.cell hlt).trans h3, (hb.cell hlt).trans h4⟩
theorem editsIn_of {w : World} {a : Option Addr} {xs : List Ed} (h : Cellsed w a xs) (hf : ∀ i, i < xs.length → (edAt xs i).fits) : EditsIn w a xs := fun i hi => ⟨hf i hi, h i hi⟩
theorem ownEdits_kept {B : Nat} {xs : List Ed} {v : Value} {w w' : World} (h : OwnEdits B xs v w) (hb : Below w.heap.size w w') : OwnEdits B xs v w' := owned_below h hb
theorem ownEdits_weaken {B B' : Nat} {xs : List Ed} {v : Value} {w : World} (h : OwnEdits B xs v w) (hb : B' ≤ B) : OwnEdits B' xs v w := by
  obtain ⟨h1, h2⟩ := h
  refine ⟨h1, ?_⟩
  rcases h2 with hn | ⟨g, cap, cur, rfl, hB, rest⟩
  · exact .inl hn
  · exact .inr ⟨g, cap, cur, rfl, Nat.le_trans hb hB, rest⟩
theorem ownEdits_oth {B g : Nat} {xs : List Ed} {v : Value} {w w' : World} (h : OwnEdits B xs v w) (hb : Oth g w w') (hg : g < B) : OwnEdits B xs v w' := by
  obtain ⟨h1, h2⟩ := h
  refine ⟨h1, ?_⟩
  rcases h2 with hn | ⟨b, cap, cur, rfl, hB, hh, rest⟩
  · exact .inl hn
  · exact .inr ⟨b, cap, cur, rfl, hB, (hb.block b (by omega) (Array.getElem?_eq_some_iff.1 hh).1).trans hh, rest⟩
theorem ownEdits_nil (w : World) (B : Nat) : OwnEdits B [] (.slice none 0 0) w := World.ownsRow_nil w B _ 5
theorem ownEdits_made {w : World} {m B : Nat} (hn : m = w.heap.size) (hB : B ≤ w.heap.size) : OwnEdits B [] (.slice (some ⟨m, 0, none⟩) 0 0) (w.alloc (.cells #[] 108)) := by
  subst hn; exact World.ownsRow_made w #[] 0 hB (Nat.zero_le _) rfl
theorem ownEdits_lt {B : Nat} {xs : List Ed} {v : Value} {w : World} (h : OwnEdits B xs v w) : ∀ j, v.ownBlock = some j → B ≤ j := fun j hj => (World.ownsRow.lt h j hj).1
theorem ownEdits_push {B : Nat} {xs : List Ed} {k : Int} {s : ByteArray} {hh : Int} {a : Int} {b : Int} {v : Value} {w : World} (h : w.ownsRow B 108 5 v (xs.length + 1) (fled xs ++ [.int .i8 k, .string s, .int .i16 hh, .int .u64 a, .int .u64 b])) : OwnEdits B (xs ++ [⟨k, s, hh, a, b⟩]) v w := by
  unfold OwnEdits; rw [fled_app, List.length_append]; exact h
theorem edits_cells {w : World} {g : Nat} {xs : List Ed} (h : EditsIn w (some ⟨g, 0, none⟩) xs) (hf : ∀ j, w.frozen? ⟨g, j, none⟩ = false) : Wb w g (xs.length * 5) := by
  refine ⟨fun j hj => ?_, fun j _ => hf j⟩
  obtain ⟨_, b, o, he, _, h0, h1, h2, h3, h4⟩ := h (j / 5) (by omega)
  cases he
  rcases (show j % 5 = 0 ∨ j % 5 = 1 ∨ j % 5 = 2 ∨ j % 5 = 3 ∨ j % 5 = 4 by omega) with e | e | e | e | e
  · exact ⟨_, by rw [show (⟨g, j, none⟩ : Addr) = ⟨g, 0 + j / 5 * 5, none⟩ from by congr 1; omega]; exact h0⟩
  · exact ⟨_, by rw [show (⟨g, j, none⟩ : Addr) = ⟨g, 0 + j / 5 * 5 + 1, none⟩ from by congr 1; omega]; exact h1⟩
  · exact ⟨_, by rw [show (⟨g, j, none⟩ : Addr) = ⟨g, 0 + j / 5 * 5 + 2, none⟩ from by congr 1; omega]; exact h2⟩
  · exact ⟨_, by rw [show (⟨g, j, none⟩ : Addr) = ⟨g, 0 + j / 5 * 5 + 3, none⟩ from by congr 1; omega]; exact h3⟩
  · exact ⟨_, by rw [show (⟨g, j, none⟩ : Addr) = ⟨g, 0 + j / 5 * 5 + 4, none⟩ from by congr 1; omega]; exact h4⟩

end Go.Proofs.YtllhglakihfjmaaDoor
