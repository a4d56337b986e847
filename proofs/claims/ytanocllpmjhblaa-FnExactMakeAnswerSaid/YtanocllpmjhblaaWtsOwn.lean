/- Witnesses of the call's own: they are written into and read again by the laws. -/
import Derived.Test.YtanocllpmjhblaaWts2
import Derived.Test.YtanocllpmjhblaaOth
import Derived.Test.YtanocllpmjhblaaMarkT
namespace Go.Proofs.Ytanocllpmjhblaa
open Go.ChangeShapes Go.WideShapes Go.ChangeAt Go.RowKit

/-- They as cells. -/
def flwt : List Wt → List Value
  | [] => []
  | c :: xs => .int .i64 c.c :: .int .i16 c.h :: flwt xs
theorem flwt_len : ∀ xs : List Wt, (flwt xs).length = xs.length * 2
  | [] => rfl
  | c :: xs => by simp only [flwt, List.length_cons, flwt_len xs]; omega
theorem flwt_app : ∀ (xs ys : List Wt), flwt (xs ++ ys) = flwt xs ++ flwt ys
  | [], _ => rfl
  | c :: xs, ys => by simp only [flwt, List.cons_append, flwt_app xs ys]
theorem wtAt_succ (c : Wt) (xs : List Wt) (i : Nat) : wtAt (c :: xs) (i + 1) = wtAt xs i := rfl
theorem flwt_get : ∀ (xs : List Wt) (i : Nat), i < xs.length → (flwt xs)[i * 2]? = some (.int .i64 (wtAt xs i).c) ∧ (flwt xs)[i * 2 + 1]? = some (.int .i16 (wtAt xs i).h)
  | [], i, h => absurd h (Nat.not_lt_zero _)
  | c :: xs, 0, _ => ⟨rfl, rfl⟩
  | c :: xs, i + 1, h => by
    have := flwt_get xs i (by simpa using h)
    rw [show (i + 1) * 2 = i * 2 + 1 + 1 by omega]
    exact this
theorem flwt_set : ∀ (xs : List Wt) (i : Nat) (c : Wt), (((flwt xs).set (i * 2) (.int .i64 c.c)).set (i * 2 + 1) (.int .i16 c.h)) = flwt (xs.set i c)
  | [], i, c => rfl
  | d :: xs, 0, c => rfl
  | d :: xs, i + 1, c => by
    rw [show (i + 1) * 2 = i * 2 + 1 + 1 by omega]
    have := flwt_set xs i c
    simp only [flwt, List.set_cons_succ, this]
def OwnWits (B : Nat) (xs : List Wt) (v : Value) (w : World) : Prop := w.ownsRow B 118 2 v xs.length (flwt xs)
def Cellswt (w : World) (a : Option Addr) (xs : List Wt) : Prop := ∀ i, i < xs.length → ∃ b off, a = some ⟨b, off, none⟩ ∧ b < w.heap.size ∧ w.cell? ⟨b, off + i * 2, none⟩ = some (.int .i64 (wtAt xs i).c) ∧ w.cell? ⟨b, off + i * 2 + 1, none⟩ = some (.int .i16 (wtAt xs i).h)
theorem ownWits_in {B : Nat} {xs : List Wt} {v : Value} {w : World} (h : OwnWits B xs v w) : ∃ a c, v = .slice a xs.length c ∧ Cellswt w a xs := by
  have h0 := h
  obtain ⟨_, h2⟩ := h
  rcases h2 with ⟨rfl, hn⟩ | ⟨g, cap, cur, rfl, hb, hg, _⟩
  · exact ⟨none, 0, by rw [hn], fun i hi => by omega⟩
  · refine ⟨_, cap, rfl, fun i hi => ⟨g, 0, rfl, (Array.getElem?_eq_some_iff.1 hg).1, ?_, ?_⟩⟩
    · rw [Nat.zero_add, World.ownsRow.cellAt h0 _ (by omega)]; exact (flwt_get xs i hi).1
    · rw [Nat.zero_add, World.ownsRow.cellAt h0 _ (by omega)]; exact (flwt_get xs i hi).2
theorem cellswt_below {w w' : World} {a : Option Addr} {xs : List Wt} (h : Cellswt w a xs) (hb : Below w.heap.size w w') : Cellswt w' a xs := fun i hi => by
  obtain ⟨b, off, ha, hlt, h0, h1⟩ := h i hi
  exact ⟨b, off, ha, Nat.lt_of_lt_of_le hlt hb.size, (hb.cell hlt).trans h0, (hb.cell hlt).trans h1⟩
theorem witsIn_of {w : World} {a : Option Addr} {xs : List Wt} (h : Cellswt w a xs) (hf : ∀ i, i < xs.length → (wtAt xs i).fits) : WitsIn w a xs := fun i hi => ⟨hf i hi, h i hi⟩
theorem ownWits_kept {B : Nat} {xs : List Wt} {v : Value} {w w' : World} (h : OwnWits B xs v w) (hb : Below w.heap.size w w') : OwnWits B xs v w' := ownwt_below h hb
theorem ownWits_weaken {B B' : Nat} {xs : List Wt} {v : Value} {w : World} (h : OwnWits B xs v w) (hb : B' ≤ B) : OwnWits B' xs v w := by
  obtain ⟨h1, h2⟩ := h
  refine ⟨h1, ?_⟩
  rcases h2 with hn | ⟨g, cap, cur, rfl, hB, rest⟩
  · exact .inl hn
  · exact .inr ⟨g, cap, cur, rfl, Nat.le_trans hb hB, rest⟩
theorem ownWits_oth {B g : Nat} {xs : List Wt} {v : Value} {w w' : World} (h : OwnWits B xs v w) (hb : Oth g w w') (hg : g < B) : OwnWits B xs v w' := by
  obtain ⟨h1, h2⟩ := h
  refine ⟨h1, ?_⟩
  rcases h2 with hn | ⟨b, cap, cur, rfl, hB, hh, rest⟩
  · exact .inl hn
  · exact .inr ⟨b, cap, cur, rfl, hB, (hb.block b (by omega) (Array.getElem?_eq_some_iff.1 hh).1).trans hh, rest⟩
theorem ownWits_nil (w : World) (B : Nat) : OwnWits B [] (.slice none 0 0) w := World.ownsRow_nil w B _ 2
theorem ownWits_made {w : World} {m B : Nat} (hn : m = w.heap.size) (hB : B ≤ w.heap.size) : OwnWits B [] (.slice (some ⟨m, 0, none⟩) 0 0) (w.alloc (.cells #[] 118)) := by
  subst hn; exact World.ownsRow_made w #[] 0 hB (Nat.zero_le _) rfl
theorem ownWits_lt {B : Nat} {xs : List Wt} {v : Value} {w : World} (h : OwnWits B xs v w) : ∀ j, v.ownBlock = some j → B ≤ j := fun j hj => (World.ownsRow.lt h j hj).1
theorem ownWits_push {B : Nat} {xs : List Wt} {c : Int} {h : Int} {v : Value} {w : World} (hh : w.ownsRow B 118 2 v (xs.length + 1) (flwt xs ++ [.int .i64 c, .int .i16 h])) : OwnWits B (xs ++ [⟨c, h⟩]) v w := by
  unfold OwnWits; rw [flwt_app, List.length_append]; exact hh
theorem wits_cells {w : World} {g : Nat} {xs : List Wt} (h : WitsIn w (some ⟨g, 0, none⟩) xs) (hf : ∀ j, w.frozen? ⟨g, j, none⟩ = false) : Wb w g (xs.length * 2) := by
  refine ⟨fun j hj => ?_, fun j _ => hf j⟩
  obtain ⟨_, b, o, he, _, h0, h1⟩ := h (j / 2) (by omega)
  cases he
  rcases (show j % 2 = 0 ∨ j % 2 = 1 by omega) with e | e
  · exact ⟨_, by rw [show (⟨g, j, none⟩ : Addr) = ⟨g, 0 + j / 2 * 2, none⟩ from by congr 1; omega]; exact h0⟩
  · exact ⟨_, by rw [show (⟨g, j, none⟩ : Addr) = ⟨g, 0 + j / 2 * 2 + 1, none⟩ from by congr 1; omega]; exact h1⟩

end Go.Proofs.Ytanocllpmjhblaa
