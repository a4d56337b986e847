/- Two rows of different things lie apart; a row stays where another grows. -/
import Derived.Laws.AppendOwn
import Derived.Laws.OwnMore
import Derived.Deep.OwnRows
import Derived.Test.YtbmjghkdhhcffaaDoorBase
namespace Go.Proofs.YtbmjghkdhhcffaaDoor
open Go.ChangeShapes Go.WideShapes Go.ChangeAt Go.RowKit

theorem ss_ne {w : World} {B C e f k l n m : Nat} {u v : Value} {xs ys : List Value} (h : w.ownsRow B e k v n xs) (g : w.ownsRow C f l u m ys) (hne : e ≠ f) : ∀ j, v.ownBlock = some j → u.ownBlock ≠ some j := by
  obtain ⟨_, h2⟩ := h
  obtain ⟨_, g2⟩ := g
  intro j hj hk
  rcases h2 with ⟨rfl, _⟩ | ⟨b, _, _, rfl, _, hb, _⟩
  · cases hj
  rcases g2 with ⟨rfl, _⟩ | ⟨b2, _, _, rfl, _, hb2, _⟩
  · cases hk
  cases hj
  cases hk
  have e2 := hb.symm.trans hb2
  injection e2 with e2
  injection e2 with _ e2 _
  exact hne e2

theorem row_grown {w w' : World} {B e k n : Nat} {v : Value} {r : Option Nat} {xs : List Value} (h : w.ownsRow B e k v n xs) (hg : w.grownBy w' r) (hne : ∀ j, v.ownBlock = some j → r ≠ some j) : w'.ownsRow B e k v n xs := by
  obtain ⟨h1, h2⟩ := h
  refine ⟨h1, ?_⟩
  rcases h2 with hn | ⟨b, cap, cur, rfl, hB, hb, rest⟩
  · exact .inl hn
  · exact .inr ⟨b, cap, cur, rfl, hB, (hg.block b (Array.getElem?_eq_some_iff.1 hb).1 (fun e => hne b rfl e.symm)).trans hb, rest⟩

end Go.Proofs.YtbmjghkdhhcffaaDoor
