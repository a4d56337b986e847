/- What a mask says about words: the program's hint. -/
import Derived.Test.YtanocllpmjhblaaMay
import Derived.Test.YtanocllpmjhblaaMPart
import Derived.OneCell
import Derived.Below
namespace Go.Proofs.Ytanocllpmjhblaa
open Go.ChangeShapes Go.WideShapes Go.ChangeAt Go.RowKit

theorem info_maskW : (Try.prog.info? 53).map (fun i => (i.zero, i.size, i.bytes)) = some (some (.agg #[.int .u64 0, .int .u64 0]), 2, 16) := by kernel_rfl
/-- Masks of the call's own, n of them. -/
def OwnM (B : Nat) (u : Value) (n : Nat) (w : World) : Prop := ∃ ms, w.ownsRow B 53 2 u n ms
theorem ownM_in {B n : Nat} {u : Value} {w : World} (h : OwnM B u n w) : ∃ a c, u = .slice a n c := by
  obtain ⟨ms, _, h2⟩ := h
  rcases h2 with ⟨rfl, hn⟩ | ⟨g, cap, _, rfl, _⟩
  · exact ⟨none, 0, by rw [hn]⟩
  · exact ⟨_, _, rfl⟩
theorem row_slice {w : World} {B e k n : Nat} {v : Value} {xs : List Value} (h : w.ownsRow B e k v n xs) : ∃ a c, v = .slice a n c := by
  obtain ⟨_, h2⟩ := h
  rcases h2 with ⟨rfl, hn⟩ | ⟨g, cap, _, rfl, _⟩
  · exact ⟨none, 0, by rw [hn]⟩
  · exact ⟨_, _, rfl⟩
theorem rows_ne {w : World} {B e f k l n m : Nat} {u v : Value} {xs ys : List Value} (h : w.ownsRow B e k v n xs) (g : w.ownsRow B f l u m ys) (hne : e ≠ f) : ∀ j, v.ownBlock = some j → u.ownBlock ≠ some j := by
  obtain ⟨_, h2⟩ := h
  obtain ⟨_, g2⟩ := g
  intro j hj hk
  rcases h2 with ⟨rfl, _⟩ | ⟨b, _, _, rfl, _, hb, _⟩
  · cases hj
  rcases g2 with ⟨rfl, _⟩ | ⟨b2, _, _, rfl, _, hb2, _⟩
  · cases hk
  cases hj
  cases hk
  have e2 := hb.symm.trans hb2
  injection e2 with e2
  injection e2 with _ e2 _
  exact hne e2
theorem row_grown {w w' : World} {B e k n : Nat} {v : Value} {r : Option Nat} {xs : List Value} (h : w.ownsRow B e k v n xs) (hg : w.grownBy w' r) (hne : ∀ j, v.ownBlock = some j → r ≠ some j) : w'.ownsRow B e k v n xs := by
  obtain ⟨h1, h2⟩ := h
  refine ⟨h1, ?_⟩
  rcases h2 with hn | ⟨b, cap, cur, rfl, hB, hb, rest⟩
  · exact .inl hn
  · exact .inr ⟨b, cap, cur, rfl, hB, (hg.block b (Array.getElem?_eq_some_iff.1 hb).1 (fun e => hne b rfl e.symm)).trans hb, rest⟩
theorem row_kept {w w' : World} {B e k n : Nat} {v : Value} {xs : List Value} (h : w.ownsRow B e k v n xs) (hb : Below w.heap.size w w') : w'.ownsRow B e k v n xs := by
  obtain ⟨h1, h2⟩ := h
  refine ⟨h1, ?_⟩
  rcases h2 with hn | ⟨b, cap, cur, rfl, hB, hh, rest⟩
  · exact .inl hn
  · exact .inr ⟨b, cap, cur, rfl, hB, (hb.block b (Array.getElem?_eq_some_iff.1 hh).1).trans hh, rest⟩
theorem m_nil (B : Nat) (w : World) : OwnM B (.slice none 0 0) 0 w := ⟨[], by simp, .inl ⟨rfl, rfl⟩⟩
theorem m_new (w : World) (x y : Value) (t : TypeId) : ∀ j u, [x, y][j]? = some u → (w.alloc (.cells #[x, y] t)).cell? ((⟨w.heap.size, 0, none⟩ : Addr).add j) = some u := by
  intro j u h
  match j, h with
  | 0, h => simp at h; subst h; simp [Addr.add]
  | 1, h => simp at h; subst h; simp [Addr.add]
theorem strs_one (w : World) (s : ByteArray) (t : TypeId) : StrsIn (w.alloc (.cells #[.string s] t)) (some ⟨w.heap.size, 0, none⟩) [s] := fun i hi => by
  have hi0 : i = 0 := by simp at hi; omega
  subst hi0
  exact ⟨w.heap.size, 0, rfl, by simp, by simp⟩
theorem fit_one {s : ByteArray} (hs : s.size ≤ maxLen) : Fit [s] := fun i hi => by
  have hi0 : i = 0 := by simp at hi; omega
  subst hi0
  exact hs
theorem A0_one (t z : Int) (F : Int → Nat) (s : ByteArray) : A0 t z F [s] 1 = hw0 t z F s := Nat.zero_or _
theorem A1_one (t z : Int) (F : Int → Nat) (s : ByteArray) : A1 t z F [s] 1 = hw1 t z F s := Nat.zero_or _

/-- What is due: the code, and the indices. -/
def mayL (c : Int) (xs : List Int) : List Int := if c = 0 then xs else []
theorem mayL_no {c : Int} {xs : List Int} (h : c ≠ 0) : mayL c xs = [] := if_neg h
theorem mayL_yes (xs : List Int) : mayL 0 xs = xs := rfl

theorem own_below {w : World} {B k : Nat} {xs : List Int} {v : Value} (h : OwnInts (B + 3) xs v w) (x : Value) : OwnInts (B + 3) xs v (w.setCell ⟨B + 2, k, none⟩ x) := ownsRow_setCell_below h (show B + 2 < B + 3 by omega) x
theorem ab_new (w : World) (o : Obj) : Ab w (w.alloc o) := below_new (Below.refl _ _) _

end Go.Proofs.Ytanocllpmjhblaa
