/- The model's split of a deck by a hole: two decks of the call's own that grow in one loop. -/
import Derived.Test.YtanocllpmjhblaaHeldC
import Derived.Test.YtanocllpmjhblaaApp2
import Derived.Test.YtanocllpmjhblaaBit
import Derived.Test.YtanocllpmjhblaaHole
namespace Go.Proofs.Ytanocllpmjhblaa
open Go.ChangeShapes Go.WideShapes Go.ChangeAt Go.RowKit

def dropTo (h : Int) (cs : List Cd) (k : Nat) : List Cd := (cs.take k).filter fun c => hasB c.a c.b h
def stayTo (h : Int) (cs : List Cd) (k : Nat) : List Cd := (cs.take k).filter fun c => !hasB c.a c.b h
theorem take_next {cs : List Cd} {k : Nat} (hk : k < cs.length) : cs.take (k + 1) = cs.take k ++ [cdAt cs k] := by
  rw [List.take_add_one, List.getElem?_eq_getElem hk]
  unfold cdAt
  rw [List.getD, List.getElem?_eq_getElem hk]
  rfl
theorem drop_yes {h : Int} {cs : List Cd} {k : Nat} (hk : k < cs.length) (e : hasB (cdAt cs k).a (cdAt cs k).b h = true) : dropTo h cs (k + 1) = dropTo h cs k ++ [cdAt cs k] ∧ stayTo h cs (k + 1) = stayTo h cs k := by
  unfold dropTo stayTo
  rw [take_next hk, List.filter_append, List.filter_append]
  simp [e]
theorem drop_no {h : Int} {cs : List Cd} {k : Nat} (hk : k < cs.length) (e : hasB (cdAt cs k).a (cdAt cs k).b h = false) : dropTo h cs (k + 1) = dropTo h cs k ∧ stayTo h cs (k + 1) = stayTo h cs k ++ [cdAt cs k] := by
  unfold dropTo stayTo
  rw [take_next hk, List.filter_append, List.filter_append]
  simp [e]
theorem dropTo_len (h : Int) (cs : List Cd) (k : Nat) : (dropTo h cs k).length ≤ k := Nat.le_trans (List.length_filter_le _ _) (by rw [List.length_take]; omega)
theorem stayTo_len (h : Int) (cs : List Cd) (k : Nat) : (stayTo h cs k).length ≤ k := Nat.le_trans (List.length_filter_le _ _) (by rw [List.length_take]; omega)

/-- A slice that is not nil, over cards of the call's own. -/
def Deck1 (B : Nat) (cs : List Cd) (v : Value) (w : World) : Prop := OwnCards B cs v w ∧ ∃ g c, v = .slice (some ⟨g, 0, none⟩) cs.length c
theorem deck1_none {w : World} {n B : Nat} {t : TypeId} (ht : t = 89) (hn : n = w.heap.size) (hB : B ≤ w.heap.size) : Deck1 B [] (.slice (some ⟨n, 0, none⟩) 0 0) (w.alloc (.cells #[] t)) := by
  subst hn ht
  exact ⟨World.ownsRow_made w #[] 0 hB (Nat.zero_le _) rfl, _, _, rfl⟩
theorem deck1_push {B : Nat} {cs : List Cd} {x : Cd} {v : Value} {w : World} (h : w.ownsRow B 89 3 v (cs.length + 1) (flatC cs ++ [.string x.s, .int .u64 x.a, .int .u64 x.b])) : Deck1 B (cs ++ [x]) v w := by
  have e : flatC (cs ++ [x]) = flatC cs ++ [.string x.s, .int .u64 x.a, .int .u64 x.b] := by rw [flatC_app]; rfl
  have l : (cs ++ [x]).length = cs.length + 1 := by simp
  have o : OwnCards B (cs ++ [x]) v w := by unfold OwnCards; rw [e, l]; exact h
  refine ⟨o, ?_⟩
  rcases h.2 with ⟨_, hz⟩ | ⟨g, cap, _, hv, _⟩
  · omega
  · exact ⟨g, cap, by rw [l]; exact hv⟩
theorem deck1_kept {B : Nat} {cs : List Cd} {v : Value} {w w' : World} (h : Deck1 B cs v w) (hb : Below w.heap.size w w') : Deck1 B cs v w' := ⟨ownCards_kept h.1 hb, h.2⟩
theorem row_grown {w w' : World} {B e k n : Nat} {v : Value} {r : Option Nat} {xs : List Value} (h : w.ownsRow B e k v n xs) (hg : w.grownBy w' r) (hne : ∀ j, v.ownBlock = some j → r ≠ some j) : w'.ownsRow B e k v n xs := by
  obtain ⟨h1, h2⟩ := h
  refine ⟨h1, ?_⟩
  rcases h2 with hn | ⟨b, cap, cur, rfl, hB, hb, rest⟩
  · exact .inl hn
  · exact .inr ⟨b, cap, cur, rfl, hB, (hg.block b (Array.getElem?_eq_some_iff.1 hb).1 (fun e => hne b rfl e.symm)).trans hb, rest⟩
theorem new3 (w : World) (x y z : Value) (t : TypeId) : ∀ j u, [x, y, z][j]? = some u → (w.alloc (.cells #[x, y, z] t)).cell? ((⟨w.heap.size, 0, none⟩ : Addr).add j) = some u := by
  intro j u h
  match j, h with
  | 0, h => simp at h; subst h; simp [Addr.add]
  | 1, h => simp at h; subst h; simp [Addr.add]
  | 2, h => simp at h; subst h; simp [Addr.add]
/-- Two slices lie in blocks of their own. -/
def Apart (v u : Value) : Prop := ∀ k, v.ownBlock = some k → u.ownBlock ≠ some k
theorem Apart.symm {v u : Value} (h : Apart v u) : Apart u v := fun k hk hv => h k hv hk
/-- Two decks, and a number. -/
def TwoR (xs ys : List Cd) (w : World) (e : Ending) (w' : World) : Prop := ∃ v u, e = .returned (.tuple #[v, u]) ∧ Deck1 w.heap.size xs v w' ∧ Deck1 w.heap.size ys u w' ∧ Apart v u ∧ Below w.heap.size w w'

end Go.Proofs.Ytanocllpmjhblaa
