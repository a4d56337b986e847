/- The words that may be in a mask: the model's list of them. -/
import Derived.Test.YtanocllpmjhblaaAdd
import Derived.Test.YtanocllpmjhblaaOwns
import Derived.Test.YtanocllpmjhblaaWithin
import Derived.Test.YtanocllpmjhblaaHole
import Derived.Laws.MakeOwn
namespace Go.Proofs.Ytanocllpmjhblaa
open Go.ChangeShapes Go.WideShapes Go.ChangeAt Go.RowKit

/-- Are the holes of a word within a mask? -/
def wi (t z : Int) (F : Int → Nat) (a b : Int) (s : ByteArray) : Bool := bits .and .u64 (hw0 t z F s : Int) a == (hw0 t z F s : Int) && bits .and .u64 (hw1 t z F s : Int) b == (hw1 t z F s : Int)
/-- The indices of the texts, of the first k, for which a test says yes. -/
def may (f : ByteArray → Bool) (zs : List ByteArray) : Nat → List Int
  | 0 => []
  | k + 1 => if f (zs.getD k ⟨#[]⟩) then may f zs k ++ [(k : Int)] else may f zs k
theorem may_yes {f : ByteArray → Bool} {zs : List ByteArray} {k : Nat} (h : f (zs.getD k ⟨#[]⟩) = true) : may f zs (k + 1) = may f zs k ++ [(k : Int)] := by show (if _ then _ else _) = _; rw [if_pos h]
theorem may_no {f : ByteArray → Bool} {zs : List ByteArray} {k : Nat} (h : f (zs.getD k ⟨#[]⟩) = false) : may f zs (k + 1) = may f zs k := by show (if _ then _ else _) = _; rw [if_neg (by rw [h]; decide)]
theorem may_len (f : ByteArray → Bool) (zs : List ByteArray) : ∀ k, (may f zs k).length ≤ k
  | 0 => Nat.le_refl _
  | k + 1 => by
    have := may_len f zs k
    cases h : f (zs.getD k ⟨#[]⟩)
    · rw [may_no h]; omega
    · rw [may_yes h, List.length_append]; simp; omega
theorem u_one_new (w : World) (x : Value) (t : TypeId) : ∀ j u, [x][j]? = some u → (w.alloc (.cells #[x] t)).cell? ((⟨w.heap.size, 0, none⟩ : Addr).add j) = some u := by
  intro j u h
  cases j with
  | zero => simp at h; subst h; simp [Addr.add]
  | succ => simp at h
theorem u_push {B : Nat} {zs : List Int} {x : Int} {v : Value} {w : World} (h : w.ownsRow B 2 1 v (zs.length + 1) (zs.map (Value.int .i64) ++ [.int .i64 x])) : OwnInts B (zs ++ [x]) v w := by unfold OwnInts; simpa using h
theorem u_lt {B : Nat} {zs : List Int} {v : Value} {w : World} (h : OwnInts B zs v w) : ∀ j, v.ownBlock = some j → B ≤ j := fun j hj => (World.ownsRow.lt h j hj).1
theorem u_none {w : World} {n B : Nat} (hn : n = w.heap.size) (hB : B ≤ w.heap.size) : OwnInts B [] (.slice (some ⟨n, 0, none⟩) 0 0) (w.alloc (.cells #[] 2)) := by
  subst hn; exact World.ownsRow_made w #[] 0 hB (Nat.zero_le _) rfl
theorem u_nil (B : Nat) (w : World) : OwnInts B [] (.slice none 0 0) w := ⟨by simp, .inl ⟨rfl, by simp⟩⟩
theorem u_weaken {B B' : Nat} {zs : List Int} {v : Value} {w : World} (h : OwnInts B zs v w) (hb : B' ≤ B) : OwnInts B' zs v w := by
  obtain ⟨h1, h2⟩ := h
  refine ⟨h1, ?_⟩
  rcases h2 with hn | ⟨g, cap, cur, rfl, hB, rest⟩
  · exact .inl hn
  · exact .inr ⟨g, cap, cur, rfl, Nat.le_trans hb hB, rest⟩
theorem block_old (w : World) (o : Obj) {k : Nat} (h : k < w.heap.size) : (w.alloc o).heap[k]? = w.heap[k]? := Below.heap_alloc _ _ _ h
/-- A list of numbers of the call's own. -/
def NumR (zs : List Int) (w : World) (e : Ending) (w' : World) : Prop := ∃ v, e = .returned v ∧ OwnInts w.heap.size zs v w' ∧ Below w.heap.size w w'

end Go.Proofs.Ytanocllpmjhblaa
