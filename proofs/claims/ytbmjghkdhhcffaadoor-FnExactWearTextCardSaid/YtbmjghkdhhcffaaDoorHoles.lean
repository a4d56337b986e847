/- Contracts: the holes of a mask as a list, the model's loop. -/
import Derived.Test.YtbmjghkdhhcffaaDoorOwns
import Derived.Test.YtbmjghkdhhcffaaDoorBit
import Derived.Laws.MakeOwn
namespace Go.Proofs.YtbmjghkdhhcffaaDoor
open Go.ChangeShapes Go.WideShapes Go.ChangeAt Go.RowKit

/-- The numbers below k of which a test says yes. -/
def hol (f : Int → Bool) (k : Nat) : List Int := ((List.range k).map fun i : Nat => (i : Int)).filter f
theorem hol_zero (f : Int → Bool) : hol f 0 = [] := rfl
theorem hol_yes {f : Int → Bool} {k : Nat} (h : f (k : Int) = true) : hol f (k + 1) = hol f k ++ [(k : Int)] := by
  unfold hol; rw [List.range_succ, List.map_append, List.filter_append]; simp [h]
theorem hol_no {f : Int → Bool} {k : Nat} (h : f (k : Int) = false) : hol f (k + 1) = hol f k := by
  unfold hol; rw [List.range_succ, List.map_append, List.filter_append]; simp [h]
theorem hol_len (f : Int → Bool) (k : Nat) : (hol f k).length ≤ k := by
  unfold hol
  have := List.length_filter_le f ((List.range k).map fun i : Nat => (i : Int))
  simpa using this
theorem one_new (w : World) (x : Value) (t : TypeId) : ∀ j u, [x][j]? = some u → (w.alloc (.cells #[x] t)).cell? ((⟨w.heap.size, 0, none⟩ : Addr).add j) = some u := by
  intro j u h
  cases j with
  | zero => simp at h; subst h; simp [Addr.add]
  | succ => simp at h
theorem own_push {B : Nat} {zs : List Int} {x : Int} {v : Value} {w : World} (h : w.ownsRow B 2 1 v (zs.length + 1) (zs.map (Value.int .i64) ++ [.int .i64 x])) : OwnInts B (zs ++ [x]) v w := by unfold OwnInts; simpa using h
theorem own_lt {B : Nat} {zs : List Int} {v : Value} {w : World} (h : OwnInts B zs v w) : ∀ j, v.ownBlock = some j → B ≤ j := fun j hj => (World.ownsRow.lt h j hj).1

theorem own_none {w : World} {n B : Nat} (hn : n = w.heap.size) (hB : B ≤ w.heap.size) : OwnInts B [] (.slice (some ⟨n, 0, none⟩) 0 0) (w.alloc (.cells #[] 2)) := by
  subst hn; exact World.ownsRow_made w #[] 0 hB (Nat.zero_le _) rfl

end Go.Proofs.YtbmjghkdhhcffaaDoor
