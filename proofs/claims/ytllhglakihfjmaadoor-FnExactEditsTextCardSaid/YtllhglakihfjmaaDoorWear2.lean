/- Contracts: wear turned over, between masks, behind wear, counted; the program's and the model's. -/
import Derived.Test.YtllhglakihfjmaaDoorWear
import Derived.Test.YtllhglakihfjmaaDoorBoxes
import Derived.Test.YtllhglakihfjmaaDoorCount
import Derived.Deep.DeepCutAuto
namespace Go.Proofs.YtllhglakihfjmaaDoor
open Go.ChangeShapes Go.WideShapes Go.ChangeAt Go.RowKit

theorem eRet {x y : Value} (h : x = y) : Ending.returned x = Ending.returned y := by rw [h]
/-- Four numbers, or none. -/
def wvR (ok : Bool) (x y z u : Int) : Value := .tuple #[.agg #[.int .u64 (if ok then x else 0), .int .u64 (if ok then y else 0), .int .u64 (if ok then z else 0), .int .u64 (if ok then u else 0)], .int .i64 (if ok then 0 else 1)]
theorem wvR_no (x y z u : Int) : .tuple #[.agg #[.int .u64 0, .int .u64 0, .int .u64 0, .int .u64 0], .int .i64 1] = wvR false x y z u := rfl
theorem wvR_yes (x y z u : Int) : .tuple #[.agg #[.int .u64 x, .int .u64 y, .int .u64 z, .int .u64 u], .int .i64 0] = wvR true x y z u := rfl
theorem wvR_parts (ok : Bool) (x y z u : Int) : ∃ p q r s c : Int, wvR ok x y z u = .tuple #[.agg #[.int .u64 p, .int .u64 q, .int .u64 r, .int .u64 s], .int .i64 c] := ⟨_, _, _, _, _, rfl⟩
theorem iMask_is {b : Int} (a : Int) {x : Bool} (h : (b / 4294967296 == 0) = x) : Hid (∀ w : World, Calls Tryd.prog 76 #[.agg #[.int .u64 a, .int .u64 b]] w fun e w' => e = .returned (.bool x) ∧ Below w.heap.size w w') := Lib.hid fun w => by
  cases x <;> go_enter Tryd.func76, Tryd.ntmps76 <;> go_wp2 <;> go_returns
  all_goals exact ⟨by simp , (by repeat' (first | (with_reducible exact Below.refl _ _) | (with_reducible assumption) | (with_reducible refine below_drewN ?_ _) | (with_reducible refine Below.drew ?_) | (with_reducible refine below_new ?_ _) | (with_reducible refine below_next ?_ (by with_reducible assumption)) | (with_reducible refine Below.setCell ?_ ?_ _) | go_size))⟩
theorem wblock_three (w : World) (o p q : Obj) : (((w.alloc o).alloc p).alloc q).heap[w.heap.size]? = some o ∧ (((w.alloc o).alloc p).alloc q).heap[w.heap.size + 1]? = some p ∧ (((w.alloc o).alloc p).alloc q).heap[w.heap.size + 2]? = some q := by
  show (((w.heap.push o).push p).push q)[w.heap.size]? = some o ∧ (((w.heap.push o).push p).push q)[w.heap.size + 1]? = some p ∧ (((w.heap.push o).push p).push q)[w.heap.size + 2]? = some q
  refine ⟨?_, ?_, ?_⟩
  · rw [Array.getElem?_push, if_neg (by simp; omega), Array.getElem?_push, if_neg (by simp)]; simp
  · rw [Array.getElem?_push, if_neg (by simp), Array.getElem?_push, if_pos (by simp)]
  · rw [Array.getElem?_push, if_pos (by simp)]









/-- A card, or none. -/
def wcR (ok : Bool) (s : ByteArray) (x y : Int) : Value := .tuple #[.agg #[.string (if ok then s else ByteArray.empty), .int .u64 (if ok then x else 0), .int .u64 (if ok then y else 0)], .int .i64 (if ok then 0 else 1)]
theorem wcR_no (s : ByteArray) (x y : Int) : .tuple #[.agg #[.string ByteArray.empty, .int .u64 0, .int .u64 0], .int .i64 1] = wcR false s x y := rfl
theorem wcR_yes (s : ByteArray) (x y : Int) : .tuple #[.agg #[.string s, .int .u64 x, .int .u64 y], .int .i64 0] = wcR true s x y := rfl
theorem wcR_parts (ok : Bool) (s : ByteArray) (x y : Int) : ∃ (r : ByteArray) (p q c : Int), wcR ok s x y = .tuple #[.agg #[.string r, .int .u64 p, .int .u64 q], .int .i64 c] := ⟨_, _, _, _, rfl⟩


end Go.Proofs.YtllhglakihfjmaaDoor
