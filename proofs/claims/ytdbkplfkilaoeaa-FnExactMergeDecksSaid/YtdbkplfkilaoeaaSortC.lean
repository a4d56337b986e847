/- Contracts: IsSorted, the program's and the model's. -/
import Derived.Test.YtdbkplfkilaoeaaSortI
import Derived.Test.YtdbkplfkilaoeaaVFi
import Derived.Test.YtdbkplfkilaoeaaVFs
namespace Go.Proofs.Ytdbkplfkilaoeaa
open Go.ChangeShapes Go.WideShapes Go.ChangeAt Go.RowKit

theorem eRet {x y : Value} (h : x = y) : Ending.returned x = Ending.returned y := by rw [h]
def isR (ok v : Bool) : Value := .tuple #[.bool (ok && v), .int .i64 (if ok then 0 else 1)]
theorem isR_no (v : Bool) : .tuple #[.bool false, .int .i64 1] = isR false v := rfl
theorem isR_yes (v : Bool) : .tuple #[.bool v, .int .i64 0] = isR true v := by unfold isR; rw [Bool.true_and]; rfl
theorem isR_parts (ok v : Bool) : ∃ (x : Bool) (y : Int), isR ok v = .tuple #[.bool x, .int .i64 y] := ⟨_, _, rfl⟩
/-- A field's box, and what lies below. -/
def FBox (w W : World) (s : ByteArray) (k st sz : Int) : Prop := W.heap[w.heap.size]? = some (.cells #[.string s, .int .i8 k, .int .i16 st, .int .i16 sz] 38 (0, 0)) ∧ Below w.heap.size w W
theorem fBox_start (w : World) (s : ByteArray) (k st sz : Int) : FBox w (w.alloc (.cells #[.string s, .int .i8 k, .int .i16 st, .int .i16 sz] 38)) s k st sz := ⟨block_alloc _ _, below_new (Below.refl _ _) _⟩
theorem fBox_ab {w W W' : World} {s : ByteArray} {k st sz : Int} (h : FBox w W s k st sz) (hb : Ab W W') : FBox w W' s k st sz := ⟨hb.block h.1, h.2.trans (Below.mono hb h.2.size)⟩


end Go.Proofs.Ytdbkplfkilaoeaa
