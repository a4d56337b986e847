/- The laws' mark on a deck of the call's own: some texts and numbers are written into it; nothing else is touched. -/
import Derived.Test.YtllhglakihfjmaaDoorInts
import Derived.Test.YtllhglakihfjmaaDoorFloat
import Derived.Deep.DeepCutAuto
namespace Go.Proofs.YtllhglakihfjmaaDoor
open Go.ChangeShapes Go.WideShapes Go.ChangeAt Go.RowKit

theorem conv_one (W : World) (u : UInt8) : (convert 73 9 (.slice (some ⟨W.heap.size, 0, none⟩) 1 1)).run Tryd.prog (W.alloc (.cells #[.int .u8 (u.toNat : Int)] 5)) = .ok (.string ⟨#[u]⟩) (W.alloc (.cells #[.int .u8 (u.toNat : Int)] 5)) := by
  have h := run_convert_bytes_back (P := Tryd.prog) (W.alloc (.cells #[.int .u8 (u.toNat : Int)] 5)) 73 9 5 ⟨W.heap.size, 0, none⟩ 1 [u] Tryd.underlying73 Tryd.underlying5 Tryd.underlying9 (fun j hj => by
    have hj0 : j = 0 := by simp at hj; omega
    subst hj0
    simp [Addr.add])
  simpa using h

end Go.Proofs.YtllhglakihfjmaaDoor
