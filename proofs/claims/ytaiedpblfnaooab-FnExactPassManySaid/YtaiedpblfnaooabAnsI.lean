/- Contracts: what one of several queries drops; by the program (slices.ContainsFunc with a closure over a closure). -/
import Derived.Test.YtaiedpblfnaooabAns
import Derived.Test.YtaiedpblfnaooabMake1
import Derived.Test.YtaiedpblfnaooabFind
import Derived.Test.YtaiedpblfnaooabISort
namespace Go.Proofs.Ytaiedpblfnaooab
open Go.ChangeShapes Go.WideShapes Go.ChangeAt Go.RowKit

theorem iDropsFor_x (a b c d : Int) (w : World) :
    Calls Try.prog 171 #[.agg #[.int .u64 a, .int .u64 b, .int .u64 c, .int .u64 d]] w fun e w' => e = .returned (.func (.func 174) #[] #[.pointer (some ⟨w.heap.size, 0, none⟩)]) ∧ w.alloc (.cells #[.int .u64 a, .int .u64 b, .int .u64 c, .int .u64 d] 82) = w' := by
  have hmf : ∀ (fn : Fn) (first cap : Array Value) (w : World), (Instr.makeFunc fn first cap).run Try.prog w = .ok (.func fn first cap) w := fun _ _ _ _ => rfl
  go_enter Try.func171, Try.ntmps171
  go_wp2
  go_returns
  exact ⟨rfl, rfl⟩

/-- The query of a closure. -/
def ClQ (q : Qy) (x : Option Addr) (w : World) : Prop := ∃ b, x = some ⟨b, 0, none⟩ ∧ w.heap[b]? = some (.cells #[.int .u64 q.a, .int .u64 q.b, .int .u64 q.c, .int .u64 q.d] 82 (0, 0))


/-- The box of a card. -/
def CdB (g : Nat) (y : Cd) (w : World) : Prop := w.heap[g]? = some (.cells #[.string y.s, .int .u64 y.a, .int .u64 y.b] 116 (0, 0))


end Go.Proofs.Ytaiedpblfnaooab
