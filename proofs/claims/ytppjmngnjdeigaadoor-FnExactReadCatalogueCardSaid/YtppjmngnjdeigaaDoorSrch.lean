/- Contracts: a search in a catalogue that recovers what panics with an entry that is none. -/
import Derived.Test.YtppjmngnjdeigaaDoorCatV
import Derived.Defers
import Derived.Recover
import Derived.Laws.Pointers
namespace Go.Proofs.YtppjmngnjdeigaaDoor
open Go.ChangeShapes Go.WideShapes Go.ChangeAt Go.RowKit

/-- A panic with an entry that is none. -/
def Missing (x : Int) : Ending := .panicked [{ v := .iface 230 (.int .i64 x), recovered := false }]













end Go.Proofs.YtppjmngnjdeigaaDoor
