/- Contracts: is wear valid; the wear turned over; how many holes are worn. -/
import Derived.Test.YtllhglakihfjmaaDoorQuery
import Derived.Test.YtllhglakihfjmaaDoorOpen
import Derived.Test.YtllhglakihfjmaaDoorFloat
import Derived.Test.YtllhglakihfjmaaDoorWith
import Derived.Deep.DeepCutAuto
namespace Go.Proofs.YtllhglakihfjmaaDoor
open Go.ChangeShapes Go.WideShapes Go.ChangeAt Go.RowKit



end Go.Proofs.YtllhglakihfjmaaDoor
