/- Contracts: is wear valid; the wear turned over; how many holes are worn. -/
import Derived.Test.YtaiedpblfnaooacQuery
import Derived.Test.YtaiedpblfnaooacOpen
import Derived.Test.YtaiedpblfnaooacFloat
import Derived.Test.YtaiedpblfnaooacWith
import Derived.Deep.DeepCutAuto
namespace Go.Proofs.Ytaiedpblfnaooac
open Go.ChangeShapes Go.WideShapes Go.ChangeAt Go.RowKit



end Go.Proofs.Ytaiedpblfnaooac
