/- Contracts: is wear valid; the wear turned over; how many holes are worn. -/
import Derived.Test.YtanocllpmjhblaaQuery
import Derived.Test.YtanocllpmjhblaaOpen
import Derived.Test.YtanocllpmjhblaaFloat
import Derived.Test.YtanocllpmjhblaaWith
import Derived.Deep.DeepCutAuto
namespace Go.Proofs.Ytanocllpmjhblaa
open Go.ChangeShapes Go.WideShapes Go.ChangeAt Go.RowKit



end Go.Proofs.Ytanocllpmjhblaa
