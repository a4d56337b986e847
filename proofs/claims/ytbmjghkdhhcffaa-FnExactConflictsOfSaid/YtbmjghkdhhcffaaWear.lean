/- Contracts: is wear valid; the wear turned over; how many holes are worn. -/
import Derived.Test.YtbmjghkdhhcffaaQuery
import Derived.Test.YtbmjghkdhhcffaaOpen
import Derived.Test.YtbmjghkdhhcffaaFloat
import Derived.Test.YtbmjghkdhhcffaaWith
import Derived.Deep.DeepCutAuto
namespace Go.Proofs.Ytbmjghkdhhcffaa
open Go.ChangeShapes Go.WideShapes Go.ChangeAt Go.RowKit



end Go.Proofs.Ytbmjghkdhhcffaa
