/- Contracts: is wear valid; the wear turned over; how many holes are worn. -/
import Derived.Test.YtpgonfeobfefaaaQuery
import Derived.Test.YtpgonfeobfefaaaOpen
import Derived.Test.YtpgonfeobfefaaaFloat
import Derived.Test.YtpgonfeobfefaaaWith
import Derived.Deep.DeepCutAuto
namespace Go.Proofs.Ytpgonfeobfefaaa
open Go.ChangeShapes Go.WideShapes Go.ChangeAt Go.RowKit



end Go.Proofs.Ytpgonfeobfefaaa
