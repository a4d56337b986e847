/- Contracts: is wear valid; the wear turned over; how many holes are worn. -/
import Derived.Test.YtpgonfeobfefaaaDoorQuery
import Derived.Test.YtpgonfeobfefaaaDoorOpen
import Derived.Test.YtpgonfeobfefaaaDoorFloat
import Derived.Test.YtpgonfeobfefaaaDoorWith
import Derived.Deep.DeepCutAuto
namespace Go.Proofs.YtpgonfeobfefaaaDoor
open Go.ChangeShapes Go.WideShapes Go.ChangeAt Go.RowKit



end Go.Proofs.YtpgonfeobfefaaaDoor
