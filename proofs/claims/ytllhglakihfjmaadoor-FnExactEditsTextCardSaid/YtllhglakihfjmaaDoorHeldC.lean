/- The laws' look at a marked deck (heldCardS). -/
import Derived.Test.YtllhglakihfjmaaDoorMarkC
import Derived.Test.YtllhglakihfjmaaDoorQuiet
import Derived.Test.YtllhglakihfjmaaDoorBoxes
namespace Go.Proofs.YtllhglakihfjmaaDoor
open Go.ChangeShapes Go.WideShapes Go.ChangeAt Go.RowKit

end Go.Proofs.YtllhglakihfjmaaDoor
