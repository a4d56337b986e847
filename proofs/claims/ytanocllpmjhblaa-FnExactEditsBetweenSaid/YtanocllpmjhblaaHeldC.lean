/- The laws' look at a marked deck (heldCardS). -/
import Derived.Test.YtanocllpmjhblaaMarkC
import Derived.Test.YtanocllpmjhblaaQuiet
import Derived.Test.YtanocllpmjhblaaBoxes
namespace Go.Proofs.Ytanocllpmjhblaa
open Go.ChangeShapes Go.WideShapes Go.ChangeAt Go.RowKit

end Go.Proofs.Ytanocllpmjhblaa
