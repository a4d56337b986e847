/- The laws' look at a marked deck (heldCardS). -/
import Derived.Test.YtbmjghkdhhcffaaMarkC
import Derived.Test.YtbmjghkdhhcffaaQuiet
import Derived.Test.YtbmjghkdhhcffaaBoxes
namespace Go.Proofs.Ytbmjghkdhhcffaa
open Go.ChangeShapes Go.WideShapes Go.ChangeAt Go.RowKit

end Go.Proofs.Ytbmjghkdhhcffaa
