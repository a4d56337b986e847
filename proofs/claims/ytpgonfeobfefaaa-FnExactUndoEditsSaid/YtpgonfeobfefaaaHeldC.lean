/- The laws' look at a marked deck (heldCardS). -/
import Derived.Test.YtpgonfeobfefaaaMarkC
import Derived.Test.YtpgonfeobfefaaaQuiet
import Derived.Test.YtpgonfeobfefaaaBoxes
namespace Go.Proofs.Ytpgonfeobfefaaa
open Go.ChangeShapes Go.WideShapes Go.ChangeAt Go.RowKit

end Go.Proofs.Ytpgonfeobfefaaa
