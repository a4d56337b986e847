/- The laws' mark on a deck of the call's own: nothing lies otherwise afterwards but the deck's own block. -/
import Derived.Test.YtllhglakihfjmaaDoorMarkT
import Derived.Test.YtllhglakihfjmaaDoorDeck3
import Derived.Test.YtllhglakihfjmaaDoorOth
import Derived.Deep.DeepCutAuto
namespace Go.Proofs.YtllhglakihfjmaaDoor
open Go.ChangeShapes Go.WideShapes Go.ChangeAt Go.RowKit

end Go.Proofs.YtllhglakihfjmaaDoor
