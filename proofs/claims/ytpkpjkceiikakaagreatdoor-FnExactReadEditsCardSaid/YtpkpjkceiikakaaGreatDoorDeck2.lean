/- Contracts of the laws' own functions on slices of cards: carried over, compared. -/
import Derived.Test.YtpkpjkceiikakaaGreatDoorDeck
import Derived.Test.YtpkpjkceiikakaaGreatDoorBoxes
namespace Go.Proofs.YtpkpjkceiikakaaGreatDoor
open Go.ChangeShapes Go.WideShapes Go.ChangeAt Go.RowKit



end Go.Proofs.YtpkpjkceiikakaaGreatDoor
