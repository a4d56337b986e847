/- What a law behind the door owes besides. -/
import Derived.Test.YtcbcggnpbjcdfabDoorFrame
import Derived.Test.YtcbcggnpbjcdfabDoorCards
import Derived.Test.YtcbcggnpbjcdfabDoorTie
import Derived.LaidMore
import Derived.Lay
import Derived.SevenTiedAt
import Derived.Stop.Joined
