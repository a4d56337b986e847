/- What a law behind the door owes besides. -/
import Derived.Test.YtcbcggnpbjcdfaaDoorFrame
import Derived.Test.YtcbcggnpbjcdfaaDoorCards
import Derived.Test.YtcbcggnpbjcdfaaDoorTie
import Derived.LaidMore
import Derived.Lay
import Derived.SevenTiedAt
import Derived.Stop.Joined
