/- What a law behind the door owes besides. -/
import Derived.Test.YtbmjghkdhhcffaaDoorFrame
import Derived.Test.YtbmjghkdhhcffaaDoorCards
import Derived.Test.YtbmjghkdhhcffaaDoorTie
import Derived.LaidMore
import Derived.Lay
import Derived.SevenTiedAt
import Derived.Stop.Joined
