/- What a law behind the door owes besides. -/
import Derived.Test.YtnfhhckkealkpaaDoorFrame
import Derived.Test.YtnfhhckkealkpaaDoorCards
import Derived.Test.YtnfhhckkealkpaaDoorTie
import Derived.LaidMore
import Derived.Lay
import Derived.SevenTiedAt
import Derived.Stop.Joined
