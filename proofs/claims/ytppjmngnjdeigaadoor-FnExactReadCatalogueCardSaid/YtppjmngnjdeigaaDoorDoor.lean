/- What a law behind the door owes besides. -/
import Derived.Test.YtppjmngnjdeigaaDoorFrame
import Derived.Test.YtppjmngnjdeigaaDoorCards
import Derived.Test.YtppjmngnjdeigaaDoorTie
import Derived.LaidMore
import Derived.Lay
import Derived.SevenTiedAt
import Derived.Stop.Joined
