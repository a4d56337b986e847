/- What a law behind the door owes besides. -/
import Derived.Test.YtllhglakihfjmaaDoorFrame
import Derived.Test.YtllhglakihfjmaaDoorCards
import Derived.Test.YtllhglakihfjmaaDoorTie
import Derived.LaidMore
import Derived.Lay
import Derived.SevenTiedAt
import Derived.Stop.Joined
