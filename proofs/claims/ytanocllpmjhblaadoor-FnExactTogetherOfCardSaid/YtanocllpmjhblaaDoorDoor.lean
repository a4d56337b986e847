/- What a law behind the door owes besides. -/
import Derived.Test.YtanocllpmjhblaaDoorFrame
import Derived.Test.YtanocllpmjhblaaDoorCards
import Derived.Test.YtanocllpmjhblaaDoorTie
import Derived.LaidMore
import Derived.Lay
import Derived.SevenTiedAt
import Derived.Stop.Joined
