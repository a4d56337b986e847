/- What a law behind the door owes besides. -/
import Derived.Test.YtpgonfeobfefaaaDoorFrame
import Derived.Test.YtpgonfeobfefaaaDoorCards
import Derived.Test.YtpgonfeobfefaaaDoorTie
import Derived.LaidMore
import Derived.Lay
import Derived.SevenTiedAt
import Derived.Stop.Joined
