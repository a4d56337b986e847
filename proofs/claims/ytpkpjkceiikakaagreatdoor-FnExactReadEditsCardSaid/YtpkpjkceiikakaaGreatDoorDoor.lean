/- What a law behind the door owes besides. -/
import Derived.Test.YtpkpjkceiikakaaGreatDoorFrame
import Derived.Test.YtpkpjkceiikakaaGreatDoorCards
import Derived.Test.YtpkpjkceiikakaaGreatDoorTie
import Derived.LaidMore
import Derived.Lay
import Derived.SevenTiedAt
import Derived.Stop.Joined
