/- What a law behind the door owes besides. -/
import Derived.Test.YtpkpjkceiikakaaDoorFrame
import Derived.Test.YtpkpjkceiikakaaDoorCards
import Derived.Test.YtpkpjkceiikakaaDoorTie
import Derived.LaidMore
import Derived.Lay
import Derived.SevenTiedAt
import Derived.Stop.Joined
