/- Contracts: the check of a word, the program's and the model's; is a text a word, as the model says. -/
import Derived.Test.YtpgonfeobfefaaaDoorName
namespace Go.Proofs.YtpgonfeobfefaaaDoor
open Go.ChangeShapes Go.WideShapes Go.ChangeAt Go.RowKit

def ckB (s : ByteArray) (k : Nat) : Int := if h : k < s.size then (s[k].toNat : Int) else 0
def ck (s : ByteArray) : Nat → Int
  | 0 => 1
  | k + 1 => IntKind.u32.wrap (IntKind.u32.wrap (ck s k * 16777619) + ckB s k)
theorem ckB_lt {s : ByteArray} {k : Nat} (h : k < s.size) : ckB s k = (s[k].toNat : Int) := by unfold ckB; rw [dif_pos h]




def wcV (s : ByteArray) : Value := if nameOk s then .tuple #[.int .u32 (ck s s.size), .int .i64 0] else .tuple #[.int .u32 0, .int .i64 2]

end Go.Proofs.YtpgonfeobfefaaaDoor
