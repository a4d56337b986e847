/- Contract: the model's Decimal, for numbers of at most two digits. -/
import Derived.Test.YtppjmngnjdeigaaDoorBase
import Derived.Test.YtppjmngnjdeigaaDoorQuiet
import Derived.Test.YtppjmngnjdeigaaDoorFloat
import Derived.Deep.DeepCutAuto
namespace Go.Proofs.YtppjmngnjdeigaaDoor
open Go.ChangeShapes Go.WideShapes Go.ChangeAt Go.RowKit

/-- A digit. -/
def dig (k : Nat) : ByteArray := ⟨#[UInt8.ofNat (48 + k)]⟩
/-- A number of at most two digits. -/
def dec2 (n : Nat) : ByteArray := if n < 10 then dig n else dig (n / 10) ++ dig (n % 10)
theorem conv_oneD (W : World) (u : UInt8) : (convert 125 9 (.slice (some ⟨W.heap.size, 0, none⟩) 1 1)).run Tryd.prog (W.alloc (.cells #[.int .u8 (u.toNat : Int)] 5)) = .ok (.string ⟨#[u]⟩) (W.alloc (.cells #[.int .u8 (u.toNat : Int)] 5)) := by
  have h := run_convert_bytes_back (P := Tryd.prog) (W.alloc (.cells #[.int .u8 (u.toNat : Int)] 5)) 125 9 5 ⟨W.heap.size, 0, none⟩ 1 [u] Tryd.underlying125 Tryd.underlying5 Tryd.underlying9 (fun j hj => by
    have hj0 : j = 0 := by simp at hj; omega
    subst hj0
    simp [Addr.add])
  simpa using h
theorem conv_at (W : World) (b : Nat) (u : UInt8) (hb : W.cell? ⟨b, 0, none⟩ = some (.int .u8 (u.toNat : Int))) : (convert 125 9 (.slice (some ⟨b, 0, none⟩) 1 1)).run Tryd.prog W = .ok (.string ⟨#[u]⟩) W := by
  have h := run_convert_bytes_back (P := Tryd.prog) W 125 9 5 ⟨b, 0, none⟩ 1 [u] Tryd.underlying125 Tryd.underlying5 Tryd.underlying9 (fun j hj => by
    have hj0 : j = 0 := by simp at hj; omega
    subst hj0
    simp [Addr.add, hb])
  simpa using h
theorem dig_byte {k : Nat} (h : k < 10) : ((UInt8.ofNat (48 + k)).toNat : Int) = 48 + (k : Int) := by rw [UInt8.toNat_ofNat']; omega


end Go.Proofs.YtppjmngnjdeigaaDoor
