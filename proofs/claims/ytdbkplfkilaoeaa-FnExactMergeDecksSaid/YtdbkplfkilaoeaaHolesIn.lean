/- Contracts: HolesIn, the program's and the model's. -/
import Derived.Test.YtdbkplfkilaoeaaIHoles
namespace Go.Proofs.Ytdbkplfkilaoeaa
open Go.ChangeShapes Go.WideShapes Go.ChangeAt Go.RowKit

def HolR (zs : List Int) (c : Int) (w : World) (e : Ending) (w' : World) : Prop := ∃ v, e = .returned (.tuple #[v, .int .i64 c]) ∧ OwnInts w.heap.size zs v w' ∧ Below w.heap.size w w'
theorem HolR.mk {zs : List Int} {c d : Int} {w w' : World} {v : Value} (hc : c = d) (ho : OwnInts w.heap.size zs v w') (hb : Below w.heap.size w w') : HolR zs c w (.returned (.tuple #[v, .int .i64 d])) w' := ⟨v, by rw [hc], ho, hb⟩
def maskOkB (b : Int) : Bool := b / 4294967296 == 0
/-- The answer's numbers, and its code. -/
def hzL (a b : Int) : List Int := if maskOkB b then hol (hasB a b) 96 else []
theorem hz_len (a b : Int) : (hzL a b).length ≤ 96 := by unfold hzL; split; exact hol_len _ _; simp
theorem hz_yes (a : Int) {b : Int} (h : (b / 4294967296 == 0) = true) : hzL a b = hol (hasB a b) 96 := by unfold hzL maskOkB; rw [if_pos h]
theorem hz_no (a : Int) {b : Int} (h : (b / 4294967296 == 0) = false) : hzL a b = [] := by unfold hzL maskOkB; rw [h]; rfl
def hzC (b : Int) : Int := if maskOkB b then 0 else 1
theorem hzC_yes {b : Int} (h : (b / 4294967296 == 0) = true) : hzC b = 0 := by unfold hzC maskOkB; rw [if_pos h]
theorem hzC_no {b : Int} (h : (b / 4294967296 == 0) = false) : hzC b = 1 := by unfold hzC maskOkB; rw [h]; rfl
theorem own_nil (B : Nat) (w : World) : OwnInts B [] (.slice none 0 0) w := World.ownsRow_nil w B _ _


end Go.Proofs.Ytdbkplfkilaoeaa
