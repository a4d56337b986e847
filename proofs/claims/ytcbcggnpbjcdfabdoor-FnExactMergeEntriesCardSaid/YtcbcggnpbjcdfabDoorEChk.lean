/- Contracts: a changed catalogue, if it is valid, the program's and the model's. -/
import Derived.Test.YtcbcggnpbjcdfabDoorEOwn
namespace Go.Proofs.YtcbcggnpbjcdfabDoor
open Go.ChangeShapes Go.WideShapes Go.ChangeAt Go.RowKit

theorem bdrew {B : Nat} {w W : World} (h : Below B w W) : Below B w W.drew := h.trans ⟨rfl, rfl, rfl, Nat.le_refl _, fun _ _ => rfl⟩
/-- A row of entries of the call's own, and a code. -/
def EEL (zs : List Et) (cd : Int) (w : World) (e : Ending) (w' : World) : Prop := ∃ v, e = .returned (.tuple #[v, .int .i64 cd]) ∧ OwnEnts w.heap.size zs v w' ∧ Below w.heap.size w w'
theorem checked_yes (a : Option Addr) (ds : List Et) (c : Nat) (w : World) (hE : EntsIn w a ds) (h : catOk ds = true) :
    Calls Tryd.prog 66 #[.slice a ds.length c] w fun e w' => e = .returned (.tuple #[.slice a ds.length c, .int .i64 0]) ∧ Below w.heap.size w w' := by
  have V := iCat_any a ds c w hE
  rw [h] at V
  have V := Lib.hid V
  clear h hE
  go_enter Tryd.func66, Tryd.ntmps66
  go_wp2_with (go_at_call 49; refine V.out.mono ?_; rintro e w1 ⟨rfl, hB⟩; have b1 := Lib.hid hB; clear hB)
  go_ret2
  exact ⟨rfl, b1.out⟩
theorem checked_no (a : Option Addr) (ds : List Et) (c : Nat) (w : World) (hE : EntsIn w a ds) (h : catOk ds = false) :
    Calls Tryd.prog 66 #[.slice a ds.length c] w fun e w' => e = .returned (.tuple #[.slice none 0 0, .int .i64 4]) ∧ Below w.heap.size w w' := by
  have V := iCat_any a ds c w hE
  rw [h] at V
  have V := Lib.hid V
  clear h hE
  go_enter Tryd.func66, Tryd.ntmps66
  go_wp2_with (go_at_call 49; refine V.out.mono ?_; rintro e w1 ⟨rfl, hB⟩; have b1 := Lib.hid hB; clear hB)
  go_ret2
  exact ⟨rfl, b1.out⟩
theorem made_yes (a : Option Addr) (ds : List Et) (c : Nat) (w : World) (hE : EntsIn w a ds) (h : catOk ds = true) :
    Calls Tryd.prog 60 #[.slice a ds.length c] w fun e w' => e = .returned (.tuple #[.slice a ds.length c, .int .i64 0]) ∧ Below w.heap.size w w' := by
  have V := sCat_any a ds c w hE
  rw [h] at V
  have V := Lib.hid V
  clear h hE
  go_enter Tryd.func60, Tryd.ntmps60
  go_wp2_with (go_at_call 85; refine V.out.mono ?_; rintro e w1 ⟨rfl, hB⟩; have b1 := Lib.hid hB; clear hB)
  go_ret2
  exact ⟨rfl, b1.out⟩
theorem made_no (a : Option Addr) (ds : List Et) (c : Nat) (w : World) (hE : EntsIn w a ds) (h : catOk ds = false) :
    Calls Tryd.prog 60 #[.slice a ds.length c] w (EEL [] 4 w) := by
  have V := sCat_any a ds c w hE
  rw [h] at V
  have V := Lib.hid V
  clear h hE
  go_enter Tryd.func60, Tryd.ntmps60
  go_wp2_with (go_at_call 85; refine V.out.mono ?_; rintro e w1 ⟨rfl, hB⟩; have b1 := Lib.hid hB; clear hB)
  go_ret2
  exact ⟨_, rfl, ownE_made rfl b1.out.size, below_new b1.out _⟩

end Go.Proofs.YtcbcggnpbjcdfabDoor
