/- Contracts: what panics with an entry that is none. -/
import Derived.Test.YtppjmngnjdeigaaDoorSrch
namespace Go.Proofs.YtppjmngnjdeigaaDoor
open Go.ChangeShapes Go.WideShapes Go.ChangeAt Go.RowKit

theorem entry_missing (ad : Option Addr) (n c : Nat) (x : Int) (hx : hasX n x = false) (w : World) :
    Calls Tryd.prog 165 #[.slice ad n c, .int .i64 x] w fun e w' => e = Missing x ∧ Below w.heap.size w w' := by
  have H := fun W => has_any ad n c x W
  rw [hx] at H
  have H := Lib.hid H
  have b0 := Lib.hid (below_new (Below.refl w.heap.size w) (.cells #[.string ByteArray.empty, .int .i64 0, .int .i64 0] 81))
  clear hx
  go_enter Tryd.func165, Tryd.ntmps165
  go_wp2_with (go_at_call 151; refine (H.out _).mono ?_; rintro e w1 ⟨rfl, hB⟩; have b1 := Lib.hid (b0.out.trans (Below.mono hB b0.out.size)); clear hB)
  exact ⟨rfl, rfl, b1.out⟩

theorem preferred_missing (ad : Option Addr) (n c : Nat) (x : Int) (hx : hasX n x = false) (w : World) :
    Calls Tryd.prog 153 #[.slice ad n c, .int .i64 x] w fun e w' => e = Missing x ∧ Below w.heap.size w w' := by
  have E := Lib.hid (entry_missing ad n c x hx w)
  unfold Missing at E
  clear hx
  go_enter Tryd.func153, Tryd.ntmps153
  go_wp2_with (go_at_call 165; refine E.out.mono ?_; rintro e w1 ⟨rfl, hB⟩; have b1 := Lib.hid hB; clear hB)

  exact ⟨rfl, rfl, b1.out⟩
end Go.Proofs.YtppjmngnjdeigaaDoor
