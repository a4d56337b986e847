/- Contracts: what panics with an entry that is none. -/
import Derived.Test.YtcbcggnpbjcdfaaDoorSrch
namespace Go.Proofs.YtcbcggnpbjcdfaaDoor
open Go.ChangeShapes Go.WideShapes Go.ChangeAt Go.RowKit

theorem entry_missing (ad : Option Addr) (n c : Nat) (x : Int) (hx : hasX n x = false) (w : World) :
    Calls Tryd.prog 94 #[.slice ad n c, .int .i64 x] w fun e w' => e = Missing x ∧ Below w.heap.size w w' := by
  have H := fun W => has_any ad n c x W
  rw [hx] at H
  have H := Lib.hid H
  have b0 := Lib.hid (below_new (Below.refl w.heap.size w) (.cells #[.string ByteArray.empty, .int .i64 0, .int .i64 0] 49))
  clear hx
  go_enter Tryd.func94, Tryd.ntmps94
  go_wp2_with (go_at_call 108; refine (H.out _).mono ?_; rintro e w1 ⟨rfl, hB⟩; have b1 := Lib.hid (b0.out.trans (Below.mono hB b0.out.size)); clear hB)
  exact ⟨rfl, rfl, b1.out⟩

theorem preferred_missing (ad : Option Addr) (n c : Nat) (x : Int) (hx : hasX n x = false) (w : World) :
    Calls Tryd.prog 60 #[.slice ad n c, .int .i64 x] w fun e w' => e = Missing x ∧ Below w.heap.size w w' := by
  have E := Lib.hid (entry_missing ad n c x hx w)
  unfold Missing at E
  clear hx
  go_enter Tryd.func60, Tryd.ntmps60
  go_wp2_with (go_at_call 94; refine E.out.mono ?_; rintro e w1 ⟨rfl, hB⟩; have b1 := Lib.hid hB; clear hB)

  exact ⟨rfl, rfl, b1.out⟩
end Go.Proofs.YtcbcggnpbjcdfaaDoor
