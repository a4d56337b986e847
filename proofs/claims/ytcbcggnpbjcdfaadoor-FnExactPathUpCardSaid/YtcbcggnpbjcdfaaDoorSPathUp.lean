/- Contract: PathUp, the model's. -/
import Derived.Test.YtcbcggnpbjcdfaaDoorIPathUp
namespace Go.Proofs.YtcbcggnpbjcdfaaDoor
open Go.ChangeShapes Go.WideShapes Go.ChangeAt Go.RowKit

set_option maxRecDepth 100000 in
set_option maxHeartbeats 1600000 in
theorem sPathUp_any (ad : Option Addr) (cs : List Et) (c : Nat) (x : Int) (w : World) (hc : EntsIn w ad cs) :
    Calls Tryd.prog 25 #[.slice ad cs.length c, .int .i64 x] w (pathUpR cs x w) := by
  obtain ⟨i0, hi, hz0, hz1, hz2⟩ := info_parts info_i64
  have C := Lib.hid hc
  have A := sAt_any ad cs c x w hc
  clear hc
  cases hz : catOk cs
  · rw [atC_bad x hz] at A
    rw [pathUpR_bad x hz]
    have A := Lib.hid A
    clear hz
    go_enter Tryd.func25, Tryd.ntmps25
    go_wp2_with (go_at_call 57; refine A.out.mono ?_; rintro e w1 ⟨rfl, hB⟩; have b1 := Lib.hid hB; clear hB)
    go_ret2
    exact ⟨_, rfl, ownI_none rfl b1.out.size, below_new b1.out _⟩
  cases hx : hasX cs.length x
  · rw [atC_none hz hx] at A
    rw [pathUpR_none hz hx]
    have A := Lib.hid A
    clear hz hx
    go_enter Tryd.func25, Tryd.ntmps25
    go_wp2_with (go_at_call 57; refine A.out.mono ?_; rintro e w1 ⟨rfl, hB⟩; have b1 := Lib.hid hB; clear hB)
    go_ret2
    exact ⟨_, rfl, ownI_none rfl b1.out.size, below_new b1.out _⟩
  rw [atC_ok hz hx] at A
  rw [pathUpR_ok hz hx]
  have A := Lib.hid A
  have hn := (cat_parts hz).1
  obtain ⟨q1, q2⟩ := hasX_yes hx
  have F := fun W (h : EntsIn W ad cs) => sPath_any ad cs c x.toNat (by omega) hz W h
  rw [show ((x.toNat : Nat) : Int) = x by omega] at F
  have F := Lib.hid F
  clear hz hx q1 q2 hn
  generalize segI cs (firstE cs x.toNat) (plen cs (firstE cs x.toNat)) = zs at *
  go_enter Tryd.func25, Tryd.ntmps25
  go_wp2_with (first
    | (go_at_call 57; refine A.out.mono ?_; rintro e w1 ⟨rfl, hB⟩; have b1 := Lib.hid hB; clear hB)
    | (go_at_call 61; refine (F.out _ (entsIn_below C.out b1.out)).mono ?_; rintro e w2 ⟨v, rfl, hO, hB⟩; have O2 := Lib.hid (ownI_mono hO b1.out.size); have b2 := Lib.hid (b1.out.trans (hB.mono b1.out.size)); clear hB hO))
  go_ret2
  exact ⟨_, rfl, O2.out, b2.out⟩
end Go.Proofs.YtcbcggnpbjcdfaaDoor
