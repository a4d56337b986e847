/- Contracts: is there an entry with an index; its preferred one; PreferredOf. -/
import Derived.Test.YtcbcggnpbjcdfabDoorMiss
import Derived.Test.YtcbcggnpbjcdfabDoorCatS
import Derived.Deep.DeepCutAuto
namespace Go.Proofs.YtcbcggnpbjcdfabDoor
open Go.ChangeShapes Go.WideShapes Go.ChangeAt Go.RowKit

def atC (cs : List Et) (x : Int) : Int := if catOk cs then (if hasX cs.length x then 0 else 2) else 1
theorem atC_bad {cs : List Et} (x : Int) (h : catOk cs = false) : atC cs x = 1 := by unfold atC; rw [h]; rfl
theorem atC_none {cs : List Et} {x : Int} (h : catOk cs = true) (h2 : hasX cs.length x = false) : atC cs x = 2 := by unfold atC; rw [h, h2]; rfl
theorem atC_ok {cs : List Et} {x : Int} (h : catOk cs = true) (h2 : hasX cs.length x = true) : atC cs x = 0 := by unfold atC; rw [h, h2]; rfl
theorem retI9 {x y : Int} (h : y = x) : Ending.returned (.int .i64 x) = Ending.returned (.int .i64 y) := by rw [h]

set_option maxHeartbeats 1600000 in
theorem sAt_any (ad : Option Addr) (cs : List Et) (c : Nat) (x : Int) (w : World) (hc : EntsIn w ad cs) :
    Calls Tryd.prog 58 #[.slice ad cs.length c, .int .i64 x] w fun e w' => e = .returned (.int .i64 (atC cs x)) ∧ Below w.heap.size w w' := by
  have V := sCat_any ad cs c w hc
  clear hc
  cases hz : catOk cs
  · rw [hz] at V
    have V := Lib.hid V
    have f := Lib.hid (atC_bad x hz)
    clear hz
    go_enter Tryd.func58, Tryd.ntmps58
    go_wp2_with (go_at_call 85; refine V.out.mono ?_; rintro e w1 ⟨rfl, hB⟩; have b1 := Lib.hid hB; clear hB)
    go_returns
    exact ⟨retI9 f.out, b1.out⟩
  · rw [hz] at V
    have V := Lib.hid V
    have hn := (cat_parts hz).1
    have hw : IntKind.i64.wrap ((cs.length : Int) - 1) = (cs.length : Int) - 1 := IntWalk.i64_in _ (by omega)
    have H := fun W => in_any x 0 ((cs.length : Int) - 1) W
    have e : (decide ((0 : Int) ≤ x) && decide (x ≤ (cs.length : Int) - 1)) = hasX cs.length x := by
      unfold hasX
      by_cases h1 : x < (cs.length : Int)
      · rw [decide_eq_true h1, decide_eq_true (show x ≤ (cs.length : Int) - 1 by omega)]
      · rw [decide_eq_false h1, decide_eq_false (show ¬ x ≤ (cs.length : Int) - 1 by omega)]
    rw [e] at H
    cases h2 : hasX cs.length x
    · rw [h2] at H
      have H := Lib.hid H
      have f := Lib.hid (atC_none hz h2)
      clear hz h2 e
      go_enter Tryd.func58, Tryd.ntmps58
      go_wp2_with (first
        | (go_at_call 85; refine V.out.mono ?_; rintro e w1 ⟨rfl, hB⟩; have b1 := Lib.hid hB; clear hB)
        | (go_at_call 118; refine (H.out _).mono ?_; rintro e w2 ⟨rfl, hB⟩; have b2 := Lib.hid (b1.out.trans (hB.mono b1.out.size)); clear hB))
      go_returns
      exact ⟨retI9 f.out, b2.out⟩
    · rw [h2] at H
      have H := Lib.hid H
      have f := Lib.hid (atC_ok hz h2)
      clear hz h2 e
      go_enter Tryd.func58, Tryd.ntmps58
      go_wp2_with (first
        | (go_at_call 85; refine V.out.mono ?_; rintro e w1 ⟨rfl, hB⟩; have b1 := Lib.hid hB; clear hB)
        | (go_at_call 118; refine (H.out _).mono ?_; rintro e w2 ⟨rfl, hB⟩; have b2 := Lib.hid (b1.out.trans (hB.mono b1.out.size)); clear hB))
      go_returns
      exact ⟨retI9 f.out, b2.out⟩

theorem sFirst_any (ad : Option Addr) (cs : List Et) (c j : Nat) (hj : j < cs.length) (w : World) (hc : EntsIn w ad cs) :
    Calls Tryd.prog 101 #[.slice ad cs.length c, .int .i64 j] w fun e w' => e = .returned (.int .i64 (firstE cs j)) ∧ Below w.heap.size w w' := by
  obtain ⟨_, b1, o1, rfl, hb1, p0, p1, p2⟩ := hc j hj
  have i1 : (0 : Int) ≤ (j : Int) := by omega
  have i2 : (j : Int) < (cs.length : Int) := by omega
  unfold firstE
  clear hc
  by_cases ha : (etAt cs j).a = -1
  · rw [if_pos ha]
    have hb : ((etAt cs j).a != -1) = false := by simpa using ha
    clear ha
    go_enter Tryd.func101, Tryd.ntmps101
    go_wp2
    go_returns
    exact ⟨rfl, Below.refl _ _⟩
  · rw [if_neg ha]
    have hb : ((etAt cs j).a != -1) = true := by simpa using ha
    clear ha
    go_enter Tryd.func101, Tryd.ntmps101
    go_wp2
    go_returns
    exact ⟨rfl, Below.refl _ _⟩
end Go.Proofs.YtcbcggnpbjcdfabDoor
