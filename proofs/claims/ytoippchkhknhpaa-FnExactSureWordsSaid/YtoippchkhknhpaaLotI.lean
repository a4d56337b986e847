/- Contracts: is a lot one of lists of words, as the program says and as the model does. -/
import Derived.Test.YtoippchkhknhpaaLot
namespace Go.Proofs.Ytoippchkhknhpaa
open Go.ChangeShapes Go.WideShapes Go.ChangeAt Go.RowKit

def LotTo (ls : List (List ByteArray)) (k : Nat) : Prop := ∀ j, j < k → wordsOk (lsAt ls j) 12 = true
instance (ls : List (List ByteArray)) (k : Nat) : Decidable (LotTo ls k) := by unfold LotTo; infer_instance
def lotOk (ls : List (List ByteArray)) : Bool := decide (ls.length ≤ 60 ∧ LotTo ls ls.length)
theorem lot_long {ls : List (List ByteArray)} (h : 60 < ls.length) : lotOk ls = false := decide_eq_false fun t => by have := t.1; omega
theorem lot_bad {ls : List (List ByteArray)} {k : Nat} (hk : k < ls.length) (h : wordsOk (lsAt ls k) 12 = false) : lotOk ls = false := decide_eq_false fun t => by have := t.2 k hk; rw [h] at this; cases this
theorem lot_yes {ls : List (List ByteArray)} (h : ls.length ≤ 60) (hw : LotTo ls ls.length) : lotOk ls = true := decide_eq_true ⟨h, hw⟩
theorem lotTo_next {ls : List (List ByteArray)} {k : Nat} (h : LotTo ls k) (hk : wordsOk (lsAt ls k) 12 = true) : LotTo ls (k + 1) := fun j hj => by
  by_cases e : j = k
  · subst e; exact hk
  · exact h j (by omega)
theorem lret_bool {x y : Bool} (h : y = x) : Ending.returned (.bool x) = Ending.returned (.bool y) := by rw [h]

set_option maxHeartbeats 1600000 in
theorem iIsLot_any (a : Option Addr) (ls : List (List ByteArray)) (cap : Nat) (w : World) (h : LotIn w a ls) (hl : ls.length ≤ 9223372036854775807) :
    Calls Try.prog 73 #[.slice a ls.length cap] w fun e w' => e = .returned (.bool (lotOk ls)) ∧ w = w' := by
  have H := Lib.hid h
  clear h
  by_cases hm : 60 < ls.length
  · have f := Lib.hid (lot_long hm)
    have d1 : decide ((60 : Int) < (ls.length : Int)) = true := by simp; omega
    go_enter Try.func73, Try.ntmps73
    go_wp2
    go_returns
    exact ⟨lret_bool f.out, rfl⟩
  · have d1 : decide ((60 : Int) < (ls.length : Int)) = false := by simp; omega
    go_enter Try.func73, Try.ntmps73
    go_wp2
    go_loop [10] (fun i => ∃ k : Nat, k ≤ ls.length ∧ i = .int .i64 (k : Int) ∧ LotTo ls k) (fun i => ls.length - (intOf i).toNat)
    case atStart => exact ⟨0, Nat.zero_le _, rfl, fun j hj => absurd hj (Nat.not_lt_zero _)⟩
    case round =>
      obtain ⟨k, hk, rfl, hg⟩ := hrel
      have hg := Lib.hid hg
      by_cases hlt : k < ls.length
      · obtain ⟨b, off, sa, sc, rfl, hb, hc, q1, q2, q3⟩ := H.out k hlt
        have W := Lib.hid fun m => iAreWords_any sa (lsAt ls k) sc m w q1 q2 (by unfold maxLen at q3; omega)
        have d2 : decide ((k : Int) < (ls.length : Int)) = true := by simpa using hlt
        have nx := Lib.hid (lotTo_next (ls := ls) (k := k) hg.out)
        have no := Lib.hid (lot_bad (ls := ls) (k := k) hlt)
        clear q1 q2 q3
        have W := Lib.hid (W.out 12)
        generalize wordsOk (lsAt ls k) 12 = ok at *
        generalize lsAt ls k = x at *
        cases ok
        · go_wp2_with (go_at_call 78; refine W.out.mono ?_; rintro e w1 ⟨rfl, rfl⟩)
          go_returns
          exact ⟨lret_bool (no.out (by trivial)), rfl⟩
        · go_wp2_with (go_at_call 78; refine W.out.mono ?_; rintro e w1 ⟨rfl, rfl⟩)
          go_round
          case rel => exact ⟨k + 1, by omega, by go_num, nx.out (by trivial)⟩
          case measure => simp [intOf]; omega
      · obtain rfl : k = ls.length := by omega
        have f := Lib.hid (lot_yes (Nat.le_of_not_lt hm) hg.out)
        have d2 : decide ((ls.length : Int) < (ls.length : Int)) = false := by simp
        go_wp2
        go_returns
        exact ⟨lret_bool f.out, rfl⟩

def lotC (ls : List (List ByteArray)) : Int := if lotOk ls = true then 0 else 2
theorem lotC_no {ls : List (List ByteArray)} (h : lotOk ls = false) : lotC ls = 2 := by unfold lotC; rw [h]; rfl
theorem lotC_yes {ls : List (List ByteArray)} (h : lotOk ls = true) : lotC ls = 0 := by unfold lotC; rw [h]; rfl

set_option maxHeartbeats 1600000 in
theorem sLot_any (a : Option Addr) (ls : List (List ByteArray)) (cap : Nat) (w : World) (h : LotIn w a ls) (hl : ls.length ≤ 9223372036854775807) :
    Calls Try.prog 70 #[.slice a ls.length cap] w fun e w' => e = .returned (.int .i64 (lotC ls)) ∧ w = w' := by
  have H := Lib.hid h
  clear h
  by_cases hm : 60 < ls.length
  · have f := Lib.hid (lotC_no (lot_long hm))
    have d1 : decide ((60 : Int) < (ls.length : Int)) = true := by simp; omega
    go_enter Try.func70, Try.ntmps70
    go_wp2
    go_returns
    exact ⟨ret_i64 f.out, rfl⟩
  · have d1 : decide ((60 : Int) < (ls.length : Int)) = false := by simp; omega
    go_enter Try.func70, Try.ntmps70
    go_wp2
    go_loop [3] (fun i => ∃ k : Nat, k ≤ ls.length ∧ i = .int .i64 (k : Int) ∧ LotTo ls k) (fun i => ls.length - (intOf i).toNat)
    case atStart => exact ⟨0, Nat.zero_le _, rfl, fun j hj => absurd hj (Nat.not_lt_zero _)⟩
    case round =>
      obtain ⟨k, hk, rfl, hg⟩ := hrel
      have hg := Lib.hid hg
      by_cases hlt : k < ls.length
      · obtain ⟨b, off, sa, sc, rfl, hb, hc, q1, q2, q3⟩ := H.out k hlt
        have W := Lib.hid fun m => sWords_any sa (lsAt ls k) sc m w q1 q2 (by unfold maxLen at q3; omega)
        have d2 : decide ((k : Int) < (ls.length : Int)) = true := by simpa using hlt
        have nx := Lib.hid (lotTo_next (ls := ls) (k := k) hg.out)
        have no := Lib.hid (lot_bad (ls := ls) (k := k) hlt)
        clear q1 q2 q3
        have W := W.out 12
        unfold wordsC at W
        generalize wordsOk (lsAt ls k) 12 = ok at *
        generalize lsAt ls k = x at *
        cases ok
        · have W := Lib.hid W
          go_wp2_with (go_at_call 76; refine W.out.mono ?_; rintro e w1 ⟨rfl, rfl⟩)
          go_returns
          exact ⟨ret_i64 (lotC_no (no.out (by trivial))), rfl⟩
        · have W := Lib.hid W
          go_wp2_with (go_at_call 76; refine W.out.mono ?_; rintro e w1 ⟨rfl, rfl⟩)
          go_round
          case rel => exact ⟨k + 1, by omega, by go_num, nx.out (by trivial)⟩
          case measure => simp [intOf]; omega
      · obtain rfl : k = ls.length := by omega
        have f := Lib.hid (lotC_yes (lot_yes (Nat.le_of_not_lt hm) hg.out))
        have d2 : decide ((ls.length : Int) < (ls.length : Int)) = false := by simp
        go_wp2
        go_returns
        exact ⟨ret_i64 f.out, rfl⟩
end Go.Proofs.Ytoippchkhknhpaa
