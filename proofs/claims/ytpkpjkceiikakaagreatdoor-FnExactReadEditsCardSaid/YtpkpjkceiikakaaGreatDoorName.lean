/- Contracts: is a text a name, as the program says and as the model does. -/
import Derived.Test.YtpkpjkceiikakaaGreatDoorBase
import Derived.Lib.Hide
namespace Go.Proofs.YtpkpjkceiikakaaGreatDoor
open Go.ChangeShapes Go.WideShapes Go.ChangeAt Go.RowKit

def good (c : UInt8) : Bool := decide (97 ≤ c.toNat) && decide (c.toNat ≤ 122)
def lowB (s : ByteArray) : Bool := s.data.toList.all good
def nameOk (s : ByteArray) : Bool := (decide (1 ≤ s.size) && decide (s.size ≤ 16)) && lowB s
/-- The first k letters are good. -/
def GoodTo (s : ByteArray) (k : Nat) : Prop := ∀ (j : Nat) (h : j < s.size), j < k → good s[j] = true

theorem goodTo_zero (s : ByteArray) : GoodTo s 0 := fun _ _ h => absurd h (Nat.not_lt_zero _)
theorem goodTo_next {s : ByteArray} {k : Nat} (h : GoodTo s k) (hk : k < s.size) (hg : good s[k] = true) : GoodTo s (k + 1) := by
  intro j hj hlt
  by_cases e : j = k
  · subst e; exact hg
  · exact h j hj (by omega)
theorem low_true {s : ByteArray} (h : GoodTo s s.size) : lowB s = true := by
  unfold lowB
  rw [List.all_eq_true]
  intro c hc
  obtain ⟨j, hj, rfl⟩ := List.mem_iff_getElem.1 hc
  have hj' : j < s.size := by simpa using hj
  exact h j hj' hj'
theorem low_false {s : ByteArray} {k : Nat} (hk : k < s.size) (hg : good s[k] = false) : lowB s = false := by
  unfold lowB
  rw [List.all_eq_false]
  exact ⟨s[k], List.mem_iff_getElem.2 ⟨k, by simpa using hk, rfl⟩, by simp [hg]⟩
theorem good_yes {c : UInt8} (h1 : 97 ≤ c.toNat) (h2 : c.toNat ≤ 122) : good c = true := by unfold good; simp [h1, h2]
theorem good_lo {c : UInt8} (h1 : c.toNat < 97) : good c = false := by unfold good; simp; omega
theorem good_hi {c : UInt8} (h1 : 122 < c.toNat) : good c = false := by unfold good; simp; omega
theorem name_short {s : ByteArray} (h : s.size < 1) : nameOk s = false := by unfold nameOk; simp; omega
theorem name_long {s : ByteArray} (h : 16 < s.size) : nameOk s = false := by unfold nameOk; simp; omega
theorem name_low {s : ByteArray} (h : lowB s = false) : nameOk s = false := by unfold nameOk; simp [h]
theorem name_yes {s : ByteArray} (h1 : 1 ≤ s.size) (h2 : s.size ≤ 16) (h : lowB s = true) : nameOk s = true := by unfold nameOk; simp [h, h1, h2]
theorem ret_bool {x y : Bool} (h : x = y) : Ending.returned (.bool x) = .returned (.bool y) := by rw [h]

set_option maxHeartbeats 1600000 in
theorem iLetters_any (s : ByteArray) (hs : s.size ≤ maxLen) (w : World) :
    Calls Tryz.prog 98 #[.string s, .int .i64 16] w fun e w' => e = .returned (.bool (nameOk s)) ∧ w = w' := by
  unfold maxLen at hs
  by_cases h1 : s.size < 1
  · have f := Lib.hid (name_short h1)
    have d1 : decide ((s.size : Int) < 1) = true := by simp; omega
    go_enter Tryz.func98, Tryz.ntmps98
    go_wp2
    go_returns
    exact ⟨ret_bool f.out.symm, rfl⟩
  · by_cases h2 : 16 < s.size
    · have f := Lib.hid (name_long h2)
      have d1 : decide ((s.size : Int) < 1) = false := by simp; omega
      have d2 : decide ((16 : Int) < (s.size : Int)) = true := by simp; omega
      go_enter Tryz.func98, Tryz.ntmps98
      go_wp2
      go_returns
      exact ⟨ret_bool f.out.symm, rfl⟩
    · have d1 : decide ((s.size : Int) < 1) = false := by simp; omega
      have d2 : decide ((16 : Int) < (s.size : Int)) = false := by simp; omega
      go_enter Tryz.func98, Tryz.ntmps98
      go_wp2
      go_loop [17] (fun i => ∃ k : Nat, k ≤ s.size ∧ i = .int .i64 (k : Int) ∧ GoodTo s k) (fun i => s.size - (intOf i).toNat)
      case atStart => exact ⟨0, Nat.zero_le _, rfl, goodTo_zero s⟩
      case round =>
        obtain ⟨k, hk, rfl, hg⟩ := hrel
        have hg := Lib.hid hg
        by_cases hlt : k < s.size
        · by_cases c1 : s[k].toNat < 97
          · have f := Lib.hid (name_low (low_false hlt (good_lo c1)))
            have t1 : decide ((s[k].toNat : Int) < 97) = true := by simp; omega
            go_wp2
            go_returns
            exact ⟨ret_bool f.out.symm, rfl⟩
          · by_cases c2 : 122 < s[k].toNat
            · have f := Lib.hid (name_low (low_false hlt (good_hi c2)))
              have t1 : decide ((s[k].toNat : Int) < 97) = false := by simp; omega
              have t2 : decide ((122 : Int) < (s[k].toNat : Int)) = true := by simp; omega
              go_wp2
              go_returns
              exact ⟨ret_bool f.out.symm, rfl⟩
            · have f := Lib.hid (goodTo_next hg.out hlt (good_yes (by omega) (by omega)))
              have t1 : decide ((s[k].toNat : Int) < 97) = false := by simp; omega
              have t2 : decide ((122 : Int) < (s[k].toNat : Int)) = false := by simp; omega
              go_wp2
              go_round
              case rel => exact ⟨k + 1, by omega, by go_num, f.out⟩
              case measure => simp [intOf]; omega
        · obtain rfl : k = s.size := by omega
          have f := Lib.hid (name_yes (by omega) (by omega) (low_true hg.out))
          go_wp2
          go_returns
          exact ⟨ret_bool f.out.symm, rfl⟩

theorem iName_any (s : ByteArray) (hs : s.size ≤ maxLen) (w : World) :
    Calls Tryz.prog 72 #[.string s] w fun e w' => e = .returned (.bool (nameOk s)) ∧ w = w' := by
  go_enter Tryz.func72, Tryz.ntmps72
  go_wp2_with (go_at_call 98; refine (iLetters_any s hs _).mono ?_; rintro e w1 ⟨rfl, rfl⟩)
  go_returns
  exact ⟨rfl, rfl⟩


set_option maxHeartbeats 1600000 in
theorem sName_any (s : ByteArray) (hs : s.size ≤ maxLen) (w : World) :
    Calls Tryz.prog 63 #[.string s] w fun e w' => e = .returned (.bool (nameOk s)) ∧ w = w' := by
  unfold maxLen at hs
  go_enter Tryz.func63, Tryz.ntmps63
  go_wp2
  go_loop [3] (fun i => ∃ k : Nat, k ≤ s.size ∧ i = .int .i64 (k : Int) ∧ GoodTo s k) (fun i => s.size - (intOf i).toNat)
  case atStart => exact ⟨0, Nat.zero_le _, rfl, goodTo_zero s⟩
  case round =>
    obtain ⟨k, hk, rfl, hg⟩ := hrel
    have hg := Lib.hid hg
    by_cases hlt : k < s.size
    · by_cases c1 : s[k].toNat < 97
      · have f := Lib.hid (name_low (low_false hlt (good_lo c1)))
        have t1 : decide ((s[k].toNat : Int) < 97) = true := by simp; omega
        go_wp2
        go_returns
        exact ⟨ret_bool f.out.symm, rfl⟩
      · by_cases c2 : 122 < s[k].toNat
        · have f := Lib.hid (name_low (low_false hlt (good_hi c2)))
          have t1 : decide ((s[k].toNat : Int) < 97) = false := by simp; omega
          have t2 : decide ((122 : Int) < (s[k].toNat : Int)) = true := by simp; omega
          go_wp2
          go_returns
          exact ⟨ret_bool f.out.symm, rfl⟩
        · have f := Lib.hid (goodTo_next hg.out hlt (good_yes (by omega) (by omega)))
          have t1 : decide ((s[k].toNat : Int) < 97) = false := by simp; omega
          have t2 : decide ((122 : Int) < (s[k].toNat : Int)) = false := by simp; omega
          go_wp2
          go_round
          case rel => exact ⟨k + 1, by omega, by go_num, f.out⟩
          case measure => simp [intOf]; omega
    · obtain rfl : k = s.size := by omega
      by_cases h1 : s.size < 1
      · have f := Lib.hid (name_short h1)
        have d1 : decide ((1 : Int) ≤ (s.size : Int)) = false := by simp; omega
        go_wp2
        go_returns
        exact ⟨ret_bool f.out.symm, rfl⟩
      · by_cases h2 : 16 < s.size
        · have f := Lib.hid (name_long h2)
          have d1 : decide ((1 : Int) ≤ (s.size : Int)) = true := by simp; omega
          have d2 : decide ((s.size : Int) ≤ 16) = false := by simp; omega
          go_wp2
          go_returns
          exact ⟨ret_bool f.out.symm, rfl⟩
        · have f := Lib.hid (name_yes (by omega) (by omega) (low_true hg.out))
          have d1 : decide ((1 : Int) ≤ (s.size : Int)) = true := by simp; omega
          have d2 : decide ((s.size : Int) ≤ 16) = true := by simp; omega
          go_wp2
          go_returns
          exact ⟨ret_bool f.out.symm, rfl⟩
end Go.Proofs.YtpkpjkceiikakaaGreatDoor
