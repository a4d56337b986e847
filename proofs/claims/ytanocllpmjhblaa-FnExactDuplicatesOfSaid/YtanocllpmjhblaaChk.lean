/- Contracts: the check of a word, the program's and the model's; is a text a word, as the model says. -/
import Derived.Test.YtanocllpmjhblaaName
namespace Go.Proofs.Ytanocllpmjhblaa
open Go.ChangeShapes Go.WideShapes Go.ChangeAt Go.RowKit

def ckB (s : ByteArray) (k : Nat) : Int := if h : k < s.size then (s[k].toNat : Int) else 0
def ck (s : ByteArray) : Nat → Int
  | 0 => 1
  | k + 1 => IntKind.u32.wrap (IntKind.u32.wrap (ck s k * 16777619) + ckB s k)
theorem ckB_lt {s : ByteArray} {k : Nat} (h : k < s.size) : ckB s k = (s[k].toNat : Int) := by unfold ckB; rw [dif_pos h]

set_option maxHeartbeats 1600000 in
theorem iCheck_any (s : ByteArray) (hs : s.size ≤ maxLen) (w : World) :
    Calls Try.prog 109 #[.string s] w fun e w' => e = .returned (.int .u32 (ck s s.size)) ∧ w = w' := by
  unfold maxLen at hs
  go_enter Try.func109, Try.ntmps109
  go_wp2
  go_loop [3, 7] (fun c i => ∃ k : Nat, k ≤ s.size ∧ i = .int .i64 (k : Int) ∧ c = .int .u32 (ck s k)) (fun _ i => s.size - (intOf i).toNat)
  case atStart => exact ⟨0, Nat.zero_le _, rfl, rfl⟩
  case round =>
    obtain ⟨k, hk, rfl, rfl⟩ := hrel
    by_cases hlt : k < s.size
    · have hc : ck s (k + 1) = IntKind.u32.wrap (IntKind.u32.wrap (ck s k * 16777619) + (s[k].toNat : Int)) := by rw [ck, ckB_lt hlt]
      have hw : IntKind.u32.wrap (s[k].toNat : Int) = (s[k].toNat : Int) := by rw [IntKind.wrap_u32]; have := s[k].toNat_lt; omega
      have H := Lib.hid hc
      clear hc
      generalize ck s k = c at *
      go_wp2
      go_round
      case rel => exact ⟨k + 1, by omega, by go_num, by rw [H.out]; try rfl⟩
      case measure => simp [intOf]; omega
    · obtain rfl : k = s.size := by omega
      go_wp2
      go_returns
      exact ⟨rfl, rfl⟩

set_option maxHeartbeats 1600000 in
theorem sCheck_any (s : ByteArray) (hs : s.size ≤ maxLen) (w : World) :
    Calls Try.prog 102 #[.string s] w fun e w' => e = .returned (.int .u32 (ck s s.size)) ∧ w = w' := by
  unfold maxLen at hs
  go_enter Try.func102, Try.ntmps102
  go_wp2
  go_loop [3, 4] (fun c i => ∃ k : Nat, k ≤ s.size ∧ i = .int .i64 (k : Int) ∧ c = .int .u32 (ck s k)) (fun _ i => s.size - (intOf i).toNat)
  case atStart => exact ⟨0, Nat.zero_le _, rfl, rfl⟩
  case round =>
    obtain ⟨k, hk, rfl, rfl⟩ := hrel
    by_cases hlt : k < s.size
    · have hc : ck s (k + 1) = IntKind.u32.wrap (IntKind.u32.wrap (ck s k * 16777619) + (s[k].toNat : Int)) := by rw [ck, ckB_lt hlt]
      have hw : IntKind.u32.wrap (s[k].toNat : Int) = (s[k].toNat : Int) := by rw [IntKind.wrap_u32]; have := s[k].toNat_lt; omega
      have H := Lib.hid hc
      clear hc
      generalize ck s k = c at *
      go_wp2
      go_round
      case rel => exact ⟨k + 1, by omega, by go_num, by rw [H.out]; try rfl⟩
      case measure => simp [intOf]; omega
    · obtain rfl : k = s.size := by omega
      go_wp2
      go_returns
      exact ⟨rfl, rfl⟩

set_option maxHeartbeats 1600000 in
theorem sWord_any (s : ByteArray) (hs : s.size ≤ maxLen) (w : World) :
    Calls Try.prog 137 #[.string s] w fun e w' => e = .returned (.bool (nameOk s)) ∧ w = w' := by
  unfold maxLen at hs
  go_enter Try.func137, Try.ntmps137
  go_wp2
  go_loop [3] (fun i => ∃ k : Nat, k ≤ s.size ∧ i = .int .i64 (k : Int) ∧ GoodTo s k) (fun i => s.size - (intOf i).toNat)
  case atStart => exact ⟨0, Nat.zero_le _, rfl, goodTo_zero s⟩
  case round =>
    obtain ⟨k, hk, rfl, hg⟩ := hrel
    have hg := Lib.hid hg
    by_cases hlt : k < s.size
    · by_cases c1 : s[k].toNat < 97
      · have f := Lib.hid (name_low (low_false hlt (good_lo c1)))
        have t1 : decide ((s[k].toNat : Int) < 97) = true := by simp; omega
        go_wp2
        go_returns
        exact ⟨ret_bool f.out.symm, rfl⟩
      · by_cases c2 : 122 < s[k].toNat
        · have f := Lib.hid (name_low (low_false hlt (good_hi c2)))
          have t1 : decide ((s[k].toNat : Int) < 97) = false := by simp; omega
          have t2 : decide ((122 : Int) < (s[k].toNat : Int)) = true := by simp; omega
          go_wp2
          go_returns
          exact ⟨ret_bool f.out.symm, rfl⟩
        · have f := Lib.hid (goodTo_next hg.out hlt (good_yes (by omega) (by omega)))
          have t1 : decide ((s[k].toNat : Int) < 97) = false := by simp; omega
          have t2 : decide ((122 : Int) < (s[k].toNat : Int)) = false := by simp; omega
          go_wp2
          go_round
          case rel => exact ⟨k + 1, by omega, by go_num, f.out⟩
          case measure => simp [intOf]; omega
    · obtain rfl : k = s.size := by omega
      by_cases h1 : s.size < 1
      · have f := Lib.hid (name_short h1)
        have he : s.data = #[] := by have : s.data.size = 0 := by have : s.data.size = s.size := rfl; omega
                                     exact Array.eq_empty_of_size_eq_zero this
        have he2 : s = { data := #[] } := by cases s; simp_all
        subst he2
        go_wp2
        go_returns
        exact ⟨ret_bool f.out.symm, rfl⟩
      · have hne : ¬ s = { data := #[] } := fun e => h1 (by rw [e]; decide)
        have hne4 : s.toList.isEmpty = false := by
          rw [ByteArray.toList_eq]
          cases hl : s.data.toList with
          | nil => exact absurd (by have : s.data.size = s.size := rfl; rw [← this, ← Array.length_toList, hl]; decide) h1
          | cons _ _ => rfl
        have hne2 : ¬ s.data = #[] := fun e => h1 (by have : s.data.size = s.size := rfl; rw [← this, e]; decide)
        by_cases h2 : 16 < s.size
        · have f := Lib.hid (name_long h2)
          have d2 : decide ((s.size : Int) ≤ 16) = false := by simp; omega
          go_wp2
          go_returns
          exact ⟨ret_bool f.out.symm, rfl⟩
        · have f := Lib.hid (name_yes (by omega) (by omega) (low_true hg.out))
          have d2 : decide ((s.size : Int) ≤ 16) = true := by simp; omega
          go_wp2
          go_returns
          exact ⟨ret_bool f.out.symm, rfl⟩

def wcV (s : ByteArray) : Value := if nameOk s then .tuple #[.int .u32 (ck s s.size), .int .i64 0] else .tuple #[.int .u32 0, .int .i64 2]

end Go.Proofs.Ytanocllpmjhblaa
