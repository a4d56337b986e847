/- Contracts: is a text in a list (slices.Contains, the model's l03Has), are all texts of one list in another (hasAll). -/
import Derived.Test.YtoippchkhknhpaaNames
import Derived.Test.YtoippchkhknhpaaStrs
import Derived.Test.YtoippchkhknhpaaQuiet
namespace Go.Proofs.Ytoippchkhknhpaa
open Go.ChangeShapes Go.WideShapes Go.ChangeAt Go.RowKit

theorem bytes_eqL (t s : ByteArray) : (t.data.toList == s.data.toList) = (t.toList == s.toList) := by rw [ByteArray.toList_eq, ByteArray.toList_eq]
theorem has_hit {ls : List ByteArray} {j : Nat} {s : ByteArray} (hj : j < ls.length) (h : ((ls.getD j ⟨#[]⟩).toList == s.toList) = true) : hasN ls s = true := by
  refine List.any_eq_true.2 ⟨ls[j], List.getElem_mem hj, ?_⟩
  rw [bytes_eqL]
  simpa [List.getD, hj] using h
theorem has_next {ls : List ByteArray} {j : Nat} {s : ByteArray} (hj : j < ls.length) : hasN (ls.take (j + 1)) s = (hasN (ls.take j) s || ((ls.getD j ⟨#[]⟩).toList == s.toList)) := by
  have e : ls.getD j ⟨#[]⟩ = ls[j] := by simp [List.getD, hj]
  unfold hasN
  rw [List.take_add_one, List.any_append, List.getElem?_eq_getElem hj, e, ← bytes_eqL]
  simp
theorem has_miss {ls : List ByteArray} {j : Nat} {s : ByteArray} (hj : j < ls.length) (h0 : hasN (ls.take j) s = false) (h : ((ls.getD j ⟨#[]⟩).toList == s.toList) = false) : hasN (ls.take (j + 1)) s = false := by rw [has_next hj, h0, h]; rfl
theorem has_end {ls : List ByteArray} {s : ByteArray} (h0 : hasN (ls.take ls.length) s = false) : hasN ls s = false := by rwa [List.take_length] at h0
theorem retBo {x y : Bool} (h : y = x) : Ending.returned (.bool x) = Ending.returned (.bool y) := by rw [h]
/-- An index, not negative just where the text is there. -/
def IxR (q : Bool) (w : World) (e : Ending) (w' : World) : Prop := ∃ r : Int, e = .returned (.int .i64 r) ∧ decide (0 ≤ r) = q ∧ w = w'

theorem indexS_any (a : Option Addr) (ls : List ByteArray) (c : Nat) (s : ByteArray) (w : World) (h : StrsIn w a ls) (hl : ls.length ≤ 9223372036854775807) :
    Calls Try.prog 134 #[.slice a ls.length c, .string s] w (IxR (hasN ls s) w) := by
  have H := Lib.hid h
  clear h
  go_enter Try.func134, Try.ntmps134
  go_wp2
  go_loop [8] (fun i => ∃ k : Nat, k ≤ ls.length ∧ i = .int .i64 (k : Int) ∧ hasN (ls.take k) s = false) (fun i => ls.length - (intOf i).toNat)
  case atStart => exact ⟨0, Nat.zero_le _, rfl, rfl⟩
  case round =>
    obtain ⟨k, hk, rfl, hg⟩ := hrel
    have hg := Lib.hid hg
    by_cases hlt : k < ls.length
    · obtain ⟨b, off, rfl, hb, hc⟩ := H.out k hlt
      have d2 : decide ((k : Int) < (ls.length : Int)) = true := by simpa using hlt
      have i1 : (0 : Int) ≤ (k : Int) := by omega
      have i2 : (k : Int) < (ls.length : Int) := by omega
      have HT := Lib.hid fun h => has_hit (s := s) hlt h
      have MS := Lib.hid fun h => has_miss hlt hg.out h
      generalize ls.getD k ⟨#[]⟩ = x at *
      cases hq : (x.toList == s.toList)
      · have ht : (s.toList == x.toList) = false := by rw [Bool.beq_comm, hq]
        have M2 := Lib.hid (MS.out hq)
        clear hq HT MS
        go_wp2
        go_round
        case rel => exact ⟨k + 1, by omega, by go_num, M2.out⟩
        case measure => simp [intOf]; omega
      · have ht : (s.toList == x.toList) = true := by rw [Bool.beq_comm, hq]
        have T2 := Lib.hid (HT.out hq)
        clear hq HT MS
        go_wp2
        go_returns
        exact ⟨k, rfl, by rw [T2.out]; simp, rfl⟩
    · obtain rfl : k = ls.length := by omega
      have f := Lib.hid (has_end hg.out)
      have d2 : decide ((ls.length : Int) < (ls.length : Int)) = false := by simp
      go_wp2
      go_returns
      exact ⟨-1, rfl, by rw [f.out]; rfl, rfl⟩

theorem containsS_any (a : Option Addr) (ls : List ByteArray) (c : Nat) (s : ByteArray) (w : World) (h : StrsIn w a ls) (hl : ls.length ≤ 9223372036854775807) :
    Calls Try.prog 114 #[.slice a ls.length c, .string s] w fun e w' => e = .returned (.bool (hasN ls s)) ∧ w = w' := by
  have I := Lib.hid (indexS_any a ls c s w h hl)
  clear h
  go_enter Try.func114, Try.ntmps114
  go_wp2_with (go_at_call 134; refine I.out.mono ?_; rintro e w1 ⟨r, rfl, hr, rfl⟩; have HR := Lib.hid hr; clear hr)
  go_returns
  exact ⟨by rw [HR.out]; rfl, rfl⟩

theorem sHasS_any (a : Option Addr) (ls : List ByteArray) (c : Nat) (s : ByteArray) (w : World) (h : StrsIn w a ls) (hl : ls.length ≤ 9223372036854775807) :
    Calls Try.prog 112 #[.slice a ls.length c, .string s] w fun e w' => e = .returned (.bool (hasN ls s)) ∧ w = w' := by
  have H := Lib.hid h
  clear h
  go_enter Try.func112, Try.ntmps112
  go_wp2
  go_loop [5] (fun i => ∃ k : Nat, k ≤ ls.length ∧ i = .int .i64 (k : Int) ∧ hasN (ls.take k) s = false) (fun i => ls.length - (intOf i).toNat)
  case atStart => exact ⟨0, Nat.zero_le _, rfl, rfl⟩
  case round =>
    obtain ⟨k, hk, rfl, hg⟩ := hrel
    have hg := Lib.hid hg
    by_cases hlt : k < ls.length
    · obtain ⟨b, off, rfl, hb, hc⟩ := H.out k hlt
      have d2 : decide ((k : Int) < (ls.length : Int)) = true := by simpa using hlt
      have i1 : (0 : Int) ≤ (k : Int) := by omega
      have i2 : (k : Int) < (ls.length : Int) := by omega
      have HT := Lib.hid fun h => has_hit (s := s) hlt h
      have MS := Lib.hid fun h => has_miss hlt hg.out h
      generalize ls.getD k ⟨#[]⟩ = x at *
      cases hq : (x.toList == s.toList)
      · have M2 := Lib.hid (MS.out hq)
        clear HT MS
        go_wp2
        go_round
        case rel => exact ⟨k + 1, by omega, by go_num, M2.out⟩
        case measure => simp [intOf]; omega
      · have T2 := Lib.hid (HT.out hq)
        clear HT MS
        go_wp2
        go_returns
        exact ⟨retBo T2.out, rfl⟩
    · obtain rfl : k = ls.length := by omega
      have f := Lib.hid (has_end hg.out)
      have d2 : decide ((ls.length : Int) < (ls.length : Int)) = false := by simp
      go_wp2
      go_returns
      exact ⟨retBo f.out, rfl⟩

/-- Are the first k texts of a list all in another one? -/
def allN (xs zs : List ByteArray) : Nat → Bool
  | 0 => true
  | k + 1 => allN xs zs k && hasN xs (zs.getD k ⟨#[]⟩)
theorem allN_yes {xs zs : List ByteArray} {k : Nat} (h0 : allN xs zs k = true) (h : hasN xs (zs.getD k ⟨#[]⟩) = true) : allN xs zs (k + 1) = true := by show (_ && _) = true; rw [h0, h]; rfl
theorem allN_no {xs zs : List ByteArray} {k : Nat} (h : hasN xs (zs.getD k ⟨#[]⟩) = false) : ∀ d, allN xs zs (k + 1 + d) = false
  | 0 => by show (_ && _) = false; rw [h, Bool.and_false]
  | d + 1 => by show (allN xs zs (k + 1 + d) && _) = false; rw [allN_no h d]; rfl
theorem allN_bad {xs zs : List ByteArray} {k : Nat} (hk : k < zs.length) (h : hasN xs (zs.getD k ⟨#[]⟩) = false) : allN xs zs zs.length = false := by
  have := allN_no (xs := xs) (zs := zs) h (zs.length - (k + 1))
  rwa [show k + 1 + (zs.length - (k + 1)) = zs.length by omega] at this

theorem iHasAll_any (a : Option Addr) (xs : List ByteArray) (c : Nat) (b : Option Addr) (zs : List ByteArray) (d : Nat) (w : World) (hx : StrsIn w a xs) (hz : StrsIn w b zs) (hl : xs.length ≤ 9223372036854775807) (hm : zs.length ≤ 9223372036854775807) :
    Calls Try.prog 79 #[.slice a xs.length c, .slice b zs.length d] w fun e w' => e = .returned (.bool (allN xs zs zs.length)) ∧ w = w' := by
  have H := Lib.hid hz
  have C := Lib.hid fun s => containsS_any a xs c s w hx hl
  clear hx hz
  go_enter Try.func79, Try.ntmps79
  go_wp2
  go_loop [9] (fun i => ∃ k : Nat, k ≤ zs.length ∧ i = .int .i64 (k : Int) ∧ allN xs zs k = true) (fun i => zs.length - (intOf i).toNat)
  case atStart => exact ⟨0, Nat.zero_le _, rfl, rfl⟩
  case round =>
    obtain ⟨k, hk, rfl, hg⟩ := hrel
    have hg := Lib.hid hg
    by_cases hlt : k < zs.length
    · obtain ⟨b1, off, rfl, hb, hc⟩ := H.out k hlt
      have d2 : decide ((k : Int) < (zs.length : Int)) = true := by simpa using hlt
      have i1 : (0 : Int) ≤ (k : Int) := by omega
      have i2 : (k : Int) < (zs.length : Int) := by omega
      have YE := Lib.hid fun h => allN_yes hg.out h
      have NO := Lib.hid fun h => allN_bad (xs := xs) hlt h
      have C1 := C.out (zs.getD k ⟨#[]⟩)
      generalize zs.getD k ⟨#[]⟩ = s at *
      cases hq : hasN xs s
      · rw [hq] at C1
        have C1 := Lib.hid C1
        have N2 := Lib.hid (NO.out hq)
        clear YE NO hq
        go_wp2_with (go_at_call 114; refine C1.out.mono ?_; rintro e w1 ⟨rfl, rfl⟩)
        go_returns
        exact ⟨retBo N2.out, rfl⟩
      · rw [hq] at C1
        have C1 := Lib.hid C1
        have Y2 := Lib.hid (YE.out hq)
        clear YE NO hq
        go_wp2_with (go_at_call 114; refine C1.out.mono ?_; rintro e w1 ⟨rfl, rfl⟩)
        go_round
        case rel => exact ⟨k + 1, by omega, by go_num, Y2.out⟩
        case measure => simp [intOf]; omega
    · obtain rfl : k = zs.length := by omega
      have d2 : decide ((zs.length : Int) < (zs.length : Int)) = false := by simp
      go_wp2
      go_returns
      first | exact ⟨rfl, rfl⟩ | exact ⟨retBo hg.out, rfl⟩
end Go.Proofs.Ytoippchkhknhpaa
