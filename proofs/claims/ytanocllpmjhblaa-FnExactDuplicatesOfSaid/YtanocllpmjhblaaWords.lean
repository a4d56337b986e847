/- Contracts: are all of a list words, as the program says and as the model does. -/
import Derived.Test.YtanocllpmjhblaaChk
import Derived.Test.YtanocllpmjhblaaStrs
namespace Go.Proofs.Ytanocllpmjhblaa
open Go.ChangeShapes Go.WideShapes Go.ChangeAt Go.RowKit

def wordsOk (zs : List ByteArray) (m : Nat) : Bool := decide (zs.length ≤ m) && zs.all nameOk
def WordsTo (zs : List ByteArray) (k : Nat) : Prop := ∀ j, j < k → nameOk (zs.getD j ⟨#[]⟩) = true
theorem words_long {zs : List ByteArray} {m : Nat} (h : m < zs.length) : wordsOk zs m = false := by unfold wordsOk; simp; omega
theorem words_bad {zs : List ByteArray} {k : Nat} (m : Nat) (hk : k < zs.length) (h : nameOk (zs.getD k ⟨#[]⟩) = false) : wordsOk zs m = false := by
  unfold wordsOk
  rw [Bool.and_eq_false_iff]
  refine .inr ?_
  rw [List.all_eq_false]
  refine ⟨zs[k], List.getElem_mem hk, ?_⟩
  have : zs.getD k ⟨#[]⟩ = zs[k] := by simp [List.getD, hk]
  rw [← this, h]; simp
theorem words_yes {zs : List ByteArray} {m : Nat} (h : zs.length ≤ m) (hw : WordsTo zs zs.length) : wordsOk zs m = true := by
  unfold wordsOk
  rw [Bool.and_eq_true]
  refine ⟨by simpa using h, ?_⟩
  rw [List.all_eq_true]
  intro x hx
  obtain ⟨j, hj, rfl⟩ := List.mem_iff_getElem.1 hx
  have := hw j hj
  rwa [show zs.getD j ⟨#[]⟩ = zs[j] from by simp [List.getD, hj]] at this
theorem wordsTo_next {zs : List ByteArray} {k : Nat} (h : WordsTo zs k) (hk : nameOk (zs.getD k ⟨#[]⟩) = true) : WordsTo zs (k + 1) := fun j hj => by
  by_cases e : j = k
  · subst e; exact hk
  · exact h j (by omega)

set_option maxHeartbeats 1600000 in
theorem iAreWords_any (a : Option Addr) (zs : List ByteArray) (cap m : Nat) (w : World) (h : StrsIn w a zs) (hf : Fit zs) (hl : zs.length ≤ 9223372036854775807) :
    Calls Try.prog 55 #[.slice a zs.length cap, .int .i64 m] w fun e w' => e = .returned (.bool (wordsOk zs m)) ∧ w = w' := by
  have H := Lib.hid h
  have F := Lib.hid hf
  clear h hf
  by_cases hm : m < zs.length
  · have f := Lib.hid (words_long hm)
    have d1 : decide ((m : Int) < (zs.length : Int)) = true := by simpa using hm
    go_enter Try.func55, Try.ntmps55
    go_wp2
    go_returns
    exact ⟨ret_bool f.out.symm, rfl⟩
  · have d1 : decide ((m : Int) < (zs.length : Int)) = false := by simpa using hm
    go_enter Try.func55, Try.ntmps55
    go_wp2
    go_loop [13] (fun i => ∃ k : Nat, k ≤ zs.length ∧ i = .int .i64 (k : Int) ∧ WordsTo zs k) (fun i => zs.length - (intOf i).toNat)
    case atStart => exact ⟨0, Nat.zero_le _, rfl, fun j hj => absurd hj (Nat.not_lt_zero _)⟩
    case round =>
      obtain ⟨k, hk, rfl, hg⟩ := hrel
      have hg := Lib.hid hg
      by_cases hlt : k < zs.length
      · obtain ⟨b, off, rfl, hb, hc⟩ := H.out k hlt
        have W := Lib.hid (iWord_any (zs.getD k ⟨#[]⟩) (F.out k hlt))
        have d2 : decide ((k : Int) < (zs.length : Int)) = true := by simpa using hlt
        cases hn : nameOk (zs.getD k ⟨#[]⟩)
        · have f := Lib.hid (words_bad m hlt hn)
          rw [hn] at W
          clear hn
          generalize zs.getD k ⟨#[]⟩ = s at *
          go_wp2_with (go_at_call 106; refine (W.out _).mono ?_; rintro e w1 ⟨rfl, rfl⟩)
          go_returns
          exact ⟨ret_bool f.out.symm, rfl⟩
        · have f := Lib.hid (wordsTo_next hg.out hn)
          rw [hn] at W
          clear hn
          generalize zs.getD k ⟨#[]⟩ = s at *
          go_wp2_with (go_at_call 106; refine (W.out _).mono ?_; rintro e w1 ⟨rfl, rfl⟩)
          go_round
          case rel => exact ⟨k + 1, by omega, by go_num, f.out⟩
          case measure => simp [intOf]; omega
      · obtain rfl : k = zs.length := by omega
        have f := Lib.hid (words_yes (Nat.le_of_not_lt hm) hg.out)
        have d2 : decide ((zs.length : Int) < (zs.length : Int)) = false := by simp
        go_wp2
        go_returns
        exact ⟨ret_bool f.out.symm, rfl⟩

def wordsC (zs : List ByteArray) (m : Nat) : Int := if wordsOk zs m then 0 else 2
theorem wordsC_no {zs : List ByteArray} {m : Nat} (h : wordsOk zs m = false) : wordsC zs m = 2 := by unfold wordsC; rw [h]; rfl
theorem wordsC_yes {zs : List ByteArray} {m : Nat} (h : wordsOk zs m = true) : wordsC zs m = 0 := by unfold wordsC; rw [h]; rfl

set_option maxHeartbeats 1600000 in
theorem sWords_any (a : Option Addr) (zs : List ByteArray) (cap m : Nat) (w : World) (h : StrsIn w a zs) (hf : Fit zs) (hl : zs.length ≤ 9223372036854775807) :
    Calls Try.prog 101 #[.slice a zs.length cap, .int .i64 m] w fun e w' => e = .returned (.int .i64 (wordsC zs m)) ∧ w = w' := by
  have H := Lib.hid h
  have F := Lib.hid hf
  clear h hf
  by_cases hm : m < zs.length
  · have f := Lib.hid (wordsC_no (words_long hm))
    have d1 : decide ((m : Int) < (zs.length : Int)) = true := by simpa using hm
    go_enter Try.func101, Try.ntmps101
    go_wp2
    go_returns
    exact ⟨ret_i64 f.out, rfl⟩
  · have d1 : decide ((m : Int) < (zs.length : Int)) = false := by simpa using hm
    go_enter Try.func101, Try.ntmps101
    go_wp2
    go_loop [5] (fun i => ∃ k : Nat, k ≤ zs.length ∧ i = .int .i64 (k : Int) ∧ WordsTo zs k) (fun i => zs.length - (intOf i).toNat)
    case atStart => exact ⟨0, Nat.zero_le _, rfl, fun j hj => absurd hj (Nat.not_lt_zero _)⟩
    case round =>
      obtain ⟨k, hk, rfl, hg⟩ := hrel
      have hg := Lib.hid hg
      by_cases hlt : k < zs.length
      · obtain ⟨b, off, rfl, hb, hc⟩ := H.out k hlt
        have W := Lib.hid (sWord_any (zs.getD k ⟨#[]⟩) (F.out k hlt))
        have d2 : decide ((k : Int) < (zs.length : Int)) = true := by simpa using hlt
        cases hn : nameOk (zs.getD k ⟨#[]⟩)
        · have f := Lib.hid (wordsC_no (words_bad m hlt hn))
          rw [hn] at W
          clear hn
          generalize zs.getD k ⟨#[]⟩ = s at *
          go_wp2_with (go_at_call 137; refine (W.out _).mono ?_; rintro e w1 ⟨rfl, rfl⟩)
          go_returns
          exact ⟨ret_i64 f.out, rfl⟩
        · have f := Lib.hid (wordsTo_next hg.out hn)
          rw [hn] at W
          clear hn
          generalize zs.getD k ⟨#[]⟩ = s at *
          go_wp2_with (go_at_call 137; refine (W.out _).mono ?_; rintro e w1 ⟨rfl, rfl⟩)
          go_round
          case rel => exact ⟨k + 1, by omega, by go_num, f.out⟩
          case measure => simp [intOf]; omega
      · obtain rfl : k = zs.length := by omega
        have f := Lib.hid (wordsC_yes (words_yes (Nat.le_of_not_lt hm) hg.out))
        have d2 : decide ((zs.length : Int) < (zs.length : Int)) = false := by simp
        go_wp2
        go_returns
        exact ⟨ret_i64 f.out, rfl⟩
end Go.Proofs.Ytanocllpmjhblaa
