/- Contract: are all masks of a list valid, by the program. -/
import Derived.Test.YtoippchkhknhpaaAsk
import Derived.Test.YtoippchkhknhpaaOwns
namespace Go.Proofs.Ytoippchkhknhpaa
open Go.ChangeShapes Go.WideShapes Go.ChangeAt Go.RowKit

set_option maxHeartbeats 1600000 in
theorem iAreMasks_any (a : Option Addr) (ms : List (Int × Int)) (cap : Nat) (w : World) (h : MasksIn w a ms) (hl : ms.length ≤ 9223372036854775807) :
    Calls Try.prog 85 #[.slice a ms.length cap] w fun e w' => e = .returned (.bool (masksOk ms)) ∧ Below w.heap.size w w' := by
  have H := Lib.hid h
  clear h
  go_enter Try.func85, Try.ntmps85
  go_wp2
  go_loopw [7] (fun i wr => ∃ k : Nat, k ≤ ms.length ∧ i = .int .i64 (k : Int) ∧ MasksTo ms k ∧ Below w.heap.size w wr) (fun i _ => ms.length - (intOf i).toNat)
  case atStart => exact ⟨0, Nat.zero_le _, rfl, fun j hj => absurd hj (Nat.not_lt_zero _), Below.refl _ _⟩
  case round =>
    obtain ⟨k, hk, rfl, hg, hBr⟩ := hrel
    have hg := Lib.hid hg
    have BR := Lib.hid hBr
    by_cases hlt : k < ms.length
    · have d2 : decide ((k : Int) < (ms.length : Int)) = true := by simpa using hlt
      obtain ⟨b, off, rfl, hb, hc0, hc1⟩ := H.out k hlt
      have x0 := (hBr.cell (p := ⟨b, off + k * 2, none⟩) hb).trans hc0
      have x1 := (hBr.cell (p := ⟨b, off + k * 2 + 1, none⟩) hb).trans hc1
      have hsz := hBr.size
      clear hc0 hc1 hBr
      have W := fun W => iMaskOk_any (ms.getD k (0, 0)).1 (ms.getD k (0, 0)).2 W
      cases hn : mOk (ms.getD k (0, 0)).2
      · have f := Lib.hid (masks_bad hlt hn)
        rw [hn] at W
        have W := Lib.hid W
        clear hn
        generalize (ms.getD k (0, 0)).1 = x at *
        generalize (ms.getD k (0, 0)).2 = y at *
        go_wp2_with (go_at_call 57; refine (W.out _).mono ?_; rintro e w2 ⟨rfl, hB2⟩; have B2 := Lib.hid ((BR.out.alloc hsz _).trans (Below.mono hB2 (by simp; omega))); clear hB2)
        go_returns
        exact ⟨ret_bool f.out.symm, B2.out⟩
      · have f := Lib.hid (masksTo_next hg.out hn)
        rw [hn] at W
        have W := Lib.hid W
        clear hn
        generalize (ms.getD k (0, 0)).1 = x at *
        generalize (ms.getD k (0, 0)).2 = y at *
        go_wp2_with (go_at_call 57; refine (W.out _).mono ?_; rintro e w2 ⟨rfl, hB2⟩; have B2 := Lib.hid ((BR.out.alloc hsz _).trans (Below.mono hB2 (by simp; omega))); clear hB2)
        go_roundw
        case rel => exact ⟨k + 1, by omega, by go_num, f.out, B2.out⟩
        case measure => simp [intOf]; omega
    · obtain rfl : k = ms.length := by omega
      have d2 : decide ((ms.length : Int) < (ms.length : Int)) = false := by simp
      have f := Lib.hid (masks_yes hg.out)
      clear hBr
      go_wp2
      go_returns
      exact ⟨ret_bool f.out.symm, BR.out⟩

end Go.Proofs.Ytoippchkhknhpaa
