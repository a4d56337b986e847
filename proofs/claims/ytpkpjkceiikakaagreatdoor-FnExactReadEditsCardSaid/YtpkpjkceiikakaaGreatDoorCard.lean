/- Contracts: is a card valid, as the program says and as the model does. -/
import Derived.Test.YtpkpjkceiikakaaGreatDoorName
import Derived.Deep.DeepCutAuto
namespace Go.Proofs.YtpkpjkceiikakaaGreatDoor
open Go.ChangeShapes Go.WideShapes Go.ChangeAt Go.RowKit

def maskOk (b : Int) : Bool := b / 4294967296 == 0
def cardOk (s : ByteArray) (b : Int) : Bool := nameOk s && maskOk b
theorem cardOk_no {s : ByteArray} (b : Int) (h : nameOk s = false) : cardOk s b = false := by unfold cardOk; simp [h]
theorem cardOk_yes {s : ByteArray} (b : Int) (h : nameOk s = true) : cardOk s b = maskOk b := by unfold cardOk; simp [h]

set_option maxHeartbeats 1600000 in
theorem iValidCard_any (s : ByteArray) (a b : Int) (hs : s.size ≤ maxLen) (w : World) :
    Calls Tryz.prog 84 #[.agg #[.string s, .int .u64 a, .int .u64 b]] w fun e w' => e = .returned (.bool (cardOk s b)) ∧ Below w.heap.size w w' := by
  have S := Lib.hid hs
  clear hs
  cases hn : nameOk s
  · have f := Lib.hid (cardOk_no b hn)
    go_enter Tryz.func84, Tryz.ntmps84
    go_wp2_with (go_at_call 72; refine (iName_any _ S.out _).mono ?_; rintro e w1 ⟨rfl, rfl⟩)
    go_returns
    exact ⟨ret_bool f.out.symm, (by repeat' (first | (with_reducible exact Below.refl _ _) | (with_reducible assumption) | (with_reducible refine below_drewN ?_ _) | (with_reducible refine Below.drew ?_) | (with_reducible refine below_new ?_ _) | (with_reducible refine below_next ?_ (by with_reducible assumption)) | (with_reducible refine Below.setCell ?_ ?_ _) | go_size))⟩
  · have f := Lib.hid (cardOk_yes b hn)
    go_enter Tryz.func84, Tryz.ntmps84
    go_wp2_with (first | (go_at_call 72; refine (iName_any _ S.out _).mono ?_; rintro e w1 ⟨rfl, rfl⟩) | go_in)
    go_returns
    exact ⟨ret_bool f.out.symm, (by repeat' (first | (with_reducible exact Below.refl _ _) | (with_reducible assumption) | (with_reducible refine below_drewN ?_ _) | (with_reducible refine Below.drew ?_) | (with_reducible refine below_new ?_ _) | (with_reducible refine below_next ?_ (by with_reducible assumption)) | (with_reducible refine Below.setCell ?_ ?_ _) | go_size))⟩
set_option maxHeartbeats 1600000 in
theorem sOk_any (s : ByteArray) (b : Int) (hs : s.size ≤ maxLen) (g o : Nat) (w : World) (a : Int) (h0 : w.cell? ⟨g, o, none⟩ = some (.string s)) (h1 : w.cell? ⟨g, o + 1, none⟩ = some (.int .u64 a)) (h2 : w.cell? ⟨g, o + 2, none⟩ = some (.int .u64 b)) :
    Calls Tryz.prog 78 #[.pointer (some ⟨g, o, none⟩)] w fun e w' => e = .returned (.bool (cardOk s b)) ∧ Below w.heap.size w w' := by
  have S := Lib.hid hs
  clear hs
  cases hn : nameOk s
  · have f := Lib.hid (cardOk_no b hn)
    go_enter Tryz.func78, Tryz.ntmps78
    go_wp2_with (go_at_call 63; refine (sName_any _ S.out _).mono ?_; rintro e w1 ⟨rfl, rfl⟩)
    go_returns
    exact ⟨ret_bool f.out.symm, (by repeat' (first | (with_reducible exact Below.refl _ _) | (with_reducible assumption) | (with_reducible refine below_drewN ?_ _) | (with_reducible refine Below.drew ?_) | (with_reducible refine below_new ?_ _) | (with_reducible refine below_next ?_ (by with_reducible assumption)) | (with_reducible refine Below.setCell ?_ ?_ _) | go_size))⟩
  · have f := Lib.hid (cardOk_yes b hn)
    go_enter Tryz.func78, Tryz.ntmps78
    go_wp2_with (first | (go_at_call 63; refine (sName_any _ S.out _).mono ?_; rintro e w1 ⟨rfl, rfl⟩) | go_in)
    go_returns
    exact ⟨ret_bool f.out.symm, (by repeat' (first | (with_reducible exact Below.refl _ _) | (with_reducible assumption) | (with_reducible refine below_drewN ?_ _) | (with_reducible refine Below.drew ?_) | (with_reducible refine below_new ?_ _) | (with_reducible refine below_next ?_ (by with_reducible assumption)) | (with_reducible refine Below.setCell ?_ ?_ _) | go_size))⟩
end Go.Proofs.YtpkpjkceiikakaaGreatDoor
