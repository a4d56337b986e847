/- Contracts: FindCard, the program's (a closure handed to slices.IndexFunc) and the model's. -/
import Derived.Test.YtpkpjkceiikakaaDoorDeckI
import Derived.Test.YtpkpjkceiikakaaDoorFloat
import Derived.Deep.DeepCutAuto
namespace Go.Proofs.YtpkpjkceiikakaaDoor
open Go.ChangeShapes Go.WideShapes Go.ChangeAt Go.RowKit

def findFrom (cs : List Cd) (s : ByteArray) : Nat → Nat → Int
  | 0, _ => -1
  | f + 1, j => if ((cdAt cs j).s == s) = true then (j : Int) else findFrom cs s f (j + 1)
def findC (cs : List Cd) (s : ByteArray) : Int := findFrom cs s cs.length 0
theorem find_hit {cs : List Cd} {s : ByteArray} {j : Nat} (hj : j < cs.length) (h : findFrom cs s (cs.length - j) j = findC cs s) (he : ((cdAt cs j).s == s) = true) : findC cs s = j := by
  rw [← h, show cs.length - j = (cs.length - (j + 1)) + 1 by omega, findFrom, if_pos he]
theorem find_miss {cs : List Cd} {s : ByteArray} {j : Nat} (hj : j < cs.length) (h : findFrom cs s (cs.length - j) j = findC cs s) (he : ((cdAt cs j).s == s) = false) : findFrom cs s (cs.length - (j + 1)) (j + 1) = findC cs s := by
  rw [← h, show cs.length - j = (cs.length - (j + 1)) + 1 by omega, findFrom, if_neg (by simp [he])]
theorem find_end {cs : List Cd} {s : ByteArray} (h : findFrom cs s (cs.length - cs.length) cs.length = findC cs s) : findC cs s = -1 := by
  rw [← h, Nat.sub_self]; rfl
theorem retI {x y : Int} (h : y = x) : Ending.returned (.int .i64 x) = Ending.returned (.int .i64 y) := by rw [h]
theorem deckOk_80 {cs : List Cd} (h : deckOk cs = true) : cs.length ≤ 80 := by
  unfold deckOk at h
  simp only [Bool.and_eq_true, decide_eq_true_eq] at h
  exact h.1
def fdR (ok : Bool) (x : Int) : Value := .tuple #[.int .i64 (if ok then (if x < 0 then 0 else x) else 0), .int .i64 (if ok then (if x < 0 then 6 else 0) else 1)]
theorem fdR_no (x : Int) : .tuple #[.int .i64 0, .int .i64 1] = fdR false x := rfl
theorem fdR_none {x : Int} (h : x < 0) : .tuple #[.int .i64 0, .int .i64 6] = fdR true x := by unfold fdR; simp [h]
theorem fdR_at {x : Int} (h : ¬ x < 0) : .tuple #[.int .i64 x, .int .i64 0] = fdR true x := by unfold fdR; simp [h]
theorem retV {x y : Value} (h : x = y) : Ending.returned x = Ending.returned y := by rw [h]





end Go.Proofs.YtpkpjkceiikakaaDoor
