/- Contracts: the preferred entries without a broader one; synonyms: the closures, and the model's. -/
import Derived.Test.YtcbcggnpbjcdfaaDoorPick
namespace Go.Proofs.YtcbcggnpbjcdfaaDoor
open Go.ChangeShapes Go.WideShapes Go.ChangeAt Go.RowKit

def topF (cs : List Et) (i : Nat) : Bool := (etAt cs i).a == -1 && (etAt cs i).b == -1
set_option maxHeartbeats 1600000 in
theorem tops11_any (i : Int) (s : ByteArray) (a b : Int) (w : World) :
    Calls Tryd.prog 79 #[.int .i64 i, .agg #[.string s, .int .i64 a, .int .i64 b]] w fun e w' => e = .returned (.bool (a == -1 && b == -1)) ∧ Below w.heap.size w w' := by
  have K := fun W => isPref_any s a b W
  cases ha : (a == -1)
  · rw [ha] at K
    have K := Lib.hid K
    clear ha
    go_enter Tryd.func79, Tryd.ntmps79
    go_wp2_with (go_at_call 70; refine (K.out _).mono ?_; rintro e w1 ⟨rfl, hB⟩; have B1 := Lib.hid ((below_new (Below.refl w.heap.size w) _).trans (hB.mono (by simp))); clear hB)
    go_returns
    exact ⟨rfl, B1.out⟩
  · rw [ha] at K
    have K := Lib.hid K
    clear ha
    go_enter Tryd.func79, Tryd.ntmps79
    go_wp2_with (go_at_call 70; refine (K.out _).mono ?_; rintro e w1 ⟨rfl, hB⟩; have B1 := Lib.hid ((below_new (Below.refl w.heap.size w) _).trans (hB.mono (by simp))); have k2 : w1.cell? ⟨w.heap.size, 2, none⟩ = some (.int .i64 b) := (hB.cell (p := ⟨w.heap.size, 2, none⟩) (by simp)).trans (by simp); clear hB)
    go_returns
    exact ⟨rfl, B1.out⟩
theorem topsOf1_ok (ad : Option Addr) (cs : List Et) (c : Nat) (hn : cs.length ≤ 40) (W : World) (hc : EntsIn W ad cs) :
    Calls Tryd.prog 78 #[.slice ad cs.length c] W fun e w' => ∃ v, e = .returned (.tuple #[v, .int .i64 0]) ∧ OwnInts W.heap.size (pick (topF cs) cs.length) v w' ∧ Below W.heap.size W w' := by
  have V := Lib.hid (indicesOf_any ad cs c 79 #[] (topF cs) W hc hn (enters_of Tryd.func79 (by kernel_rfl) rfl) (fun i _ W2 _ _ => tops11_any i (etAt cs i).s (etAt cs i).a (etAt cs i).b W2))
  clear hc
  go_enter Tryd.func78, Tryd.ntmps78
  go_wp2_with (go_at_call 68; refine V.out.mono ?_; rintro e w1 ⟨v, rfl, hO, hB⟩; have O1 := Lib.hid hO; have B1 := Lib.hid hB; clear hO hB)
  go_returns
  exact ⟨_, rfl, O1.out, B1.out⟩
end Go.Proofs.YtcbcggnpbjcdfaaDoor
