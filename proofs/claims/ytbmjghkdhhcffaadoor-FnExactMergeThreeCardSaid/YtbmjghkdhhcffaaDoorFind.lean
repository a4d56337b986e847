/- Contracts: FindCard, the program's (a closure handed to slices.IndexFunc) and the model's. -/
import Derived.Test.YtbmjghkdhhcffaaDoorDeckI
import Derived.Test.YtbmjghkdhhcffaaDoorFloat
import Derived.Deep.DeepCutAuto
namespace Go.Proofs.YtbmjghkdhhcffaaDoor
open Go.ChangeShapes Go.WideShapes Go.ChangeAt Go.RowKit

def findFrom (cs : List Cd) (s : ByteArray) : Nat → Nat → Int
  | 0, _ => -1
  | f + 1, j => if ((cdAt cs j).s == s) = true then (j : Int) else findFrom cs s f (j + 1)
def findC (cs : List Cd) (s : ByteArray) : Int := findFrom cs s cs.length 0
theorem find_hit {cs : List Cd} {s : ByteArray} {j : Nat} (hj : j < cs.length) (h : findFrom cs s (cs.length - j) j = findC cs s) (he : ((cdAt cs j).s == s) = true) : findC cs s = j := by
  rw [← h, show cs.length - j = (cs.length - (j + 1)) + 1 by omega, findFrom, if_pos he]
theorem find_miss {cs : List Cd} {s : ByteArray} {j : Nat} (hj : j < cs.length) (h : findFrom cs s (cs.length - j) j = findC cs s) (he : ((cdAt cs j).s == s) = false) : findFrom cs s (cs.length - (j + 1)) (j + 1) = findC cs s := by
  rw [← h, show cs.length - j = (cs.length - (j + 1)) + 1 by omega, findFrom, if_neg (by simp [he])]
theorem find_end {cs : List Cd} {s : ByteArray} (h : findFrom cs s (cs.length - cs.length) cs.length = findC cs s) : findC cs s = -1 := by
  rw [← h, Nat.sub_self]; rfl
theorem retI {x y : Int} (h : y = x) : Ending.returned (.int .i64 x) = Ending.returned (.int .i64 y) := by rw [h]
theorem deckOk_80 {cs : List Cd} (h : deckOk cs = true) : cs.length ≤ 80 := by
  unfold deckOk at h
  simp only [Bool.and_eq_true, decide_eq_true_eq] at h
  exact h.1
def fdR (ok : Bool) (x : Int) : Value := .tuple #[.int .i64 (if ok then (if x < 0 then 0 else x) else 0), .int .i64 (if ok then (if x < 0 then 6 else 0) else 1)]
theorem fdR_no (x : Int) : .tuple #[.int .i64 0, .int .i64 1] = fdR false x := rfl
theorem fdR_none {x : Int} (h : x < 0) : .tuple #[.int .i64 0, .int .i64 6] = fdR true x := by unfold fdR; simp [h]
theorem fdR_at {x : Int} (h : ¬ x < 0) : .tuple #[.int .i64 x, .int .i64 0] = fdR true x := by unfold fdR; simp [h]
theorem retV {x y : Value} (h : x = y) : Ending.returned x = Ending.returned y := by rw [h]


set_option maxHeartbeats 1600000 in
theorem sFind_any (ad : Option Addr) (cs : List Cd) (c : Nat) (t : ByteArray) (w : World) (hc : CardsIn w ad cs) (hn : cs.length ≤ 80) :
    Calls Tryd.prog 67 #[.slice ad cs.length c, .string t] w fun e w' => e = .returned (.int .i64 (findC cs t)) ∧ Below w.heap.size w w' := by
  have C := Lib.hid hc
  clear hc
  go_enter Tryd.func67, Tryd.ntmps67
  go_wp2
  go_loopw [5] (fun i wr => ∃ j : Nat, j ≤ cs.length ∧ i = .int .i64 j ∧ findFrom cs t (cs.length - j) j = findC cs t ∧ Below w.heap.size w wr) (fun i _ => cs.length - (intOf i).toNat)
  case atStart => exact ⟨0, Nat.zero_le _, rfl, rfl, Below.refl _ _⟩
  case round =>
    obtain ⟨j, hj, rfl, hs, hB⟩ := hrel
    have BB := Lib.hid hB
    have S := Lib.hid hs
    clear hs
    by_cases hjl : j < cs.length
    · have hd : decide ((j : Int) < (cs.length : Int)) = true := by simpa using hjl
      obtain ⟨_, b1, o1, rfl, hb1, p0, p1, p2⟩ := C.out j hjl
      have d0 := (hB.cell (p := ⟨b1, o1 + j * 3, none⟩) hb1).trans p0
      have d1 := (hB.cell (p := ⟨b1, o1 + j * 3 + 1, none⟩) hb1).trans p1
      have d2 := (hB.cell (p := ⟨b1, o1 + j * 3 + 2, none⟩) hb1).trans p2
      have y1 : b1 < wr.heap.size := Nat.lt_of_lt_of_le hb1 hB.size
      have i1 : (0 : Int) ≤ (j : Int) := by omega
      have i2 : (j : Int) < (cs.length : Int) := by omega
      have HT := Lib.hid (fun h => find_hit hjl S.out h)
      have MS := Lib.hid (fun h => find_miss hjl S.out h)
      clear hB p0 p1 p2 S
      cases hx : ((cdAt cs j).s == t)
      · have ht : ((cdAt cs j).s.toList == t.toList) = false := by rw [← beq_toListBytes]; exact hx
        go_wp2
        exact ⟨⟨j + 1, hjl, by rw [Int.natCast_succ], MS.out hx, BB.out⟩, by (simp [intOf]) <;> omega⟩
      · have ht : ((cdAt cs j).s.toList == t.toList) = true := by rw [← beq_toListBytes]; exact hx
        go_wp2
        go_ret
        exact ⟨retI (HT.out hx), BB.out⟩
    · have e : j = cs.length := by omega
      subst e
      have hd : decide ((cs.length : Int) < (cs.length : Int)) = false := by simp
      clear hB
      go_wp2
      go_ret
      exact ⟨retI (find_end S.out), BB.out⟩



end Go.Proofs.YtbmjghkdhhcffaaDoor
