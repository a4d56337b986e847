/- Contracts: FindCard, the program's (a closure handed to slices.IndexFunc) and the model's. -/
import Derived.Test.YtdohlcopamckjabDeckI
import Derived.Test.YtdohlcopamckjabFloat
import Derived.Deep.DeepCutAuto
namespace Go.Proofs.Ytdohlcopamckjab
open Go.ChangeShapes Go.WideShapes Go.ChangeAt Go.RowKit

def findFrom (cs : List Cd) (s : ByteArray) : Nat → Nat → Int
  | 0, _ => -1
  | f + 1, j => if ((cdAt cs j).s == s) = true then (j : Int) else findFrom cs s f (j + 1)
def findC (cs : List Cd) (s : ByteArray) : Int := findFrom cs s cs.length 0
theorem find_hit {cs : List Cd} {s : ByteArray} {j : Nat} (hj : j < cs.length) (h : findFrom cs s (cs.length - j) j = findC cs s) (he : ((cdAt cs j).s == s) = true) : findC cs s = j := by
  rw [← h, show cs.length - j = (cs.length - (j + 1)) + 1 by omega, findFrom, if_pos he]
theorem find_miss {cs : List Cd} {s : ByteArray} {j : Nat} (hj : j < cs.length) (h : findFrom cs s (cs.length - j) j = findC cs s) (he : ((cdAt cs j).s == s) = false) : findFrom cs s (cs.length - (j + 1)) (j + 1) = findC cs s := by
  rw [← h, show cs.length - j = (cs.length - (j + 1)) + 1 by omega, findFrom, if_neg (by simp [he])]
theorem find_end {cs : List Cd} {s : ByteArray} (h : findFrom cs s (cs.length - cs.length) cs.length = findC cs s) : findC cs s = -1 := by
  rw [← h, Nat.sub_self]; rfl
theorem retI {x y : Int} (h : y = x) : Ending.returned (.int .i64 x) = Ending.returned (.int .i64 y) := by rw [h]
theorem deckOk_80 {cs : List Cd} (h : deckOk cs = true) : cs.length ≤ 80 := by
  unfold deckOk at h
  simp only [Bool.and_eq_true, decide_eq_true_eq] at h
  exact h.1
def fdR (ok : Bool) (x : Int) : Value := .tuple #[.int .i64 (if ok then (if x < 0 then 0 else x) else 0), .int .i64 (if ok then (if x < 0 then 6 else 0) else 1)]
theorem fdR_no (x : Int) : .tuple #[.int .i64 0, .int .i64 1] = fdR false x := rfl
theorem fdR_none {x : Int} (h : x < 0) : .tuple #[.int .i64 0, .int .i64 6] = fdR true x := by unfold fdR; simp [h]
theorem fdR_at {x : Int} (h : ¬ x < 0) : .tuple #[.int .i64 x, .int .i64 0] = fdR true x := by unfold fdR; simp [h]
theorem retV {x y : Value} (h : x = y) : Ending.returned x = Ending.returned y := by rw [h]

theorem cFind_any (s : ByteArray) (a b : Int) (t : ByteArray) (g : Nat) (w : World) (h : w.cell? ⟨g, 0, none⟩ = some (.string t)) :
    Calls Try.prog 78 #[.agg #[.string s, .int .u64 a, .int .u64 b], .pointer (some ⟨g, 0, none⟩)] w fun e w' => e = .returned (.bool (s == t)) ∧ Below w.heap.size w w' := by
  have hg := World.block_lt_of_cell? _ _ h
  go_enter Try.func78, Try.ntmps78
  go_wp2
  go_returns
  exact ⟨retB (beq_toListBytes s t), (by repeat' (first | (with_reducible exact Below.refl _ _) | (with_reducible assumption) | (with_reducible refine below_drewN ?_ _) | (with_reducible refine Below.drew ?_) | (with_reducible refine below_new ?_ _) | (with_reducible refine below_next ?_ (by with_reducible assumption)) | (with_reducible refine Below.setCell ?_ ?_ _) | go_size))⟩

set_option maxHeartbeats 1600000 in
theorem sFind_any (ad : Option Addr) (cs : List Cd) (c : Nat) (t : ByteArray) (w : World) (hc : CardsIn w ad cs) (hn : cs.length ≤ 80) :
    Calls Try.prog 76 #[.slice ad cs.length c, .string t] w fun e w' => e = .returned (.int .i64 (findC cs t)) ∧ Below w.heap.size w w' := by
  have C := Lib.hid hc
  clear hc
  go_enter Try.func76, Try.ntmps76
  go_wp2
  go_loopw [5] (fun i wr => ∃ j : Nat, j ≤ cs.length ∧ i = .int .i64 j ∧ findFrom cs t (cs.length - j) j = findC cs t ∧ Below w.heap.size w wr) (fun i _ => cs.length - (intOf i).toNat)
  case atStart => exact ⟨0, Nat.zero_le _, rfl, rfl, Below.refl _ _⟩
  case round =>
    obtain ⟨j, hj, rfl, hs, hB⟩ := hrel
    have BB := Lib.hid hB
    have S := Lib.hid hs
    clear hs
    by_cases hjl : j < cs.length
    · have hd : decide ((j : Int) < (cs.length : Int)) = true := by simpa using hjl
      obtain ⟨_, b1, o1, rfl, hb1, p0, p1, p2⟩ := C.out j hjl
      have d0 := (hB.cell (p := ⟨b1, o1 + j * 3, none⟩) hb1).trans p0
      have d1 := (hB.cell (p := ⟨b1, o1 + j * 3 + 1, none⟩) hb1).trans p1
      have d2 := (hB.cell (p := ⟨b1, o1 + j * 3 + 2, none⟩) hb1).trans p2
      have y1 : b1 < wr.heap.size := Nat.lt_of_lt_of_le hb1 hB.size
      have i1 : (0 : Int) ≤ (j : Int) := by omega
      have i2 : (j : Int) < (cs.length : Int) := by omega
      have HT := Lib.hid (fun h => find_hit hjl S.out h)
      have MS := Lib.hid (fun h => find_miss hjl S.out h)
      clear hB p0 p1 p2 S
      cases hx : ((cdAt cs j).s == t)
      · have ht : ((cdAt cs j).s.toList == t.toList) = false := by rw [← beq_toListBytes]; exact hx
        go_wp2
        exact ⟨⟨j + 1, hjl, by rw [Int.natCast_succ], MS.out hx, BB.out⟩, by (simp [intOf]) <;> omega⟩
      · have ht : ((cdAt cs j).s.toList == t.toList) = true := by rw [← beq_toListBytes]; exact hx
        go_wp2
        go_ret
        exact ⟨retI (HT.out hx), BB.out⟩
    · have e : j = cs.length := by omega
      subst e
      have hd : decide ((cs.length : Int) < (cs.length : Int)) = false := by simp
      clear hB
      go_wp2
      go_ret
      exact ⟨retI (find_end S.out), BB.out⟩

set_option maxHeartbeats 1600000 in
theorem iFind_any (ad : Option Addr) (cs : List Cd) (c : Nat) (t : ByteArray) (w : World) (hc : CardsIn w ad cs) (hn : cs.length ≤ 80) (g : Nat) (hg : g < w.heap.size) (hc9 : w.cell? ⟨g, 0, none⟩ = some (.string t)) :
    Calls Try.prog 77 #[.slice ad cs.length c, .func (.func 78) #[] #[.pointer (some ⟨g, 0, none⟩)]] w fun e w' => e = .returned (.int .i64 (findC cs t)) ∧ Below w.heap.size w w' := by
  have C := Lib.hid hc
  clear hc
  have G := Lib.hid hc9
  go_enter Try.func77, Try.ntmps77
  go_wp2
  go_loopw [8] (fun i wr => ∃ j : Nat, j ≤ cs.length ∧ i = .int .i64 j ∧ findFrom cs t (cs.length - j) j = findC cs t ∧ Below w.heap.size w wr) (fun i _ => cs.length - (intOf i).toNat)
  case atStart => exact ⟨0, Nat.zero_le _, rfl, rfl, Below.refl _ _⟩
  case round =>
    obtain ⟨j, hj, rfl, hs, hB⟩ := hrel
    have BB := Lib.hid hB
    have S := Lib.hid hs
    clear hs
    by_cases hjl : j < cs.length
    · have hd : decide ((j : Int) < (cs.length : Int)) = true := by simpa using hjl
      obtain ⟨_, b1, o1, rfl, hb1, p0, p1, p2⟩ := C.out j hjl
      have d0 := (hB.cell (p := ⟨b1, o1 + j * 3, none⟩) hb1).trans p0
      have d1 := (hB.cell (p := ⟨b1, o1 + j * 3 + 1, none⟩) hb1).trans p1
      have d2 := (hB.cell (p := ⟨b1, o1 + j * 3 + 2, none⟩) hb1).trans p2
      have y1 : b1 < wr.heap.size := Nat.lt_of_lt_of_le hb1 hB.size
      have i1 : (0 : Int) ≤ (j : Int) := by omega
      have i2 : (j : Int) < (cs.length : Int) := by omega
      have V := Lib.hid (cFind_any (cdAt cs j).s (cdAt cs j).a (cdAt cs j).b t g wr ((hB.cell hg).trans G.out))
      have HT := Lib.hid (fun h => find_hit hjl S.out h)
      have MS := Lib.hid (fun h => find_miss hjl S.out h)
      clear hB p0 p1 p2 S
      cases hx : ((cdAt cs j).s == t)
      · rw [hx] at V
        go_wp2_with (go_at_call 78; refine V.out.mono ?_; rintro e w1 ⟨rfl, hB9⟩; have B1 := Lib.hid (BB.out.trans (Below.mono hB9 BB.out.size)); clear hB9)
        exact ⟨⟨j + 1, hjl, by rw [Int.natCast_succ], MS.out hx, B1.out⟩, by (simp [intOf]) <;> omega⟩
      · rw [hx] at V
        go_wp2_with (go_at_call 78; refine V.out.mono ?_; rintro e w1 ⟨rfl, hB9⟩; have B1 := Lib.hid (BB.out.trans (Below.mono hB9 BB.out.size)); clear hB9)
        go_ret
        exact ⟨retI (HT.out hx), B1.out⟩
    · have e : j = cs.length := by omega
      subst e
      have hd : decide ((cs.length : Int) < (cs.length : Int)) = false := by simp
      clear hB
      go_wp2
      go_ret
      exact ⟨retI (find_end S.out), BB.out⟩

set_option maxHeartbeats 1600000 in
theorem sFindCard_any (ad : Option Addr) (cs : List Cd) (c : Nat) (t : ByteArray) (w : World) (hc : CardsIn w ad cs) :
    Calls Try.prog 33 #[.slice ad cs.length c, .string t] w fun e w' => e = .returned (fdR (deckOk cs) (findC cs t)) ∧ Below w.heap.size w w' := by
  have HC := Lib.hid hc
  have b0 := Lib.hid (Below.refl w.heap.size w)
  have H0 := Lib.hid (cardsIn_below hc b0.out)
  have V := Lib.hid fun W h => sDeckOk_any ad cs c W h
  clear hc
  cases hz : deckOk cs
  · rw [hz] at V
    clear hz
    go_enter Try.func33, Try.ntmps33
    go_wp2_with (go_at_call 73; refine (V.out _ H0.out).mono ?_; rintro e w1 ⟨rfl, hB⟩; have b1 := Lib.hid (b0.out.trans (Below.mono hB b0.out.size)); clear hB)
    go_returns
    exact ⟨retV (fdR_no _), b1.out⟩
  · rw [hz] at V
    have F := Lib.hid fun W h => sFind_any ad cs c t W h (deckOk_80 hz)
    clear hz
    generalize findC cs t = x at *
    by_cases hx : x < 0
    · have hd : decide (x < 0) = true := decide_eq_true hx
      go_enter Try.func33, Try.ntmps33
      go_wp2_with (first | (go_at_call 73; refine (V.out _ H0.out).mono ?_; rintro e w1 ⟨rfl, hB⟩; have b1 := Lib.hid (b0.out.trans (Below.mono hB b0.out.size)); clear hB) | (go_at_call 76; refine (F.out _ (cardsIn_below HC.out b1.out)).mono ?_; rintro e w2 ⟨rfl, hB⟩; have b2 := Lib.hid (b1.out.trans (Below.mono hB b1.out.size)); clear hB))
      go_returns
      exact ⟨retV (fdR_none (by omega)), b2.out⟩
    · have hd : decide (x < 0) = false := decide_eq_false hx
      go_enter Try.func33, Try.ntmps33
      go_wp2_with (first | (go_at_call 73; refine (V.out _ H0.out).mono ?_; rintro e w1 ⟨rfl, hB⟩; have b1 := Lib.hid (b0.out.trans (Below.mono hB b0.out.size)); clear hB) | (go_at_call 76; refine (F.out _ (cardsIn_below HC.out b1.out)).mono ?_; rintro e w2 ⟨rfl, hB⟩; have b2 := Lib.hid (b1.out.trans (Below.mono hB b1.out.size)); clear hB))
      go_returns
      exact ⟨retV (fdR_at (by omega)), b2.out⟩

set_option maxHeartbeats 1600000 in
theorem iFindCard_any (ad : Option Addr) (cs : List Cd) (c : Nat) (t : ByteArray) (w : World) (hc : CardsIn w ad cs) :
    Calls Try.prog 34 #[.slice ad cs.length c, .string t] w fun e w' => e = .returned (fdR (deckOk cs) (findC cs t)) ∧ Below w.heap.size w w' := by
  have HC := Lib.hid hc
  have b0 := Lib.hid (below_new (Below.refl w.heap.size w) (.cells #[.string t] 9))
  have H0 := Lib.hid (cardsIn_below hc b0.out)
  have M := Lib.hid (block_alloc w (.cells #[.string t] 9))
  have V := Lib.hid fun W h => iDeckOk_any ad cs c W h
  clear hc
  cases hz : deckOk cs
  · rw [hz] at V
    clear hz
    go_enter Try.func34, Try.ntmps34
    go_wp2_with (go_at_call 29; refine (V.out _ H0.out).mono ?_; rintro e w1 ⟨rfl, hB⟩; have b1 := Lib.hid (b0.out.trans (Below.mono hB b0.out.size)); have m1 := Lib.hid (Ab.block hB M.out); clear hB)
    go_returns
    exact ⟨retV (fdR_no _), b1.out⟩
  · rw [hz] at V
    have F := Lib.hid fun W h h1 h2 => iFind_any ad cs c t W h (deckOk_80 hz) w.heap.size h1 h2
    clear hz
    generalize findC cs t = x at *
    by_cases hx : x < 0
    · have hd : decide (x < 0) = true := decide_eq_true hx
      go_enter Try.func34, Try.ntmps34
      go_wp2_with (first | (go_at_call 29; refine (V.out _ H0.out).mono ?_; rintro e w1 ⟨rfl, hB⟩; have b1 := Lib.hid (b0.out.trans (Below.mono hB b0.out.size)); have m1 := Lib.hid (Ab.block hB M.out); clear hB) | (go_at_call 77; refine (F.out _ (cardsIn_below HC.out b1.out) (lt_of_block m1.out) (cell_of_block m1.out 0)).mono ?_; rintro e w2 ⟨rfl, hB⟩; have b2 := Lib.hid (b1.out.trans (Below.mono hB b1.out.size)); clear hB))
      go_returns
      exact ⟨retV (fdR_none (by omega)), b2.out⟩
    · have hd : decide (x < 0) = false := decide_eq_false hx
      go_enter Try.func34, Try.ntmps34
      go_wp2_with (first | (go_at_call 29; refine (V.out _ H0.out).mono ?_; rintro e w1 ⟨rfl, hB⟩; have b1 := Lib.hid (b0.out.trans (Below.mono hB b0.out.size)); have m1 := Lib.hid (Ab.block hB M.out); clear hB) | (go_at_call 77; refine (F.out _ (cardsIn_below HC.out b1.out) (lt_of_block m1.out) (cell_of_block m1.out 0)).mono ?_; rintro e w2 ⟨rfl, hB⟩; have b2 := Lib.hid (b1.out.trans (Below.mono hB b1.out.size)); clear hB))
      go_returns
      exact ⟨retV (fdR_at (by omega)), b2.out⟩
end Go.Proofs.Ytdohlcopamckjab
