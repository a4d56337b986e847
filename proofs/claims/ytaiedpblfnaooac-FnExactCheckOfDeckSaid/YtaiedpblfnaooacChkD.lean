/- Contracts: the check of a deck, the program's and the model's. -/
import Derived.Test.YtaiedpblfnaooacHash
import Derived.Test.YtaiedpblfnaooacFind
namespace Go.Proofs.Ytaiedpblfnaooac
open Go.ChangeShapes Go.WideShapes Go.ChangeAt Go.RowKit

/-- The sum of the hashes of the first n cards. -/
def chkN (cs : List Cd) : Nat → Int
  | 0 => 0
  | k + 1 => IntKind.u64.wrap (chkN cs k + hxC (cdAt cs k).s (cdAt cs k).a (cdAt cs k).b)

set_option maxHeartbeats 1600000 in
theorem iCheckD_any (ad : Option Addr) (cs : List Cd) (c : Nat) (w : World) (hc : CardsIn w ad cs) :
    Calls Try.prog 25 #[.slice ad cs.length c] w fun e w' => e = .returned (hcV (deckOk cs) (chkN cs cs.length)) ∧ Below w.heap.size w w' := by
  have C0 := Lib.hid hc
  have V := Lib.hid fun W h => iDeckOk_any ad cs c W h
  clear hc
  cases hk : deckOk cs
  · rw [hk] at V
    clear hk
    go_enter Try.func25, Try.ntmps25
    go_wp2_with (go_at_call 59; refine (V.out _ C0.out).mono ?_; rintro e w1 ⟨rfl, hB⟩; have b1 := Lib.hid hB; clear hB)
    go_ret2
    exact ⟨eRet (hcV_no _), b1.out⟩
  · rw [hk] at V
    have n80 := deckOk_80 hk
    clear hk
    go_enter Try.func25, Try.ntmps25
    go_wp2_with (go_at_call 59; refine (V.out _ C0.out).mono ?_; rintro e w1 ⟨rfl, hB⟩; have b1 := Lib.hid hB; clear hB)
    go_loopw [4, 12] (fun v i wr => ∃ j : Nat, j ≤ cs.length ∧ i = .int .i64 (j : Int) ∧ v = .int .u64 (chkN cs j) ∧ Below w.heap.size w wr) (fun _ i _ => cs.length - (intOf i).toNat)
    case atStart => exact ⟨0, Nat.zero_le _, rfl, rfl, b1.out⟩
    case round =>
      obtain ⟨j, hj, rfl, rfl, hB⟩ := hrel
      have BC := Lib.hid hB
      by_cases hjl : j < cs.length
      · have hd : decide ((j : Int) < (cs.length : Int)) = true := by simpa using hjl
        obtain ⟨⟨hs, _⟩, b1, o1, rfl, hb1, p0, p1, p2⟩ := C0.out j hjl
        have d0 := (hB.cell (p := ⟨b1, o1 + j * 3, none⟩) hb1).trans p0
        have d1 := (hB.cell (p := ⟨b1, o1 + j * 3 + 1, none⟩) hb1).trans p1
        have d2 := (hB.cell (p := ⟨b1, o1 + j * 3 + 2, none⟩) hb1).trans p2
        have i1 : (0 : Int) ≤ (j : Int) := by omega
        have i2 : (j : Int) < (cs.length : Int) := by omega
        have H := Lib.hid fun W => iHash_any (cdAt cs j).s (cdAt cs j).a (cdAt cs j).b hs W
        have E := Lib.hid (show chkN cs (j + 1) = IntKind.u64.wrap (chkN cs j + hxC (cdAt cs j).s (cdAt cs j).a (cdAt cs j).b) from rfl)
        clear hB p0 p1 p2 hs
        generalize hxC (cdAt cs j).s (cdAt cs j).a (cdAt cs j).b = hx at *
        generalize cdAt cs j = x at *
        obtain ⟨xs, xa, xb⟩ := x
        simp only at d0 d1 d2 H
        generalize chkN cs j = q at *
        have hA : Ab wr (wr.alloc (.cells #[.string xs, .int .u64 xa, .int .u64 xb] 53)) := below_new (Below.refl _ _) _
        have AA := Lib.hid hA
        clear hA
        go_wp2_with (go_at_call 68; refine (H.out _).mono ?_; rintro e w3 ⟨rfl, hB3⟩; have B3 := Lib.hid (BC.out.trans (Below.mono (AA.out.trans hB3) BC.out.size)); clear hB3)
        exact ⟨⟨j + 1, hjl, by rw [Int.natCast_succ], by rw [E.out], B3.out⟩, by (simp [intOf]) <;> omega⟩
      · have e : j = cs.length := by omega
        subst e
        have hd : decide ((cs.length : Int) < (cs.length : Int)) = false := by simp
        clear hB
        go_wp2
        go_ret2
        exact ⟨eRet (hcV_yes _), BC.out⟩

set_option maxHeartbeats 1600000 in
theorem sCheckN_any (ad : Option Addr) (cs : List Cd) (c : Nat) (w : World) (hc : CardsIn w ad cs) (n80 : cs.length ≤ 80) :
    Calls Try.prog 69 #[.slice ad cs.length c] w fun e w' => e = .returned (.int .u64 (chkN cs cs.length)) ∧ Below w.heap.size w w' := by
  have C0 := Lib.hid hc
  clear hc
  go_enter Try.func69, Try.ntmps69
  go_wp2
  go_loopw [3, 4] (fun v i wr => ∃ j : Nat, j ≤ cs.length ∧ i = .int .i64 (j : Int) ∧ v = .int .u64 (chkN cs j) ∧ Below w.heap.size w wr) (fun _ i _ => cs.length - (intOf i).toNat)
  case atStart => exact ⟨0, Nat.zero_le _, rfl, rfl, Below.refl _ _⟩
  case round =>
    obtain ⟨j, hj, rfl, rfl, hB⟩ := hrel
    have BC := Lib.hid hB
    by_cases hjl : j < cs.length
    · have hd : decide ((j : Int) < (cs.length : Int)) = true := by simpa using hjl
      obtain ⟨⟨hs, _⟩, b1, o1, rfl, hb1, p0, p1, p2⟩ := C0.out j hjl
      have d0 := (hB.cell (p := ⟨b1, o1 + j * 3, none⟩) hb1).trans p0
      have d1 := (hB.cell (p := ⟨b1, o1 + j * 3 + 1, none⟩) hb1).trans p1
      have d2 := (hB.cell (p := ⟨b1, o1 + j * 3 + 2, none⟩) hb1).trans p2
      have i1 : (0 : Int) ≤ (j : Int) := by omega
      have i2 : (j : Int) < (cs.length : Int) := by omega
      have H := Lib.hid (sHash_any (cdAt cs j).s (cdAt cs j).a (cdAt cs j).b hs b1 (o1 + j * 3) wr d0 d1 d2)
      have E := Lib.hid (show chkN cs (j + 1) = IntKind.u64.wrap (chkN cs j + hxC (cdAt cs j).s (cdAt cs j).a (cdAt cs j).b) from rfl)
      clear hB p0 p1 p2 hs d0 d1 d2
      generalize hxC (cdAt cs j).s (cdAt cs j).a (cdAt cs j).b = hx at *
      generalize chkN cs j = q at *
      go_wp2_with (go_at_call 66; refine H.out.mono ?_; rintro e w3 ⟨rfl, hB3⟩; have B3 := Lib.hid (BC.out.trans (Below.mono hB3 BC.out.size)); clear hB3)
      exact ⟨⟨j + 1, hjl, by rw [Int.natCast_succ], by rw [E.out], B3.out⟩, by (simp [intOf]) <;> omega⟩
    · have e : j = cs.length := by omega
      subst e
      have hd : decide ((cs.length : Int) < (cs.length : Int)) = false := by simp
      clear hB
      go_wp2
      go_ret
      exact ⟨rfl, BC.out⟩
set_option maxHeartbeats 1600000 in
theorem sCheckD_any (ad : Option Addr) (cs : List Cd) (c : Nat) (w : World) (hc : CardsIn w ad cs) :
    Calls Try.prog 24 #[.slice ad cs.length c] w fun e w' => e = .returned (hcV (deckOk cs) (chkN cs cs.length)) ∧ Below w.heap.size w w' := by
  have C0 := Lib.hid hc
  have V := Lib.hid fun W h => sDeckOk_any ad cs c W h
  clear hc
  cases hk : deckOk cs
  · rw [hk] at V
    clear hk
    go_enter Try.func24, Try.ntmps24
    go_wp2_with (go_at_call 53; refine (V.out _ C0.out).mono ?_; rintro e w1 ⟨rfl, hB⟩; have b1 := Lib.hid hB; clear hB)
    go_ret2
    exact ⟨eRet (hcV_no _), b1.out⟩
  · rw [hk] at V
    have N := Lib.hid fun W h => sCheckN_any ad cs c W h (deckOk_80 hk)
    clear hk
    generalize chkN cs cs.length = q at *
    go_enter Try.func24, Try.ntmps24
    go_wp2_with (first
      | (go_at_call 53; refine (V.out _ C0.out).mono ?_; rintro e w1 ⟨rfl, hB⟩; have b1 := Lib.hid hB; clear hB)
      | (go_at_call 69; refine (N.out _ (cardsIn_below C0.out b1.out)).mono ?_; rintro e w2 ⟨rfl, hB⟩; have b2 := Lib.hid (b1.out.trans (Below.mono hB b1.out.size)); clear hB))
    go_ret2
    exact ⟨eRet (hcV_yes _), b2.out⟩
end Go.Proofs.Ytaiedpblfnaooac
