/- Contracts: the text of a deck, the program's and the model's. -/
import Derived.Test.YtllhglakihfjmaaDoorCtS
import Derived.Test.YtllhglakihfjmaaDoorShB
import Derived.Test.YtllhglakihfjmaaDoorDeckI
import Derived.Test.YtllhglakihfjmaaDoorDeckS
import Derived.Test.YtllhglakihfjmaaDoorFind
import Derived.Deep.DeepCutAuto
namespace Go.Proofs.YtllhglakihfjmaaDoor
open Go.ChangeShapes Go.WideShapes Go.ChangeAt Go.RowKit

theorem okTo_cards {cs : List Cd} : ∀ {n i : Nat}, okTo cs n = true → i < n → cardOk (cdAt cs i).s (cdAt cs i).b = true
  | 0, _, _, h => absurd h (Nat.not_lt_zero _)
  | n + 1, i, h, hi => by
    unfold okTo at h
    rw [Bool.and_eq_true, Bool.and_eq_true] at h
    by_cases e : i = n
    · subst e; exact h.2.1
    · exact okTo_cards h.1 (by omega)
theorem deckOk_cards {cs : List Cd} (h : deckOk cs = true) {i : Nat} (hi : i < cs.length) : cardOk (cdAt cs i).s (cdAt cs i).b = true := by
  unfold deckOk at h
  rw [Bool.and_eq_true] at h
  exact okTo_cards h.2 hi
/-- The text of the first n cards. -/
def dkN (cs : List Cd) : Nat → ByteArray
  | 0 => ByteArray.empty
  | n + 1 => dkN cs n ++ (cdT (cdAt cs n).s (cdAt cs n).a (cdAt cs n).b ++ ⟨#[10]⟩)
theorem dkN_next (cs : List Cd) (n : Nat) : dkN cs (n + 1) = dkN cs n ++ (cdT (cdAt cs n).s (cdAt cs n).a (cdAt cs n).b ++ ⟨#[10]⟩) := rfl
theorem cdT_yes {s : ByteArray} {a b : Int} (h : cardOk s b = true) : cdT s a b = cdN s (hol (hasB a b) 96) (hol (hasB a b) 96).length := if_pos h
theorem cdT_size {s : ByteArray} {a b : Int} (h : cardOk s b = true) : (cdT s a b).size ≤ 304 := by
  rw [cdT_yes h]
  unfold cardOk at h
  rw [Bool.and_eq_true] at h
  have h1 := (nameOk_size h.1).2
  have h2 := cdN_size s (zs := hol (hasB a b) 96) (fun j hj => hol_atX hj) _ (Nat.le_refl _)
  have h3 := hol_len (hasB a b) 96
  omega
theorem dkN_size {cs : List Cd} (h : ∀ i, i < cs.length → cardOk (cdAt cs i).s (cdAt cs i).b = true) : ∀ n, n ≤ cs.length → (dkN cs n).size ≤ 305 * n
  | 0, _ => Nat.le_refl _
  | n + 1, hn => by
    have ih := dkN_size h n (by omega)
    have h2 := cdT_size (a := (cdAt cs n).a) (h n (by omega))
    rw [dkN_next, ByteArray.size_append, ByteArray.size_append]
    have e : (⟨#[10]⟩ : ByteArray).size = 1 := rfl
    omega
/-- The text of a deck. -/
def dkT (cs : List Cd) : ByteArray := if deckOk cs = true then dkN cs cs.length else ByteArray.empty

set_option maxRecDepth 100000 in
set_option maxHeartbeats 3200000 in
theorem iDeckText_any (ad : Option Addr) (cs : List Cd) (c : Nat) (w : World) (hc : CardsIn w ad cs) :
    Calls Tryd.prog 24 #[.slice ad cs.length c] w fun e w' => e = .returned (.string (dkT cs)) ∧ Below w.heap.size w w' := by
  have V := fun W h => iDeckOk_any ad cs c W h
  have C := Lib.hid hc
  unfold dkT
  cases hk : deckOk cs
  · rw [hk] at V
    replace V := Lib.hid V
    simp only [Bool.false_eq_true, if_false]
    clear hk hc
    go_enter Tryd.func24, Tryd.ntmps24
    go_wp2_with (go_at_call 53; refine (V.out _ C.out).mono ?_; rintro e w1 ⟨rfl, hB⟩; have B1 := Lib.hid hB; clear hB)
    go_returns
    exact ⟨rfl, B1.out⟩
  · rw [hk] at V
    have OK := Lib.hid fun i (hi : i < cs.length) => deckOk_cards hk hi
    have SZ := Lib.hid (dkN_size fun i hi => deckOk_cards hk hi)
    have l80 := deckOk_80 hk
    simp only [if_true]
    replace V := Lib.hid V
    clear hk hc
    go_enter Tryd.func24, Tryd.ntmps24
    go_wp2_with (go_at_call 53; refine (V.out _ C.out).mono ?_; rintro e w1 ⟨rfl, hB⟩; have B1 := Lib.hid hB; clear hB)
    have D0 := Lib.hid (bldG_fresh w1)
    have A0 := Lib.hid (below_new (Below.refl w1.heap.size w1) (.cells #[.pointer none, .slice none 0 0] 95))
    have C1 := Lib.hid (cardsIn_below C.out B1.out)
    go_loopw [11] (fun i wr => ∃ j : Nat, j ≤ cs.length ∧ i = .int .i64 (j : Int) ∧ BldG w1.heap.size w1.heap.size (dkN cs j) wr ∧ Below w1.heap.size w1 wr) (fun i _ => cs.length - (intOf i).toNat)
    case atStart => exact ⟨0, Nat.zero_le _, rfl, D0.out, A0.out⟩
    case round =>
      obtain ⟨j, hj, rfl, hD, hB⟩ := hrel
      have D5 := Lib.hid hD
      have B5 := Lib.hid hB
      clear hD
      by_cases hjl : j < cs.length
      · have hd : decide ((j : Int) < (cs.length : Int)) = true := by simpa using hjl
        obtain ⟨⟨fs, u1, u2⟩, b1, o1, rfl, hb1, p0, p1, p2⟩ := C1.out j hjl
        have d0 := (hB.cell (p := ⟨b1, o1 + j * 3, none⟩) hb1).trans p0
        have d1 := (hB.cell (p := ⟨b1, o1 + j * 3 + 1, none⟩) hb1).trans p1
        have d2 := (hB.cell (p := ⟨b1, o1 + j * 3 + 2, none⟩) hb1).trans p2
        have y1 : b1 < wr.heap.size := Nat.lt_of_lt_of_le hb1 hB.size
        have i1 : (0 : Int) ≤ (j : Int) := by omega
        have i2 : (j : Int) < (cs.length : Int) := by omega
        have sz := SZ.out j hj
        have sc := cdT_size (a := (cdAt cs j).a) (OK.out j hjl)
        have NX := Lib.hid (dkN_next cs j)
        have T := Lib.hid fun W => iCardText_any (cdAt cs j).s (cdAt cs j).a (cdAt cs j).b fs u1 u2 W
        clear hB p0 p1 p2 hb1 fs u1 u2
        generalize cdT (cdAt cs j).s (cdAt cs j).a (cdAt cs j).b = t at *
        generalize dkN cs j = s at *
        generalize (cdAt cs j).s = n at *
        generalize (cdAt cs j).a = a at *
        generalize (cdAt cs j).b = b at *
        have s5 := B5.out.size
        have WB := Lib.hid fun (z : ByteArray) W (h : BldG w1.heap.size w1.heap.size z W) hB hl => (show Calls Tryd.prog 55 #[.pointer (some ⟨w1.heap.size, 0, none⟩), .int .u8 10] W _ from bld_byte w1.heap.size w1.heap.size z 10 W h hB hl)
        go_wp2_with (first
          | (go_at_call 12; refine (T.out _).mono ?_; rintro e w3 ⟨rfl, hB⟩; have A3 := Lib.hid ((below_new (Below.refl wr.heap.size wr) (.cells #[.string n, .int .u64 a, .int .u64 b] 30)).trans (Below.mono hB (by simp))); have D3 := Lib.hid (bldG_kept D5.out A3.out); have B3 := Lib.hid (B5.out.trans (Below.mono A3.out s5)); clear hB)
          | (go_at_call 54; refine (bld_str w1.heap.size w1.heap.size s t _ D3.out B3.out.size (by omega)).mono ?_; rintro e w4 ⟨rfl, hD, hB⟩; have D4 := Lib.hid hD; have B4 := Lib.hid (B3.out.trans hB); clear hD hB)
          | (go_at_call 55; refine (WB.out (s ++ t) _ D4.out B4.out.size (by rw [ByteArray.size_append]; omega)).mono ?_; rintro e w6 ⟨rfl, hD, hB⟩; have D6 := Lib.hid hD; have B6 := Lib.hid (B4.out.trans hB); clear hD hB))
        exact ⟨⟨j + 1, hjl, by rw [Int.natCast_succ], by rw [NX.out, ← ByteArray.append_assoc]; exact D6.out, B6.out⟩, by (simp [intOf]) <;> omega⟩
      · have e : j = cs.length := by omega
        subst e
        have hd : decide ((cs.length : Int) < (cs.length : Int)) = false := by simp
        clear hB
        go_wp2_with (go_at_call 56; refine (bld_text w1.heap.size w1.heap.size _ _ D5.out B5.out.size).mono ?_; rintro e w6 ⟨rfl, hB⟩; have B6 := Lib.hid (B5.out.trans hB); clear hB)
        go_returns
        exact ⟨rfl, B1.out.trans (Below.mono B6.out B1.out.size)⟩

set_option maxRecDepth 100000 in
set_option maxHeartbeats 3200000 in
theorem sDt_any (ad : Option Addr) (cs : List Cd) (c : Nat) (w : World) (hc : CardsIn w ad cs) (hk : deckOk cs = true) :
    Calls Tryd.prog 52 #[.slice ad cs.length c] w fun e w' => e = .returned (.string (dkN cs cs.length)) ∧ Below w.heap.size w w' := by
  have C := Lib.hid hc
  have OK := Lib.hid fun i (hi : i < cs.length) => deckOk_cards hk hi
  have SZ := Lib.hid (dkN_size fun i hi => deckOk_cards hk hi)
  have l80 := deckOk_80 hk
  have z10 : (ByteArray.mk #[10]).size = 1 := rfl
  clear hc hk
  go_enter Tryd.func52, Tryd.ntmps52
  go_wp2
  go_loopw [3, 4] (fun v i wr => ∃ j : Nat, j ≤ cs.length ∧ i = .int .i64 (j : Int) ∧ v = .string (dkN cs j) ∧ Below w.heap.size w wr) (fun _ i _ => cs.length - (intOf i).toNat)
  case atStart => exact ⟨0, Nat.zero_le _, rfl, rfl, Below.refl _ _⟩
  case round =>
    obtain ⟨j, hj, rfl, rfl, hB⟩ := hrel
    have B5 := Lib.hid hB
    by_cases hjl : j < cs.length
    · have hd : decide ((j : Int) < (cs.length : Int)) = true := by simpa using hjl
      obtain ⟨⟨fs, u1, u2⟩, b1, o1, rfl, hb1, p0, p1, p2⟩ := C.out j hjl
      have d0 := Lib.hid ((hB.cell (p := ⟨b1, o1 + j * 3, none⟩) hb1).trans p0)
      have d1 := Lib.hid ((hB.cell (p := ⟨b1, o1 + j * 3 + 1, none⟩) hb1).trans p1)
      have d2 := Lib.hid ((hB.cell (p := ⟨b1, o1 + j * 3 + 2, none⟩) hb1).trans p2)
      have i1 : (0 : Int) ≤ (j : Int) := by omega
      have i2 : (j : Int) < (cs.length : Int) := by omega
      have sz := SZ.out j hj
      have ok := OK.out j hjl
      have sc := cdT_size (a := (cdAt cs j).a) ok
      have NX := Lib.hid (dkN_next cs j)
      have nk : nameOk (cdAt cs j).s = true := by unfold cardOk at ok; rw [Bool.and_eq_true] at ok; exact ok.1
      have T := fun o W h0 h1 h2 => sCt_any (cdAt cs j).s (cdAt cs j).a (cdAt cs j).b (nameOk_size nk).2 u1 u2 b1 o W h0 h1 h2
      rw [← cdT_yes ok] at T
      replace T := Lib.hid T
      clear hB p0 p1 p2 hb1 fs u1 u2 ok nk
      generalize cdT (cdAt cs j).s (cdAt cs j).a (cdAt cs j).b = t at *
      generalize dkN cs j = s at *
      have sl1 : ¬ 9223372036854775807 < t.size + 1 := by omega
      have sl2 : ¬ 9223372036854775807 < s.size + (t.size + 1) := by omega
      go_wp2_with (go_at_call 37; refine (T.out _ _ d0.out d1.out d2.out).mono ?_; rintro e w3 ⟨rfl, hB⟩; have B3 := Lib.hid (B5.out.trans (Below.mono hB B5.out.size)); clear hB)
      exact ⟨⟨j + 1, hjl, by rw [Int.natCast_succ], by rw [NX.out], B3.out⟩, by (simp [intOf]) <;> omega⟩
    · have e : j = cs.length := by omega
      subst e
      have hd : decide ((cs.length : Int) < (cs.length : Int)) = false := by simp
      clear hB
      go_wp2
      go_ret
      exact ⟨rfl, B5.out⟩

set_option maxRecDepth 100000 in
set_option maxHeartbeats 1600000 in
theorem sDeckText_any (ad : Option Addr) (cs : List Cd) (c : Nat) (w : World) (hc : CardsIn w ad cs) :
    Calls Tryd.prog 22 #[.slice ad cs.length c] w fun e w' => e = .returned (.string (dkT cs)) ∧ Below w.heap.size w w' := by
  have V := fun W h => sDeckOk_any ad cs c W h
  have C := Lib.hid hc
  unfold dkT
  cases hk : deckOk cs
  · rw [hk] at V
    replace V := Lib.hid V
    simp only [Bool.false_eq_true, if_false]
    clear hk hc
    go_enter Tryd.func22, Tryd.ntmps22
    go_wp2_with (go_at_call 51; refine (V.out _ C.out).mono ?_; rintro e w1 ⟨rfl, hB⟩; have B1 := Lib.hid hB; clear hB)
    go_returns
    exact ⟨rfl, B1.out⟩
  · rw [hk] at V
    have T := Lib.hid fun W h => sDt_any ad cs c W h hk
    simp only [if_true]
    replace V := Lib.hid V
    clear hk hc
    generalize dkN cs cs.length = t at *
    go_enter Tryd.func22, Tryd.ntmps22
    go_wp2_with (first
      | (go_at_call 51; refine (V.out _ C.out).mono ?_; rintro e w1 ⟨rfl, hB⟩; have B1 := Lib.hid hB; clear hB)
      | (go_at_call 52; refine (T.out _ (cardsIn_below C.out B1.out)).mono ?_; rintro e w2 ⟨rfl, hB⟩; have B2 := Lib.hid (B1.out.trans (Below.mono hB B1.out.size)); clear hB))
    go_returns
    exact ⟨rfl, B2.out⟩
end Go.Proofs.YtllhglakihfjmaaDoor
