/- Contracts: IsSorted, the program's and the model's. -/
import Derived.Test.YthkmahcdojoioabSortI
import Derived.Test.YthkmahcdojoioabVFi
import Derived.Test.YthkmahcdojoioabVFs
namespace Go.Proofs.Ythkmahcdojoioab
open Go.ChangeShapes Go.WideShapes Go.ChangeAt Go.RowKit

theorem eRet {x y : Value} (h : x = y) : Ending.returned x = Ending.returned y := by rw [h]
def isR (ok v : Bool) : Value := .tuple #[.bool (ok && v), .int .i64 (if ok then 0 else 1)]
theorem isR_no (v : Bool) : .tuple #[.bool false, .int .i64 1] = isR false v := rfl
theorem isR_yes (v : Bool) : .tuple #[.bool v, .int .i64 0] = isR true v := by unfold isR; rw [Bool.true_and]; rfl
theorem isR_parts (ok v : Bool) : ∃ (x : Bool) (y : Int), isR ok v = .tuple #[.bool x, .int .i64 y] := ⟨_, _, rfl⟩
/-- A field's box, and what lies below. -/
def FBox (w W : World) (s : ByteArray) (k st sz : Int) : Prop := W.heap[w.heap.size]? = some (.cells #[.string s, .int .i8 k, .int .i16 st, .int .i16 sz] 33 (0, 0)) ∧ Below w.heap.size w W
theorem fBox_start (w : World) (s : ByteArray) (k st sz : Int) : FBox w (w.alloc (.cells #[.string s, .int .i8 k, .int .i16 st, .int .i16 sz] 33)) s k st sz := ⟨block_alloc _ _, below_new (Below.refl _ _) _⟩
theorem fBox_ab {w W W' : World} {s : ByteArray} {k st sz : Int} (h : FBox w W s k st sz) (hb : Ab W W') : FBox w W' s k st sz := ⟨hb.block h.1, h.2.trans (Below.mono hb h.2.size)⟩

set_option maxHeartbeats 1600000 in
theorem iIsSorted_any (s : ByteArray) (k st sz : Int) (hs : s.size ≤ maxLen) (hk : I8 k) (ht : I16 st) (hz : I16 sz) (ad : Option Addr) (cs : List Cd) (c : Nat) (w : World) (hc : CardsIn w ad cs) :
    Calls Try.prog 20 #[.slice ad cs.length c, .agg #[.string s, .int .i8 k, .int .i16 st, .int .i16 sz]] w fun e w' => e = .returned (isR (deckOk cs && fieldOk s k st sz) (ordC k st sz cs)) ∧ Below w.heap.size w w' := by
  have hmf : ∀ (fn : Fn) (first cap : Array Value) (w : World), (Instr.makeFunc fn first cap).run Try.prog w = .ok (.func fn first cap) w := fun _ _ _ _ => rfl
  have D := Lib.hid fun W h => iDeckOk_any ad cs c W h
  have V := Lib.hid fun W => iVF_any s k st sz hs hk ht hz W
  have B0 := Lib.hid (fBox_start w s k st sz)
  have H0 := Lib.hid hc
  clear hc hs hk ht hz
  cases hd : deckOk cs
  · rw [hd] at D
    clear hd V
    go_enter Try.func20, Try.ntmps20
    go_wp2_with (go_at_call 64; refine (D.out _ (cardsIn_below H0.out B0.out.2)).mono ?_; rintro e w1 ⟨rfl, hB⟩; have B1 := Lib.hid (fBox_ab B0.out hB); have c0 := cell_of_block B1.out.1; clear hB)
    go_returns
    exact ⟨eRet (isR_no _), B1.out.2⟩
  · have hn := Lib.hid (deckOk_80 hd)
    rw [hd] at D
    clear hd
    cases hf : fieldOk s k st sz
    · rw [hf] at V
      clear hf
      go_enter Try.func20, Try.ntmps20
      go_wp2_with (first
        | (go_at_call 64; refine (D.out _ (cardsIn_below H0.out B0.out.2)).mono ?_; rintro e w1 ⟨rfl, hB⟩; have B1 := Lib.hid (fBox_ab B0.out hB); have c0 := cell_of_block B1.out.1; clear hB)
        | (go_at_call 65; refine (V.out _).mono ?_; rintro e w2 ⟨rfl, hB⟩; have B2 := Lib.hid (fBox_ab B1.out hB); clear c0; have c0 := cell_of_block B2.out.1; clear hB))
      go_returns
      exact ⟨eRet (isR_no _), B2.out.2⟩
    · have O := Lib.hid fun W h => iOrder_any s k st sz hf ad cs c W h hn.out
      rw [hf] at V
      clear hf
      go_enter Try.func20, Try.ntmps20
      go_wp2_with (first
        | (go_at_call 64; refine (D.out _ (cardsIn_below H0.out B0.out.2)).mono ?_; rintro e w1 ⟨rfl, hB⟩; have B1 := Lib.hid (fBox_ab B0.out hB); have c0 := cell_of_block B1.out.1; clear hB)
        | (go_at_call 65; refine (V.out _).mono ?_; rintro e w2 ⟨rfl, hB⟩; have B2 := Lib.hid (fBox_ab B1.out hB); clear c0; have c0 := cell_of_block B2.out.1; clear hB)
        | (go_at_call 66; refine (O.out _ (cardsIn_below H0.out B2.out.2)).mono ?_; rintro e w3 ⟨rfl, hB⟩; have B3 := Lib.hid (fBox_ab B2.out hB); clear hB))
      go_returns
      exact ⟨eRet (isR_yes _), B3.out.2⟩

set_option maxHeartbeats 1600000 in
theorem sIsSorted_any (s : ByteArray) (k st sz : Int) (hs : s.size ≤ maxLen) (ht : I16 st) (hz : I16 sz) (ad : Option Addr) (cs : List Cd) (c : Nat) (w : World) (hc : CardsIn w ad cs) :
    Calls Try.prog 17 #[.slice ad cs.length c, .agg #[.string s, .int .i8 k, .int .i16 st, .int .i16 sz]] w fun e w' => e = .returned (isR (deckOk cs && fieldOk s k st sz) (ordC k st sz cs)) ∧ Below w.heap.size w w' := by
  have D := Lib.hid fun W h => sDeckOk_any ad cs c W h
  have V := Lib.hid fun W h0 h1 h2 h3 => sVF_any s k st sz hs ht hz w.heap.size 0 W h0 h1 h2 h3
  have B0 := Lib.hid (fBox_start w s k st sz)
  have H0 := Lib.hid hc
  clear hc hs ht hz
  cases hd : deckOk cs
  · rw [hd] at D
    clear hd V
    go_enter Try.func17, Try.ntmps17
    go_wp2_with (go_at_call 60; refine (D.out _ (cardsIn_below H0.out B0.out.2)).mono ?_; rintro e w1 ⟨rfl, hB⟩; have B1 := Lib.hid (fBox_ab B0.out hB); clear hB)
    go_returns
    exact ⟨eRet (isR_no _), B1.out.2⟩
  · have hn := Lib.hid (deckOk_80 hd)
    rw [hd] at D
    clear hd
    cases hf : fieldOk s k st sz
    · rw [hf] at V
      clear hf
      go_enter Try.func17, Try.ntmps17
      go_wp2_with (first
        | (go_at_call 60; refine (D.out _ (cardsIn_below H0.out B0.out.2)).mono ?_; rintro e w1 ⟨rfl, hB⟩; have B1 := Lib.hid (fBox_ab B0.out hB); clear hB)
        | (go_at_call 61; refine Calls.mono (V.out _ ?_ ?_ ?_ ?_) ?_; exact cell_of_block B1.out.1 0; exact cell_of_block B1.out.1 1; exact cell_of_block B1.out.1 2; exact cell_of_block B1.out.1 3; rintro e w2 ⟨rfl, hB⟩; have B2 := Lib.hid (fBox_ab B1.out hB); clear hB))
      go_returns
      exact ⟨eRet (isR_no _), B2.out.2⟩
    · have O := Lib.hid fun W h h1 h2 h3 => sSorted_any s k st sz hf ad cs c w.heap.size 0 W h hn.out h1 h2 h3
      rw [hf] at V
      clear hf
      go_enter Try.func17, Try.ntmps17
      go_wp2_with (first
        | (go_at_call 60; refine (D.out _ (cardsIn_below H0.out B0.out.2)).mono ?_; rintro e w1 ⟨rfl, hB⟩; have B1 := Lib.hid (fBox_ab B0.out hB); clear hB)
        | (go_at_call 61; refine Calls.mono (V.out _ ?_ ?_ ?_ ?_) ?_; exact cell_of_block B1.out.1 0; exact cell_of_block B1.out.1 1; exact cell_of_block B1.out.1 2; exact cell_of_block B1.out.1 3; rintro e w2 ⟨rfl, hB⟩; have B2 := Lib.hid (fBox_ab B1.out hB); clear hB)
        | (go_at_call 62; refine Calls.mono (O.out _ (cardsIn_below H0.out B2.out.2) ?_ ?_ ?_) ?_; exact cell_of_block B2.out.1 1; exact cell_of_block B2.out.1 2; exact cell_of_block B2.out.1 3; rintro e w3 ⟨rfl, hB⟩; have B3 := Lib.hid (fBox_ab B2.out hB); clear hB))
      go_returns
      exact ⟨eRet (isR_yes _), B3.out.2⟩
end Go.Proofs.Ythkmahcdojoioab
