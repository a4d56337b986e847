/- Contract: the program's PassNeedle. -/
import Derived.Test.YthkmahcdojoioabPassO
import Derived.Test.YthkmahcdojoioabDeckI
namespace Go.Proofs.Ythkmahcdojoioab
open Go.ChangeShapes Go.WideShapes Go.ChangeAt Go.RowKit

theorem own_nilv (B : Nat) (w : World) : OwnCards B [] (.slice none 0 0) w := ⟨rfl, .inl ⟨rfl, rfl⟩⟩

set_option maxRecDepth 100000 in
set_option maxHeartbeats 1600000 in
theorem iPass_any (ad : Option Addr) (cs : List Cd) (c : Nat) (h : Int) (w : World) (hc : CardsIn w ad cs) :
    Calls Try.prog 38 #[.slice ad cs.length c, .int .i64 h] w (PsR (psL h cs (psC (deckOk cs) h)) (psN h cs (psC (deckOk cs) h)) (psC (deckOk cs) h) w) := by
  have D := Lib.hid (iDeckOk_any ad cs c w hc)
  cases hd : deckOk cs
  · rw [hd] at D
    rw [ps_1, (psL_no (h := h) (cs := cs) (show (1 : Int) ≠ 0 by decide)).1, (psL_no (h := h) (cs := cs) (show (1 : Int) ≠ 0 by decide)).2]
    clear hd hc
    go_enter Try.func38, Try.ntmps38
    go_wp2_with (go_at_call 64; refine D.out.mono ?_; rintro e w1 ⟨rfl, hB⟩; have B1 := Lib.hid hB; clear hB)
    go_returns
    exact ⟨_, rfl, own_nilv _ _, B1.out⟩
  · have hn := deckOk_80 hd
    rw [hd] at D
    clear hd
    cases hh : isHo h
    · have S := iHoleP hh
      rw [ps_2 hh, (psL_no (h := h) (cs := cs) (show (2 : Int) ≠ 0 by decide)).1, (psL_no (h := h) (cs := cs) (show (2 : Int) ≠ 0 by decide)).2]
      clear hh hc
      go_enter Try.func38, Try.ntmps38
      go_wp2_with (first
        | (go_at_call 64; refine D.out.mono ?_; rintro e w1 ⟨rfl, hB⟩; have B1 := Lib.hid hB; clear hB)
        | (go_at_call 83; refine (S.out _).mono ?_; rintro e w2 ⟨rfl, rfl⟩))
      go_returns
      exact ⟨_, rfl, own_nilv _ _, B1.out⟩
    · have S := iHoleP hh
      have P := Lib.hid fun W hW => iPassOnce_any ad cs c h (isHo_in hh).1 (isHo_in hh).2 W hW hn
      rw [ps_0 hh, (psL_yes h cs).1, (psL_yes h cs).2]
      have tot := len_both h cs cs.length (Nat.le_refl _)
      have L : cs.length = (stayTo h cs cs.length ++ dropTo h cs cs.length).length := by rw [List.length_append, tot]
      have C := Lib.hid hc
      have v1 : IntKind.i64.wrap ((cs.length : Int) - ((stayTo h cs cs.length).length : Int)) = ((dropTo h cs cs.length).length : Int) := by rw [IntWalk.i64_in _ (by omega)]; omega
      have LL := Lib.hid L
      clear hh hc tot L
      generalize dropTo h cs cs.length = ys at *
      generalize stayTo h cs cs.length = xs at *
      go_enter Try.func38, Try.ntmps38
      go_wp2_with (first
        | (go_at_call 64; refine D.out.mono ?_; rintro e w1 ⟨rfl, hB⟩; have B1 := Lib.hid hB; have C1 := Lib.hid (cardsIn_below C.out hB); clear hB)
        | (go_at_call 83; refine (S.out _).mono ?_; rintro e w2 ⟨rfl, rfl⟩)
        | (go_at_call 84; refine (P.out _ C1.out).mono ?_; rintro e w3 ⟨g, rfl, hO, hB⟩; have O := Lib.hid hO; have B3 := Lib.hid hB; clear hO hB))
      go_returns
      exact ⟨_, rfl, ownCards_weaken O.out B1.out.size, B1.out.trans (Below.mono B3.out B1.out.size)⟩
end Go.Proofs.Ythkmahcdojoioab
