/- Contract: the model's SplitDeck. -/
import Derived.Test.YtdbkplfkilaoeaaPassS
namespace Go.Proofs.Ytdbkplfkilaoeaa
open Go.ChangeShapes Go.WideShapes Go.ChangeAt Go.RowKit

/-- Two decks, a code. -/
def SpR (xs ys : List Cd) (c : Int) (w : World) (e : Ending) (w' : World) : Prop := ∃ v u, e = .returned (.tuple #[v, u, .int .i64 c]) ∧ OwnCards w.heap.size xs v w' ∧ OwnCards w.heap.size ys u w' ∧ Apart v u ∧ Below w.heap.size w w'
def spS (h : Int) (cs : List Cd) (c : Int) : List Cd := if c = 0 then stayTo h cs cs.length else []
def spD (h : Int) (cs : List Cd) (c : Int) : List Cd := if c = 0 then dropTo h cs cs.length else []
theorem sp_no {h : Int} {cs : List Cd} {c : Int} (e : c ≠ 0) : spS h cs c = [] ∧ spD h cs c = [] := ⟨if_neg e, if_neg e⟩
theorem sp_yes (h : Int) (cs : List Cd) : spS h cs 0 = stayTo h cs cs.length ∧ spD h cs 0 = dropTo h cs cs.length := ⟨rfl, rfl⟩

set_option maxRecDepth 100000 in
set_option maxHeartbeats 1600000 in
theorem sSplitDeck_any (ad : Option Addr) (cs : List Cd) (c : Nat) (h : Int) (w : World) (hc : CardsIn w ad cs) :
    Calls Try.prog 8 #[.slice ad cs.length c, .int .i64 h] w (SpR (spS h cs (psC (deckOk cs) h)) (spD h cs (psC (deckOk cs) h)) (psC (deckOk cs) h) w) := by
  have A := Lib.hid (sAsked_any ad cs c h w hc)
  by_cases h0 : psC (deckOk cs) h = 0
  · have hd : deckOk cs = true := by
      cases e : deckOk cs
      · rw [e, ps_1] at h0; exact absurd h0 (by decide)
      · rfl
    have hh : isHo h = true := by
      cases e : isHo h
      · rw [hd, ps_2 e] at h0; exact absurd h0 (by decide)
      · rfl
    rw [h0] at A ⊢
    rw [(sp_yes h cs).1, (sp_yes h cs).2]
    have hn := deckOk_80 hd
    have S := Lib.hid fun W hW => sSplit_any ad cs c h (isHo_in hh).1 (isHo_in hh).2 W hW hn
    have C := Lib.hid hc
    clear hc hd hh h0
    generalize stayTo h cs cs.length = xs at *
    generalize dropTo h cs cs.length = ys at *
    go_enter Try.func8, Try.ntmps8
    go_wp2_with (first
      | (go_at_call 25; refine A.out.mono ?_; rintro e w1 ⟨rfl, hB⟩; have B1 := Lib.hid hB; have C1 := Lib.hid (cardsIn_below C.out hB); clear hB)
      | (go_at_call 26; refine (S.out _ C1.out).mono ?_; rintro e w2 ⟨v, u, rfl, hS, hD, hA, hB⟩; obtain ⟨gs, ks, rfl⟩ := hS.2; obtain ⟨gd, kd, rfl⟩ := hD.2; have S2 := Lib.hid hS.1; have D2 := Lib.hid hD.1; have A2 := Lib.hid hA; have B2 := Lib.hid hB; clear hS hD hA hB))
    go_returns
    exact ⟨_, _, rfl, ownCards_weaken S2.out B1.out.size, ownCards_weaken D2.out B1.out.size, A2.out, B1.out.trans (Below.mono B2.out B1.out.size)⟩
  · have d : (psC (deckOk cs) h == 0) = false := by simpa using h0
    have d2 : (psC (deckOk cs) h != 0) = true := by simp [h0]
    rw [(sp_no h0).1, (sp_no h0).2]
    clear hc h0
    generalize psC (deckOk cs) h = k at *
    go_enter Try.func8, Try.ntmps8
    go_wp2_with (go_at_call 25; refine A.out.mono ?_; rintro e w1 ⟨rfl, hB⟩; have B1 := Lib.hid hB; clear hB)
    go_returns
    exact ⟨_, _, rfl, ownCards_kept (own_nilC rfl B1.out.size) (below_new (Below.refl _ _) _), (deck1_none rfl (by simp) (Nat.le_trans B1.out.size (by simp))).1, fun k hk hv => by simp [Value.ownBlock] at hk hv; omega, B1.out.trans (Below.mono (below_new (below_new (Below.refl _ _) _) _) B1.out.size)⟩
end Go.Proofs.Ytdbkplfkilaoeaa
