/- Contract: the model's PassNeedle. -/
import Derived.Test.YthkmahcdojoioabSplit
import Derived.Test.YthkmahcdojoioabDeckS
import Derived.Test.YthkmahcdojoioabFind
import Derived.Test.YthkmahcdojoioabField
namespace Go.Proofs.Ythkmahcdojoioab
open Go.ChangeShapes Go.WideShapes Go.ChangeAt Go.RowKit

def isHo (n : Int) : Bool := decide (0 ≤ n ∧ n ≤ 95)
theorem iHoleP {n : Int} {x : Bool} (h : isHo n = x) : Hid (∀ w : World, Calls Try.prog 83 #[.int .i64 n] w fun e w' => e = .returned (.bool x) ∧ w = w') := Lib.hid fun w => by
  subst h
  unfold isHo
  by_cases h0 : 0 ≤ n
  · have d0 : decide (0 ≤ n) = true := decide_eq_true h0
    by_cases h1 : n ≤ 95
    · have d1 : decide (n < 96) = true := decide_eq_true (by omega)
      rw [decide_eq_true ⟨h0, h1⟩]
      go_enter Try.func83, Try.ntmps83
      go_wp2
      go_returns
      exact ⟨rfl, rfl⟩
    · have d1 : decide (n < 96) = false := decide_eq_false (by omega)
      rw [decide_eq_false (fun q => h1 q.2)]
      go_enter Try.func83, Try.ntmps83
      go_wp2
      go_returns
      exact ⟨rfl, rfl⟩
  · have d0 : decide (0 ≤ n) = false := decide_eq_false h0
    rw [decide_eq_false (fun q => h0 q.1)]
    go_enter Try.func83, Try.ntmps83
    go_wp2
    go_returns
    exact ⟨rfl, rfl⟩
theorem sHoleP {n : Int} {x : Bool} (h : isHo n = x) : Hid (∀ w : World, Calls Try.prog 86 #[.int .i64 n] w fun e w' => e = .returned (.bool x) ∧ w = w') := Lib.hid fun w => by
  have hx : inB n 0 95 = x := by rw [← h]; unfold inB isHo; by_cases h0 : 0 ≤ n <;> by_cases h1 : n ≤ 95 <;> simp [h0, h1]
  have I := Lib.hid fun W => sIn_any n 0 95 W
  rw [hx] at I
  clear h hx
  go_enter Try.func86, Try.ntmps86
  go_wp2_with (go_at_call 115; refine (I.out _).mono ?_; rintro e w1 ⟨rfl, rfl⟩)
  go_returns
  exact ⟨rfl, rfl⟩

/-- The code of a deck and a hole. -/
def psC (ok : Bool) (h : Int) : Int := if ok then (if isHo h then 0 else 2) else 1
theorem ps_1 (h : Int) : psC false h = 1 := rfl
theorem ps_2 {h : Int} (e : isHo h = false) : psC true h = 2 := by unfold psC; rw [e]; rfl
theorem ps_0 {h : Int} (e : isHo h = true) : psC true h = 0 := by unfold psC; rw [e]; rfl
theorem isHo_in {h : Int} (e : isHo h = true) : 0 ≤ h ∧ h ≤ 95 := of_decide_eq_true e
/-- A deck, a number, a code. -/
def PsR (xs : List Cd) (n c : Int) (w : World) (e : Ending) (w' : World) : Prop := ∃ v, e = .returned (.tuple #[v, .int .i64 n, .int .i64 c]) ∧ OwnCards w.heap.size xs v w' ∧ Below w.heap.size w w'
def psL (h : Int) (cs : List Cd) (c : Int) : List Cd := if c = 0 then stayTo h cs cs.length ++ dropTo h cs cs.length else []
def psN (h : Int) (cs : List Cd) (c : Int) : Int := if c = 0 then (dropTo h cs cs.length).length else 0
theorem psL_no {h : Int} {cs : List Cd} {c : Int} (e : c ≠ 0) : psL h cs c = [] ∧ psN h cs c = 0 := ⟨if_neg e, if_neg e⟩
theorem psL_yes (h : Int) (cs : List Cd) : psL h cs 0 = stayTo h cs cs.length ++ dropTo h cs cs.length ∧ psN h cs 0 = (dropTo h cs cs.length).length := ⟨rfl, rfl⟩
theorem flatC_one : ∀ (cs : List Cd), ∀ u ∈ flatC cs, u.oneCell' = true
  | [], u, h => by cases h
  | c :: cs, u, h => by
    simp only [flatC, List.mem_cons] at h
    rcases h with rfl | rfl | rfl | h
    · rfl
    · rfl
    · rfl
    · exact flatC_one cs u h
theorem own_join {B : Nat} {xs ys : List Cd} {v : Value} {w : World} (h : w.ownsRow B 95 3 v (xs.length + ys.length) (flatC xs ++ flatC ys)) : OwnCards B (xs ++ ys) v w := by unfold OwnCards; rw [flatC_app, List.length_append]; exact h
theorem own_nilC {w : World} {B : Nat} {t : TypeId} (ht : t = 95) (hB : B ≤ w.heap.size) : OwnCards B [] (.slice (some ⟨w.heap.size, 0, none⟩) 0 0) (w.alloc (.cells #[] t)) := by
  subst ht
  exact World.ownsRow_made w #[] 0 hB (Nat.zero_le _) rfl

set_option maxHeartbeats 800000 in
theorem sAsked_any (ad : Option Addr) (cs : List Cd) (c : Nat) (h : Int) (w : World) (hc : CardsIn w ad cs) :
    Calls Try.prog 81 #[.slice ad cs.length c, .int .i64 h] w fun e w' => e = .returned (.int .i64 (psC (deckOk cs) h)) ∧ Below w.heap.size w w' := by
  have D := Lib.hid (sDeckOk_any ad cs c w hc)
  clear hc
  cases hd : deckOk cs
  · rw [hd] at D
    rw [ps_1]
    clear hd
    go_enter Try.func81, Try.ntmps81
    go_wp2_with (go_at_call 60; refine D.out.mono ?_; rintro e w1 ⟨rfl, hB⟩; have B1 := Lib.hid hB; clear hB)
    go_ret
    exact ⟨rfl, B1.out⟩
  · rw [hd] at D
    clear hd
    cases hh : isHo h
    · have S := sHoleP hh
      rw [ps_2 hh]
      clear hh
      go_enter Try.func81, Try.ntmps81
      go_wp2_with (first
        | (go_at_call 60; refine D.out.mono ?_; rintro e w1 ⟨rfl, hB⟩; have B1 := Lib.hid hB; clear hB)
        | (go_at_call 86; refine (S.out _).mono ?_; rintro e w2 ⟨rfl, rfl⟩))
      go_ret
      exact ⟨rfl, B1.out⟩
    · have S := sHoleP hh
      rw [ps_0 hh]
      clear hh
      go_enter Try.func81, Try.ntmps81
      go_wp2_with (first
        | (go_at_call 60; refine D.out.mono ?_; rintro e w1 ⟨rfl, hB⟩; have B1 := Lib.hid hB; clear hB)
        | (go_at_call 86; refine (S.out _).mono ?_; rintro e w2 ⟨rfl, rfl⟩))
      go_ret
      exact ⟨rfl, B1.out⟩

set_option maxRecDepth 100000 in
set_option maxHeartbeats 1600000 in
theorem sPass_any (ad : Option Addr) (cs : List Cd) (c : Nat) (h : Int) (w : World) (hc : CardsIn w ad cs) :
    Calls Try.prog 37 #[.slice ad cs.length c, .int .i64 h] w (PsR (psL h cs (psC (deckOk cs) h)) (psN h cs (psC (deckOk cs) h)) (psC (deckOk cs) h) w) := by
  obtain ⟨i0, hi, hz0, hz1, hz2⟩ := info_parts info_card
  have A := Lib.hid (sAsked_any ad cs c h w hc)
  by_cases h0 : psC (deckOk cs) h = 0
  · have hd : deckOk cs = true := by
      cases e : deckOk cs
      · rw [e, ps_1] at h0; exact absurd h0 (by decide)
      · rfl
    have hh : isHo h = true := by
      cases e : isHo h
      · rw [hd, ps_2 e] at h0; exact absurd h0 (by decide)
      · rfl
    rw [h0] at A ⊢
    rw [(psL_yes h cs).1, (psL_yes h cs).2]
    have hn := deckOk_80 hd
    have S := Lib.hid fun W hW => sSplit_any ad cs c h (isHo_in hh).1 (isHo_in hh).2 W hW hn
    have C := Lib.hid hc
    have ls := stayTo_len h cs cs.length
    have ld := dropTo_len h cs cs.length
    clear hc hd hh h0
    generalize stayTo h cs cs.length = xs at *
    generalize dropTo h cs cs.length = ys at *
    go_enter Try.func37, Try.ntmps37
    go_wp2_with (first
      | (go_at_call 81; refine A.out.mono ?_; rintro e w1 ⟨rfl, hB⟩; have B1 := Lib.hid hB; have C1 := Lib.hid (cardsIn_below C.out hB); clear hB)
      | (go_at_call 82; refine (S.out _ C1.out).mono ?_; rintro e w2 ⟨v, u, rfl, hS, hD, _, hB⟩; obtain ⟨gs, ks, rfl⟩ := hS.2; obtain ⟨gd, kd, rfl⟩ := hD.2; have S2 := Lib.hid hS.1; have D2 := Lib.hid hD.1; have B2 := Lib.hid hB; have s2 := hB.size; clear hS hD hB)
      | (at_builtin; refine wpList_append_own _ rfl _ _ 31 rfl w1.heap.size 95 i0 (.agg #[.string ByteArray.empty, .int .u64 0, .int .u64 0]) 3 32 Try.underlying31 hi hz0 hz1 hz2 rfl (by decide) _ _ _ rfl S2.out ⟨gd, 0, none⟩ ys.length kd (flatC ys) rfl (flatC_len ys) (World.ownsRow.cells D2.out (g := gd) rfl) (flatC_one ys) (by unfold maxLen; omega) (by omega) s2 ?_; intro v' w4 hown hgrow _; have P := Lib.hid hown; have G := Lib.hid hgrow; clear hown hgrow))
    go_returns
    refine ⟨_, rfl, ?_, ?_⟩
    · exact ownCards_weaken (own_join P.out) B1.out.size
    · exact B1.out.trans (Below.mono (Below.grown B2.out G.out s2 (fun k hk => (World.ownsRow.lt S2.out k hk).1)) B1.out.size)
  · have d : (psC (deckOk cs) h == 0) = false := by simpa using h0
    have d2 : (psC (deckOk cs) h != 0) = true := by simp [h0]
    rw [(psL_no h0).1, (psL_no h0).2]
    clear hc h0
    generalize psC (deckOk cs) h = k at *
    go_enter Try.func37, Try.ntmps37
    go_wp2_with (go_at_call 81; refine A.out.mono ?_; rintro e w1 ⟨rfl, hB⟩; have B1 := Lib.hid hB; clear hB)
    go_returns
    exact ⟨_, rfl, own_nilC rfl B1.out.size, B1.out.trans (Below.mono (below_new (Below.refl _ _) _) B1.out.size)⟩
end Go.Proofs.Ythkmahcdojoioab
