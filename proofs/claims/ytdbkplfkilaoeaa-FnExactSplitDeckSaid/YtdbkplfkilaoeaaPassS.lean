/- Contract: the model's PassNeedle. -/
import Derived.Test.YtdbkplfkilaoeaaSplit
import Derived.Test.YtdbkplfkilaoeaaDeckS
import Derived.Test.YtdbkplfkilaoeaaFind
import Derived.Test.YtdbkplfkilaoeaaField
namespace Go.Proofs.Ytdbkplfkilaoeaa
open Go.ChangeShapes Go.WideShapes Go.ChangeAt Go.RowKit

def isHo (n : Int) : Bool := decide (0 ≤ n ∧ n ≤ 95)
theorem iHoleP {n : Int} {x : Bool} (h : isHo n = x) : Hid (∀ w : World, Calls Try.prog 28 #[.int .i64 n] w fun e w' => e = .returned (.bool x) ∧ w = w') := Lib.hid fun w => by
  subst h
  unfold isHo
  by_cases h0 : 0 ≤ n
  · have d0 : decide (0 ≤ n) = true := decide_eq_true h0
    by_cases h1 : n ≤ 95
    · have d1 : decide (n < 96) = true := decide_eq_true (by omega)
      rw [decide_eq_true ⟨h0, h1⟩]
      go_enter Try.func28, Try.ntmps28
      go_wp2
      go_returns
      exact ⟨rfl, rfl⟩
    · have d1 : decide (n < 96) = false := decide_eq_false (by omega)
      rw [decide_eq_false (fun q => h1 q.2)]
      go_enter Try.func28, Try.ntmps28
      go_wp2
      go_returns
      exact ⟨rfl, rfl⟩
  · have d0 : decide (0 ≤ n) = false := decide_eq_false h0
    rw [decide_eq_false (fun q => h0 q.1)]
    go_enter Try.func28, Try.ntmps28
    go_wp2
    go_returns
    exact ⟨rfl, rfl⟩
theorem sHoleP {n : Int} {x : Bool} (h : isHo n = x) : Hid (∀ w : World, Calls Try.prog 49 #[.int .i64 n] w fun e w' => e = .returned (.bool x) ∧ w = w') := Lib.hid fun w => by
  have hx : inB n 0 95 = x := by rw [← h]; unfold inB isHo; by_cases h0 : 0 ≤ n <;> by_cases h1 : n ≤ 95 <;> simp [h0, h1]
  have I := Lib.hid fun W => sIn_any n 0 95 W
  rw [hx] at I
  clear h hx
  go_enter Try.func49, Try.ntmps49
  go_wp2_with (go_at_call 46; refine (I.out _).mono ?_; rintro e w1 ⟨rfl, rfl⟩)
  go_returns
  exact ⟨rfl, rfl⟩

/-- The code of a deck and a hole. -/
def psC (ok : Bool) (h : Int) : Int := if ok then (if isHo h then 0 else 2) else 1
theorem ps_1 (h : Int) : psC false h = 1 := rfl
theorem ps_2 {h : Int} (e : isHo h = false) : psC true h = 2 := by unfold psC; rw [e]; rfl
theorem ps_0 {h : Int} (e : isHo h = true) : psC true h = 0 := by unfold psC; rw [e]; rfl
theorem isHo_in {h : Int} (e : isHo h = true) : 0 ≤ h ∧ h ≤ 95 := of_decide_eq_true e
/-- A deck, a number, a code. -/
def PsR (xs : List Cd) (n c : Int) (w : World) (e : Ending) (w' : World) : Prop := ∃ v, e = .returned (.tuple #[v, .int .i64 n, .int .i64 c]) ∧ OwnCards w.heap.size xs v w' ∧ Below w.heap.size w w'
def psL (h : Int) (cs : List Cd) (c : Int) : List Cd := if c = 0 then stayTo h cs cs.length ++ dropTo h cs cs.length else []
def psN (h : Int) (cs : List Cd) (c : Int) : Int := if c = 0 then (dropTo h cs cs.length).length else 0
theorem psL_no {h : Int} {cs : List Cd} {c : Int} (e : c ≠ 0) : psL h cs c = [] ∧ psN h cs c = 0 := ⟨if_neg e, if_neg e⟩
theorem psL_yes (h : Int) (cs : List Cd) : psL h cs 0 = stayTo h cs cs.length ++ dropTo h cs cs.length ∧ psN h cs 0 = (dropTo h cs cs.length).length := ⟨rfl, rfl⟩
theorem flatC_one : ∀ (cs : List Cd), ∀ u ∈ flatC cs, u.oneCell' = true
  | [], u, h => by cases h
  | c :: cs, u, h => by
    simp only [flatC, List.mem_cons] at h
    rcases h with rfl | rfl | rfl | h
    · rfl
    · rfl
    · rfl
    · exact flatC_one cs u h
theorem own_join {B : Nat} {xs ys : List Cd} {v : Value} {w : World} (h : w.ownsRow B 50 3 v (xs.length + ys.length) (flatC xs ++ flatC ys)) : OwnCards B (xs ++ ys) v w := by unfold OwnCards; rw [flatC_app, List.length_append]; exact h
theorem own_nilC {w : World} {B : Nat} {t : TypeId} (ht : t = 50) (hB : B ≤ w.heap.size) : OwnCards B [] (.slice (some ⟨w.heap.size, 0, none⟩) 0 0) (w.alloc (.cells #[] t)) := by
  subst ht
  exact World.ownsRow_made w #[] 0 hB (Nat.zero_le _) rfl

set_option maxHeartbeats 800000 in
theorem sAsked_any (ad : Option Addr) (cs : List Cd) (c : Nat) (h : Int) (w : World) (hc : CardsIn w ad cs) :
    Calls Try.prog 25 #[.slice ad cs.length c, .int .i64 h] w fun e w' => e = .returned (.int .i64 (psC (deckOk cs) h)) ∧ Below w.heap.size w w' := by
  have D := Lib.hid (sDeckOk_any ad cs c w hc)
  clear hc
  cases hd : deckOk cs
  · rw [hd] at D
    rw [ps_1]
    clear hd
    go_enter Try.func25, Try.ntmps25
    go_wp2_with (go_at_call 33; refine D.out.mono ?_; rintro e w1 ⟨rfl, hB⟩; have B1 := Lib.hid hB; clear hB)
    go_ret
    exact ⟨rfl, B1.out⟩
  · rw [hd] at D
    clear hd
    cases hh : isHo h
    · have S := sHoleP hh
      rw [ps_2 hh]
      clear hh
      go_enter Try.func25, Try.ntmps25
      go_wp2_with (first
        | (go_at_call 33; refine D.out.mono ?_; rintro e w1 ⟨rfl, hB⟩; have B1 := Lib.hid hB; clear hB)
        | (go_at_call 49; refine (S.out _).mono ?_; rintro e w2 ⟨rfl, rfl⟩))
      go_ret
      exact ⟨rfl, B1.out⟩
    · have S := sHoleP hh
      rw [ps_0 hh]
      clear hh
      go_enter Try.func25, Try.ntmps25
      go_wp2_with (first
        | (go_at_call 33; refine D.out.mono ?_; rintro e w1 ⟨rfl, hB⟩; have B1 := Lib.hid hB; clear hB)
        | (go_at_call 49; refine (S.out _).mono ?_; rintro e w2 ⟨rfl, rfl⟩))
      go_ret
      exact ⟨rfl, B1.out⟩

end Go.Proofs.Ytdbkplfkilaoeaa
