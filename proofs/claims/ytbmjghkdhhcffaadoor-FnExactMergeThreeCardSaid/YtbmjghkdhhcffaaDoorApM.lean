/- What an edit does to its card and to its deck, in plain words. No program. -/
import Derived.Test.YtbmjghkdhhcffaaDoorStM
import Derived.Test.YtbmjghkdhhcffaaDoorEdV
import Derived.Test.YtbmjghkdhhcffaaDoorBit
import Derived.Test.YtbmjghkdhhcffaaDoorDrops
namespace Go.Proofs.YtbmjghkdhhcffaaDoor
open Go.ChangeShapes Go.WideShapes Go.ChangeAt Go.RowKit

/-- The state of the card behind an edit. -/
def apS (x : Ed) (n : St) : St :=
  if x.k = 1 then ⟨true, x.a, x.b⟩ else if x.k = 2 then st0
  else if x.k = 3 then ⟨n.t, bits .or .u64 n.a (b0 x.h), bits .or .u64 n.b (b1 x.h)⟩
  else ⟨n.t, bits .andNot .u64 n.a (b0 x.h), bits .andNot .u64 n.b (b1 x.h)⟩
/-- Does an edit fit to the state ahead of it? -/
def apF (x : Ed) (n : St) : Bool :=
  if x.k = 1 then !n.t else if x.k = 2 then (n.t && (n.a == x.a && n.b == x.b))
  else if x.k = 3 then (n.t && !allIn (b0 x.h) (b1 x.h) n.a n.b) else (n.t && allIn (b0 x.h) (b1 x.h) n.a n.b)
/-- What is wrong with an edit of a deck. -/
def apC (cs : List Cd) (x : Ed) : Int := if x.k = 1 ∧ cs.length = 80 then 3 else if apF x (stOf cs x.s) then 0 else 4
/-- A card that is added where there was none. -/
def adI (t : Bool) (c : Cd) : List Cd := if t then [] else [c]
/-- The deck behind it. -/
def apD (cs : List Cd) (x : Ed) : List Cd := apL cs x.s (apS x (stOf cs x.s)) cs.length ++ adI (stOf cs x.s).t ⟨x.s, (apS x (stOf cs x.s)).a, (apS x (stOf cs x.s)).b⟩

theorem apC_full {cs : List Cd} {x : Ed} (h : x.k = 1 ∧ cs.length = 80) : apC cs x = 3 := by unfold apC; rw [if_pos h]
theorem apC_fit {cs : List Cd} {x : Ed} (h : ¬ (x.k = 1 ∧ cs.length = 80)) (k : apF x (stOf cs x.s) = true) : apC cs x = 0 := by unfold apC; rw [if_neg h, if_pos k]
theorem apC_mis {cs : List Cd} {x : Ed} (h : ¬ (x.k = 1 ∧ cs.length = 80)) (k : apF x (stOf cs x.s) = false) : apC cs x = 4 := by unfold apC; rw [if_neg h, if_neg (by rw [k]; simp)]

/-- No card has the name: it is added. -/
theorem apD_add {cs : List Cd} {x : Ed} (hk : x.k = 1) (h : ∀ k, k < cs.length → (cdAt cs k).s ≠ x.s) : apD cs x = cs ++ [⟨x.s, x.a, x.b⟩] := by
  have e : stOf cs x.s = st0 := st_none _ h
  unfold apD adI
  rw [e, apL_none _ _ (Nat.le_refl _) h, List.take_length]
  unfold apS
  rw [if_pos hk]
  rfl
theorem apD_at {cs : List Cd} {x : Ed} {k : Nat} (hk : k < cs.length) (he : (cdAt cs k).s = x.s) (h : ∀ j, j < cs.length → j ≠ k → (cdAt cs j).s ≠ x.s) (ht : (stOf cs x.s).t = true) :
    apD cs x = cs.take k ++ ((if (apS x (stOf cs x.s)).t then [⟨x.s, (apS x (stOf cs x.s)).a, (apS x (stOf cs x.s)).b⟩] else []) ++ cs.drop (k + 1)) := by
  have hl : k + 1 + (cs.length - (k + 1)) = cs.length := by omega
  have := apL_hit (apS x (stOf cs x.s)) he (cs.length - (k + 1)) (by omega) h
  rw [hl, show (cs.drop (k + 1)).take (cs.length - (k + 1)) = cs.drop (k + 1) from List.take_of_length_le (by rw [List.length_drop]; omega)] at this
  unfold apD adI
  rw [this, if_pos ht, List.append_nil]
theorem apD_len {cs : List Cd} {x : Ed} (hd : deckOk cs = true) (hc : apC cs x = 0) : (apD cs x).length ≤ 80 := by
  have h80 : cs.length ≤ 80 := by unfold deckOk at hd; rw [Bool.and_eq_true] at hd; exact of_decide_eq_true hd.1
  have hn : ¬ (x.k = 1 ∧ cs.length = 80) := fun h => by rw [apC_full h] at hc; cases hc
  have hf : apF x (stOf cs x.s) = true := by
    cases e : apF x (stOf cs x.s)
    · rw [apC_mis hn e] at hc; cases hc
    · rfl
  rcases st_find hd x.s with ⟨_, e0, h0⟩ | ⟨k, hk, _, he, e0, hu⟩
  · have k1 : x.k = 1 := by
      unfold apF at hf
      rw [e0] at hf
      split at hf
      · assumption
      · split at hf
        · simp [st0] at hf
        · split at hf <;> simp [st0] at hf
    rw [apD_add k1 h0]
    simp
    omega
  · rw [apD_at hk he hu (by rw [e0])]
    simp
    split <;> simp <;> omega
end Go.Proofs.YtbmjghkdhhcffaaDoor
