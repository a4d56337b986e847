/- The states of the cards of a deck in a map[string]state that a call makes: made, asked, added to. -/
import Derived.Test.YtbmjghkdhhcffaaDoorNames
import Derived.Test.YtbmjghkdhhcffaaDoorDeckI
import Derived.Deep.DeepCutAuto
namespace Go.Proofs.YtbmjghkdhhcffaaDoor
open Go.ChangeShapes Go.WideShapes Go.ChangeAt Go.RowKit

/-- A state: is there a card, and what it is notched at. -/
structure St where
  t : Bool
  a : Int
  b : Int
def st0 : St := ⟨false, 0, 0⟩
def stV (x : St) : Value := .agg #[.bool x.t, .int .u64 x.a, .int .u64 x.b]
def stD (x : St) : DataW Unit := .agg [.lit (.bool x.t), .lit (.int .u64 x.a), .lit (.int .u64 x.b)]
/-- How a state reads. -/
def stR : Value → Option (DataW Unit × List MemPlace)
  | .agg ⟨[.bool t, .int .u64 a, .int .u64 b]⟩ => some (stD ⟨t, a, b⟩, [])
  | _ => none
theorem stR_of (x : St) : stR (stV x) = some (stD x, []) := rfl
theorem stD_inj {x y : St} (h : stD x = stD y) : x = y := by
  obtain ⟨t, a, b⟩ := x
  obtain ⟨u, c, d⟩ := y
  unfold stD at h
  simp only [DataW.agg.injEq, List.cons.injEq, DataW.lit.injEq, Lit.bool.injEq, Lit.int.injEq, and_true, true_and] at h
  obtain ⟨rfl, rfl, rfl⟩ := h
  rfl
theorem stR_inv {v : Value} {x : St} {ps : List MemPlace} (h : stR v = some (stD x, ps)) : v = stV x := by
  unfold stR at h
  split at h
  · simp only [Option.some.injEq, Prod.mk.injEq] at h
    have := stD_inj h.1
    subst this
    rfl
  · cases h

/-- The state of the card with a name, of the first n: the last one of several. -/
def stTo (cs : List Cd) (s : ByteArray) : Nat → St
  | 0 => st0
  | k + 1 => if ((cdAt cs k).s == s) = true then ⟨true, (cdAt cs k).a, (cdAt cs k).b⟩ else stTo cs s k
def stOf (cs : List Cd) (s : ByteArray) : St := stTo cs s cs.length

/-- Block b holds a map of the call's own with the states of the first n cards. -/
def StsIn (P : Program) (k : TypeId) (w : World) (b : Nat) (cs : List Cd) (n : Nat) : Prop :=
  ∃ D : DataW Unit, w.ownsMap P k stR b n D ∧ Maps.IsMap D ∧ ∀ s : ByteArray, D.atKey (.string s.data.toList) (stD st0) = stD (stTo cs s n)

theorem stsIn_made (P : Program) (k : TypeId) (w : World) (cs : List Cd) : StsIn P k (w.alloc (.map #[] 0)) w.heap.size cs 0 :=
  ⟨.map [], World.ownsMap_made _ _ _ _, ⟨[], rfl⟩, fun _ => rfl⟩

theorem StsIn.asked {P : Program} {k e t : TypeId} {w : World} {b n : Nat} {cs : List Cd} (h : StsIn P k w b cs n) (ht : P.underlying t = some (.map k e)) (hk : P.underlying k = some .string) (hz : (zeroValue e).run P w = .ok (stV st0) w) (s : ByteArray) (hs : s.size ≤ maxLen) :
    (Instr.lookup t (.map (some b)) (.string s) false).run P w = .ok (stV (stTo cs s n)) w := by
  obtain ⟨D, hown, _, hat⟩ := h
  obtain ⟨v, ps, hrun, hv⟩ := hown.lookup (Maps.string_keyed hk) ht hz (stR_of st0) (Go.WideMaps.keyOf_string_mk hk hs)
  rw [hat s] at hv
  rw [hrun, stR_inv hv]

theorem StsIn.added {P : Program} {k e t : TypeId} {w : World} {b n : Nat} {cs : List Cd} (h : StsIn P k w b cs n) (ht : P.underlying t = some (.map k e)) (hk : P.underlying k = some .string) (hs : (cdAt cs n).s.size ≤ maxLen) (hn : n < maxLen) :
    ∃ w', (Instr.mapUpdate t (.map (some b)) (.string (cdAt cs n).s) (stV ⟨true, (cdAt cs n).a, (cdAt cs n).b⟩)).run P w = .ok () w' ∧ StsIn P k w' b cs (n + 1) ∧ w.grownBy w' (some b) := by
  obtain ⟨D, hown, hm, hat⟩ := h
  obtain ⟨w', hrun, hown', hg⟩ := hown.update (Maps.string_keyed hk) ht hn (Go.WideMaps.keyOf_string_mk hk hs) (stR_of ⟨true, (cdAt cs n).a, (cdAt cs n).b⟩)
  refine ⟨w', hrun, ⟨D.put (.string (cdAt cs n).s.data.toList) (stD ⟨true, (cdAt cs n).a, (cdAt cs n).b⟩), hown', ?_, fun q => ?_⟩, hg⟩
  · obtain ⟨es, rfl⟩ := hm; exact ⟨_, rfl⟩
  · unfold stTo
    rw [bytes_beq]
    by_cases hq : q.data.toList = (cdAt cs n).s.data.toList
    · rw [hq, Maps.atKey_put_same hm (show WideAt.IsKeyLit (.string (cdAt cs n).s.data.toList) from trivial), if_pos (by simp)]
    · have hne : Lit.string q.data.toList ≠ Lit.string (cdAt cs n).s.data.toList := by
        intro e1
        injection e1 with e2
        exact hq e2
      have hq2 : ((cdAt cs n).s.data.toList == q.data.toList) = false := by rw [beq_eq_false_iff_ne]; exact fun e => hq e.symm
      rw [Maps.atKey_put_other hne, hat q, if_neg (by rw [hq2]; simp)]

theorem StsIn.kept {P : Program} {k : TypeId} {w w' : World} {b n : Nat} {cs : List Cd} (h : StsIn P k w b cs n) (hb : w'.heap[b]? = w.heap[b]?) : StsIn P k w' b cs n := by
  obtain ⟨D, hown, hm, hat⟩ := h
  refine ⟨D, ?_, hm, hat⟩
  obtain ⟨es, clock, hc, F, hs, hD⟩ := hown
  exact ⟨es, clock, hb.trans hc, F, hs, hD⟩
theorem StsIn.lt {P : Program} {k : TypeId} {w : World} {b n : Nat} {cs : List Cd} (h : StsIn P k w b cs n) : b < w.heap.size := by
  obtain ⟨D, hown, _⟩ := h
  exact hown.lt
theorem StsIn.below {P : Program} {k : TypeId} {w w' : World} {b n : Nat} {cs : List Cd} (h : StsIn P k w b cs n) (hb : Below w.heap.size w w') : StsIn P k w' b cs n := h.kept (hb.block b h.lt)

end Go.Proofs.YtbmjghkdhhcffaaDoor
