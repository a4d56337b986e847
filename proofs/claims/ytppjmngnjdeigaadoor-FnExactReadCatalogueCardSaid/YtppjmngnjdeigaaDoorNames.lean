/- A set of names in a map[string]bool that a call makes: made, asked, added to. -/
import Derived.Test.YtppjmngnjdeigaaDoorBase
import Derived.Maps.OwnOps
import Derived.Maps.Views
import Derived.StringKeys
namespace Go.Proofs.YtppjmngnjdeigaaDoor
open Go.ChangeShapes Go.WideShapes Go.ChangeAt Go.RowKit

/-- Is a name among these? -/
def hasN (ns : List ByteArray) (s : ByteArray) : Bool := ns.any fun t => t.data.toList == s.data.toList

/-- Block b holds a map of the call's own in which just these names are true. -/
def NamesIn (P : Program) (k e : TypeId) (w : World) (b : Nat) (ns : List ByteArray) : Prop :=
  ∃ D : DataW Unit, w.ownsMap P k (plainElem P e) b ns.length D ∧ Maps.IsMap D ∧ ∀ s : ByteArray, D.atKey (.string s.data.toList) (.lit (.bool false)) = .lit (.bool (hasN ns s))

theorem namesIn_made (P : Program) (k e : TypeId) (w : World) : NamesIn P k e (w.alloc (.map #[] 0)) w.heap.size [] :=
  ⟨.map [], World.ownsMap_made _ _ _ _, ⟨[], rfl⟩, fun _ => rfl⟩

theorem plainElem_bool_inv {P : Program} {e : TypeId} (he : P.underlying e = some .bool) {v : Value} {z : DataW Unit × List MemPlace} (h : plainElem P e v = some z) : ∃ x, v = .bool x ∧ z = (.lit (.bool x), []) := by
  unfold plainElem at h
  rw [he] at h
  cases v <;> simp at h
  exact ⟨_, rfl, h.symm⟩

theorem NamesIn.asked {P : Program} {k e t : TypeId} {w : World} {b : Nat} {ns : List ByteArray} (h : NamesIn P k e w b ns) (ht : P.underlying t = some (.map k e)) (hk : P.underlying k = some .string) (he : P.underlying e = some .bool) (hz : (zeroValue e).run P w = .ok (.bool false) w) (s : ByteArray) (hs : s.size ≤ maxLen) :
    (Instr.lookup t (.map (some b)) (.string s) false).run P w = .ok (.bool (hasN ns s)) w := by
  obtain ⟨D, hown, _, hat⟩ := h
  obtain ⟨v, ps, hrun, hv⟩ := hown.lookup (Maps.string_keyed hk) ht hz (plainElem_bool he false) (Go.WideMaps.keyOf_string_mk hk hs)
  rw [hat s] at hv
  obtain ⟨x, rfl, hx⟩ := plainElem_bool_inv he hv
  simp only [Prod.mk.injEq] at hx
  injection hx.1 with h1
  injection h1 with h2
  rw [hrun, h2]

theorem NamesIn.added {P : Program} {k e t : TypeId} {w : World} {b : Nat} {ns : List ByteArray} (h : NamesIn P k e w b ns) (ht : P.underlying t = some (.map k e)) (hk : P.underlying k = some .string) (he : P.underlying e = some .bool) (s : ByteArray) (hs : s.size ≤ maxLen) (hn : ns.length < maxLen) :
    ∃ w', (Instr.mapUpdate t (.map (some b)) (.string s) (.bool true)).run P w = .ok () w' ∧ NamesIn P k e w' b (ns ++ [s]) ∧ w.grownBy w' (some b) := by
  obtain ⟨D, hown, hm, hat⟩ := h
  obtain ⟨w', hrun, hown', hg⟩ := hown.update (Maps.string_keyed hk) ht hn (Go.WideMaps.keyOf_string_mk hk hs) (plainElem_bool he true)
  refine ⟨w', hrun, ⟨D.put (.string s.data.toList) (.lit (.bool true)), ?_, ?_, fun q => ?_⟩, hg⟩
  · rw [List.length_append]; exact hown'
  · obtain ⟨es, rfl⟩ := hm; exact ⟨_, rfl⟩
  · by_cases hq : q.data.toList = s.data.toList
    · rw [hq, Maps.atKey_put_same hm (show WideAt.IsKeyLit (.string s.data.toList) from trivial)]
      simp [hasN, hq]
    · have hne : Lit.string q.data.toList ≠ Lit.string s.data.toList := by
        intro e1
        injection e1 with e2
        exact hq e2
      have hq2 : (s.data.toList == q.data.toList) = false := by rw [beq_eq_false_iff_ne]; exact fun e => hq e.symm
      rw [Maps.atKey_put_other hne, hat q]
      unfold hasN
      rw [List.any_append, List.any_cons, hq2, List.any_nil, Bool.or_false, Bool.or_false]

/-- The set is carried over what leaves its block alone. -/
theorem NamesIn.below {P : Program} {k e : TypeId} {w w' : World} {b : Nat} {ns : List ByteArray} (h : NamesIn P k e w b ns) (hb : Below w.heap.size w w') : NamesIn P k e w' b ns := by
  obtain ⟨D, hown, hm, hat⟩ := h
  refine ⟨D, ?_, hm, hat⟩
  obtain ⟨es, clock, hc, F, hs, hD⟩ := hown
  exact ⟨es, clock, (hb.block b (Array.getElem?_eq_some_iff.1 hc).1).trans hc, F, hs, hD⟩
end Go.Proofs.YtppjmngnjdeigaaDoor
