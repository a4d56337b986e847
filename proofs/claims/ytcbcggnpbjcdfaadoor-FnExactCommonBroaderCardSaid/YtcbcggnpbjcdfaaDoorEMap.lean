/- A set of entries in a map[Entry]bool that a call makes: made, asked, added to. -/
import Derived.Test.YtcbcggnpbjcdfaaDoorNames
import Derived.Test.YtcbcggnpbjcdfaaDoorCatI
import Derived.DeepKeys4
namespace Go.Proofs.YtcbcggnpbjcdfaaDoor
open Go.ChangeShapes Go.WideShapes Go.ChangeAt Go.RowKit

/-- The key that an entry makes. -/
def keyL (x : Et) : Lit := .string (keyBytes [.string x.s.data.toList, .int .i64 x.a, .int .i64 x.b])
theorem lit_i64 {a : Int} (h : I64 a) : (Lit.int .i64 a).wf = true := by
  simp [Lit.wf, IntKind.min, IntKind.max, IntKind.signed, IntKind.bits]
  exact ⟨h.1, by have := h.2; omega⟩
theorem lits_str (P : Program) (t : TypeId) (ht : P.underlying t = some .string) (d : Nat) (s : ByteArray) (hs : s.size ≤ maxLen) : P.keyLits (d + 1) t [.string s] = some [.string s.data.toList] := by
  unfold Program.keyLits; simp only [ht]; rw [if_pos hs]
theorem lits_int (P : Program) (t : TypeId) (ht : P.underlying t = some (.int .i64)) (d : Nat) (a : Int) (ha : I64 a) : P.keyLits (d + 1) t [.int .i64 a] = some [.int .i64 a] := by
  unfold Program.keyLits; simp only [ht]; rw [if_pos ⟨trivial, lit_i64 ha⟩]
set_option maxRecDepth 100000 in
theorem keyE (x : Et) (h : x.fits) : keyOf Tryd.prog 49 (etVal x) = some (keyL x) := by
  obtain ⟨s, a, b⟩ := x
  obtain ⟨hs, ha, hb⟩ := h
  obtain ⟨m, hm⟩ : ∃ m, Tryd.prog.types.size = m + 1 := ⟨Tryd.prog.types.size - 1, by have : 0 < Tryd.prog.types.size := of_decide_eq_true (by kernel_rfl); omega⟩
  have ks : Tryd.prog.keyType 49 = true := by kernel_rfl
  have c3 : Tryd.prog.cellsOf 49 = 3 := by kernel_rfl
  have cs : Tryd.prog.cellsOf 9 = 1 := by kernel_rfl
  have ci : Tryd.prog.cellsOf 2 = 1 := by kernel_rfl
  have us := Tryd.underlying9
  have ui := Tryd.underlying2
  have ue := Tryd.underlying49
  have l0 := lits_str Tryd.prog 9 us m s hs
  have l1 := lits_int Tryd.prog 2 ui m a ha
  have l2 := lits_int Tryd.prog 2 ui m b hb
  unfold etVal keyL keyOf
  simp only [ue, ks, Value.formed, c3, hm]
  unfold Program.keyLits
  simp only [ue, c3]
  simp [Value.cells, cs, ci, l0, l1, l2]

theorem key_law : Maps.Keyed Tryd.prog 49 := Maps.Keyed.of_law (deep_law_laid laidOut (m := 2) (by omega) (of_decide_eq_true (by kernel_rfl)) (by kernel_rfl) (by kernel_rfl))
theorem keyL_inj {x y : Et} (hx : x.fits) (hy : y.fits) (h : keyL x = keyL y) : x = y := by
  have := key_law.inj (keyE x hx) (h ▸ keyE y hy)
  obtain ⟨s, a, b⟩ := x
  obtain ⟨t, c, d⟩ := y
  unfold etVal at this
  simp at this
  obtain ⟨rfl, rfl, rfl⟩ := this
  rfl

noncomputable def hasE (xs : List Et) (x : Et) : Bool := @decide (x ∈ xs) (Classical.propDecidable _)
theorem hasE_yes {xs : List Et} {x : Et} (h : x ∈ xs) : hasE xs x = true := by unfold hasE; exact @decide_eq_true _ (Classical.propDecidable _) h
theorem hasE_no {xs : List Et} {x : Et} (h : ¬ x ∈ xs) : hasE xs x = false := by unfold hasE; exact @decide_eq_false _ (Classical.propDecidable _) h
theorem hasE_eq {xs ys : List Et} {x : Et} (h : x ∈ xs ↔ x ∈ ys) : hasE xs x = hasE ys x := by
  by_cases e : x ∈ xs
  · rw [hasE_yes e, hasE_yes (h.1 e)]
  · rw [hasE_no e, hasE_no fun k => e (h.2 k)]

/-- Block b holds a map of the call's own in which just these entries are true. -/
def EntSet (w : World) (b : Nat) (xs : List Et) : Prop :=
  ∃ D : DataW Unit, w.ownsMap Tryd.prog 49 (plainElem Tryd.prog 4) b xs.length D ∧ Maps.IsMap D ∧ ∀ x : Et, x.fits → D.atKey (keyL x) (.lit (.bool false)) = .lit (.bool (hasE xs x))
theorem entSet_made (w : World) : EntSet (w.alloc (.map #[] 0)) w.heap.size [] :=
  ⟨.map [], World.ownsMap_made _ _ _ _, ⟨[], rfl⟩, fun x _ => by rw [hasE_no (by simp)]; rfl⟩
set_option maxRecDepth 100000 in
theorem EntSet.asked {w : World} {b : Nat} {xs : List Et} (h : EntSet w b xs) (hz : (zeroValue 4).run Tryd.prog w = .ok (.bool false) w) (x : Et) (hx : x.fits) :
    (Instr.lookup 79 (.map (some b)) (etVal x) false).run Tryd.prog w = .ok (.bool (hasE xs x)) w := by
  obtain ⟨D, hown, _, hat⟩ := h
  obtain ⟨v, ps, hrun, hv⟩ := hown.lookup key_law Tryd.underlying79 hz (plainElem_bool Tryd.underlying4 false) (keyE x hx)
  rw [hat x hx] at hv
  obtain ⟨y, rfl, hy⟩ := plainElem_bool_inv Tryd.underlying4 hv
  simp only [Prod.mk.injEq] at hy
  injection hy.1 with h1
  injection h1 with h2
  rw [hrun, h2]
set_option maxRecDepth 100000 in
theorem EntSet.added {w : World} {b : Nat} {xs : List Et} (h : EntSet w b xs) (x : Et) (hx : x.fits) (hn : xs.length < maxLen) :
    ∃ w', (Instr.mapUpdate 79 (.map (some b)) (etVal x) (.bool true)).run Tryd.prog w = .ok () w' ∧ EntSet w' b (xs ++ [x]) ∧ w.grownBy w' (some b) := by
  obtain ⟨D, hown, hm, hat⟩ := h
  obtain ⟨w', hrun, hown', hg⟩ := hown.update key_law Tryd.underlying79 hn (keyE x hx) (plainElem_bool Tryd.underlying4 true)
  refine ⟨w', hrun, ⟨D.put (keyL x) (.lit (.bool true)), ?_, ?_, fun q hq => ?_⟩, hg⟩
  · rw [List.length_append]; exact hown'
  · obtain ⟨es, rfl⟩ := hm; exact ⟨_, rfl⟩
  · by_cases e : q = x
    · subst e
      rw [Maps.atKey_put_same hm (show WideAt.IsKeyLit (keyL q) from trivial), hasE_yes (by simp)]
    · rw [Maps.atKey_put_other (fun k => e (keyL_inj hq hx k)), hat q hq]
      rw [hasE_eq (xs := xs) (ys := xs ++ [x]) (by simp [e])]
theorem EntSet.kept {w w' : World} {b : Nat} {xs : List Et} (h : EntSet w b xs) (hb : w'.heap[b]? = w.heap[b]?) : EntSet w' b xs := by
  obtain ⟨D, hown, hm, hat⟩ := h
  refine ⟨D, ?_, hm, hat⟩
  obtain ⟨es, clock, hc, F, hs, hD⟩ := hown
  exact ⟨es, clock, hb.trans hc, F, hs, hD⟩
end Go.Proofs.YtcbcggnpbjcdfaaDoor
