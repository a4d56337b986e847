/- Contracts of the laws' own functions on slices of masks: measured, carried over, compared; arguments opened. -/
import Derived.Test.YtanocllpmjhblaaAsk
import Derived.Deep.Slices
import Derived.OpenShut
import Derived.OwnWalk
namespace Go.Proofs.Ytanocllpmjhblaa
open Go.ChangeShapes Go.WideShapes Go.ChangeAt Go.RowKit

theorem open_maskS {H : Type} {enc : TypeId × Value → H} {P : Program} {W : World} {t e u : TypeId} {v : Value} {d : DataW H} {p : List MemPlace} {r : Reach} {b : Nat} (ht : P.underlying t = some (.slice e)) (ha : P.underlying e = some (.array 2 u)) (hu : P.underlying u = some (.int .u64))
    (ce : P.cellsOf e = 2) (cu : P.cellsOf u = 1)
    (hv : Value.okWide P W r b t v) (h : DataW.Trod enc P W 0 (fun _ => true) true t v d p) : ∃ a ms cap, v = .slice a ms.length cap ∧ MasksIn W a ms ∧ (∀ i, i < ms.length → U64 (ms.getD i (0, 0)).1 ∧ U64 (ms.getD i (0, 0)).2) ∧ ms.length ≤ maxLen := by
  obtain ⟨a0, len, cap, rfl⟩ := okWide_slice ht hv
  obtain ⟨fuel, hf⟩ := h
  rcases Go.Deep.open_slice ht hf with ⟨hcs, _⟩ | ⟨a, len', cap', m, n, D, Pl, hcs, _, hl, hcm, hm, _, hi⟩
  · simp [Value.cells] at hcs
    obtain ⟨rfl, rfl, rfl⟩ := hcs
    exact ⟨none, [], 0, rfl, fun i hi => by simp at hi, fun i hi => by simp at hi, by simp⟩
  · simp [Value.cells] at hcs
    obtain ⟨rfl, rfl, rfl⟩ := hcs
    simp at hm
    subst hm
    have key : ∀ i, i < len → ∃ c : Int × Int, (U64 c.1 ∧ U64 c.2) ∧ W.cell? (a.add (i * 2)) = some (.int .u64 c.1) ∧ W.cell? (a.add (i * 2 + 1)) = some (.int .u64 c.2) := by
      intro i hi'
      obtain ⟨cs', hc, hd⟩ := hi i (by omega)
      rw [ce] at hc
      obtain ⟨_, hlen, hat⟩ := World.cells?_some hc
      obtain ⟨zs, n2, _, _, _, hzl, hg⟩ := DataW.trod_array ha hd
      match cs', hlen with
      | [x0, x1], _ =>
        match zs, hzl with
        | [z0, z1], _ =>
          have k0 := hg 0 (by omega)
          have k1 := hg 1 (by omega)
          rw [cu] at k0 k1
          simp at k0 k1
          obtain ⟨n3, e3, _, w3⟩ := DataW.trod_int hu k0
          obtain ⟨n4, e4, _, w4⟩ := DataW.trod_int hu k1
          simp at e3 e4
          subst e3 e4
          simp [Lit.wf, IntKind.min, IntKind.max, IntKind.signed, IntKind.bits] at w3 w4
          have u3 : U64 n3 := ⟨by omega, by omega⟩
          have u4 : U64 n4 := ⟨by omega, by omega⟩
          have a0 := hat 0 (by omega)
          have a1 := hat 1 (by omega)
          rw [Go.Deep.add_add] at a0 a1
          exact ⟨(n3, n4), ⟨u3, u4⟩, a0, a1⟩
    obtain ⟨f, hf2⟩ := Go.Deep.choose_lt key
    have gd : ∀ i, i < len → ((List.range len).map f).getD i (0, 0) = f i := fun i hi => by simp [List.getD, hi]
    refine ⟨some a, (List.range len).map f, m, by simp, fun i hi' => ?_, fun i hi' => ?_, by simp; omega⟩
    · simp at hi'
      rw [gd i hi']
      obtain ⟨_, q0, q1⟩ := hf2 i hi'
      obtain ⟨b, off, spot⟩ := a
      have hspot : spot = none := by simpa [Addr.add] using World.cell?_spot (hf2 0 (by omega)).2.1
      subst hspot
      exact ⟨b, off, rfl, by have h := World.block_lt_of_cell? _ _ q0; rw [Go.WideShapes.add_plain] at h; exact h, by rw [← Go.WideShapes.add_plain]; exact q0, by rw [Nat.add_assoc, ← Go.WideShapes.add_plain]; exact q1⟩
    · simp at hi'
      rw [gd i hi']
      exact (hf2 i hi').1


/-! ### Carried over -/
def cell2 (c : Int × Int) (r : Nat) : Value := if r = 0 then .int .u64 c.1 else .int .u64 c.2
def rowM (ms : List (Int × Int)) (k : Nat) : List Value := (List.range (ms.length * 2)).map fun i => cell2 (if i / 2 < k then ms.getD (i / 2) (0, 0) else (0, 0)) (i % 2)
theorem rowM_len (ms : List (Int × Int)) (k : Nat) : (rowM ms k).length = ms.length * 2 := by unfold rowM; simp
theorem rowM_get (ms : List (Int × Int)) (k i : Nat) (h : i < ms.length * 2) : (rowM ms k)[i]? = some (cell2 (if i / 2 < k then ms.getD (i / 2) (0, 0) else (0, 0)) (i % 2)) := by
  unfold rowM; rw [List.getElem?_map, List.getElem?_range h]; rfl
theorem rowM_next (ms : List (Int × Int)) (k : Nat) (h : k < ms.length) :
    ((rowM ms k).set (k * 2) (.int .u64 (ms.getD k (0, 0)).1)).set (k * 2 + 1) (.int .u64 (ms.getD k (0, 0)).2) = rowM ms (k + 1) := by
  apply List.ext_getElem?
  intro i
  rw [List.getElem?_set, List.getElem?_set]
  simp only [List.length_set, rowM_len]
  by_cases hi : i < ms.length * 2
  · rw [rowM_get ms (k + 1) i hi]
    by_cases e1 : k * 2 + 1 = i
    · subst e1
      rw [if_pos rfl, if_pos hi, show (k * 2 + 1) / 2 = k by omega, show (k * 2 + 1) % 2 = 1 by omega, if_pos (Nat.lt_succ_self k)]; rfl
    · rw [if_neg e1]
      by_cases e0 : k * 2 = i
      · subst e0
        rw [if_pos rfl, if_pos hi, show k * 2 / 2 = k by omega, show k * 2 % 2 = 0 by omega, if_pos (Nat.lt_succ_self k)]; rfl
      · rw [if_neg e0, rowM_get ms k i hi]
        by_cases c : i / 2 < k
        · rw [if_pos c, if_pos (by omega)]
        · rw [if_neg c, if_neg (by omega)]
  · rw [List.getElem?_eq_none (by rw [rowM_len]; omega), List.getElem?_eq_none (by rw [rowM_len]; omega)]
    repeat (split; · first | omega | rfl)
    first | rfl | (split <;> first | omega | rfl)
theorem rowM_zero (ms : List (Int × Int)) : (madeCells #[.int .u64 0, .int .u64 0] (ms.length * 2)).toList = rowM ms 0 := by
  apply List.ext_getElem?
  intro i
  by_cases hi : i < ms.length * 2
  · rw [rowM_get ms 0 i hi, if_neg (Nat.not_lt_zero _)]
    have h3 : i % 2 = 0 ∨ i % 2 = 1 := by omega
    rcases h3 with h | h <;> simp [madeCells, hi, h, cell2]
  · rw [List.getElem?_eq_none (by simp [madeCells]; omega), List.getElem?_eq_none (by rw [rowM_len]; omega)]
theorem info_mask : (Try.prog.info? 53).map (fun i => (i.zero, i.size, i.bytes)) = some (some (.agg #[.int .u64 0, .int .u64 0]), 2, 16) := by kernel_rfl
theorem ownsRow_up {w w' : World} {B e size n : Nat} {v : Value} {xs : List Value} (h : w.ownsRow B e size v n xs) (hb : Below w.heap.size w w') : w'.ownsRow B e size v n xs := by
  obtain ⟨h1, h2⟩ := h
  refine ⟨h1, ?_⟩
  rcases h2 with hn | ⟨g, cap, cur, rfl, hB, hg, rest⟩
  · exact .inl hn
  · exact .inr ⟨g, cap, cur, rfl, hB, (hb.block g (Array.getElem?_eq_some_iff.1 hg).1).trans hg, rest⟩
theorem toMask_up (a b : Int) (w : World) : Calls Try.prog 69 #[.agg #[.int .u64 a, .int .u64 b]] w fun e w' => e = .returned (.agg #[.int .u64 a, .int .u64 b]) ∧ Below w.heap.size w w' :=
  (toMask_any a b w).mono fun e w' ⟨he, hw⟩ => ⟨he, by subst hw; exact (by repeat' (first | (with_reducible exact Below.refl _ _) | (with_reducible assumption) | (with_reducible refine below_drewN ?_ _) | (with_reducible refine Below.drew ?_) | (with_reducible refine below_new ?_ _) | (with_reducible refine below_next ?_ (by with_reducible assumption)) | (with_reducible refine Below.setCell ?_ ?_ _) | go_size))⟩


/-! ### Compared -/
end Go.Proofs.Ytanocllpmjhblaa
