/- Contracts of the model's functions on knots: is one right by itself; those that are reached are counted. -/
import Derived.Test.YtppjmngnjdeigaaDoorVtI
import Derived.Test.YtppjmngnjdeigaaDoorMix
import Derived.Deep.DeepCutAuto
namespace Go.Proofs.YtppjmngnjdeigaaDoor
open Go.ChangeShapes Go.WideShapes Go.ChangeAt Go.RowKit

set_option maxHeartbeats 3200000 in
theorem sLeaf_any (k : Kn) (b o : Nat) (w : World) (hk : KnSmall k) (h : KnAt w b o k) :
    Calls Tryd.prog 71 #[.pointer (some ⟨b, o, none⟩)] w fun e w' => e = .returned (.bool (leafB k)) ∧ Below w.heap.size w w' := by
  obtain ⟨hv, hn, hc⟩ := hk
  obtain ⟨hft, va, vc, na, nc, ca, cc, y, d0, d1, d2, d3, p1, p2, p3⟩ := h
  obtain ⟨f, vs, ns, cs⟩ := k
  simp only at hv hn hc d0 d1 d2 d3 p3
  have P3 := Lib.hid p3
  have NO := Lib.hid fun h => leafB_no (k := ⟨f, vs, ns, cs⟩) h
  clear p1 p2 p3 hft
  go_enter Tryd.func71, Tryd.ntmps71
  go_wp2
  go_loopw [3, 4] (fun l i wr => ∃ (j : Nat) (q : Int), j ≤ cs.length ∧ i = .int .i64 j ∧ l = .int .i64 q ∧ least cs j = q + 1 ∧ IdxTo cs j ∧ Below w.heap.size w wr) (fun _ i _ => cs.length - (intOf i).toNat)
  case atStart => exact ⟨0, -1, Nat.zero_le _, rfl, rfl, rfl, fun i hi => absurd hi (Nat.not_lt_zero _), Below.refl _ _⟩
  case round =>
    obtain ⟨j, q, hj, rfl, rfl, hq, hI, hB⟩ := hrel
    have BB := Lib.hid hB
    have II := Lib.hid hI
    obtain ⟨l0, l1⟩ := idxTo_low hI
    have x1 := (hB.cell (p := ⟨b, o + 1, none⟩) y).trans d1
    have x2 := (hB.cell (p := ⟨b, o + 2, none⟩) y).trans d2
    have x3 := (hB.cell (p := ⟨b, o + 3, none⟩) y).trans d3
    have yb : b < wr.heap.size := Nat.lt_of_lt_of_le y hB.size
    rw [hq] at l0 l1
    clear hI d0 d1 d2 d3
    by_cases hjl : j < cs.length
    · have hd : decide ((j : Int) < (cs.length : Int)) = true := by simpa using hjl
      obtain ⟨b1, o1, rfl, hb1, p0⟩ := P3.out j hjl
      have e0 := (hB.cell (p := ⟨b1, o1 + j, none⟩) hb1).trans p0
      have yc : b1 < wr.heap.size := Nat.lt_of_lt_of_le hb1 hB.size
      have i1 : (0 : Int) ≤ (j : Int) := by omega
      have i2 : (j : Int) < (cs.length : Int) := by omega
      have LS := Lib.hid (least_succ cs j)
      have no : Hid (¬ (least cs j ≤ cs.getD j 0 ∧ cs.getD j 0 < 60) → leafB ⟨f, vs, ns, cs⟩ = false) := Lib.hid fun h => NO.out fun t => h (t.2.2 j hjl)
      have nx : Hid (least cs j ≤ cs.getD j 0 ∧ cs.getD j 0 < 60 → IdxTo cs (j + 1)) := Lib.hid fun h => idxTo_next II.out h
      rw [hq] at no nx
      generalize cs.getD j 0 = z at *
      clear hB p0 hq
      by_cases h1 : q + 1 ≤ z ∧ z ≤ 59
      · have K := Lib.hid fun W => sInM_t h1 W
        have N := Lib.hid (nx.out ⟨by omega, by omega⟩)
        clear no nx h1
        go_wp2_with (go_at_call 57; refine (K.out _).mono ?_; rintro e w1 ⟨rfl, rfl⟩)
        exact ⟨⟨j + 1, z, hjl, by rw [Int.natCast_succ], rfl, LS.out, N.out, BB.out⟩, by (simp [intOf]) <;> omega⟩
      · have K := Lib.hid fun W => sInM_f h1 W
        have N := Lib.hid (no.out (by omega))
        clear no nx h1
        go_wp2_with (go_at_call 57; refine (K.out _).mono ?_; rintro e w1 ⟨rfl, rfl⟩)
        all_goals go_returns
        all_goals exact ⟨kretB N.out, BB.out⟩
    · have e : j = cs.length := by omega
      subst e
      have hd : decide ((cs.length : Int) < (cs.length : Int)) = false := by simp
      clear hB
      by_cases h1 : vs.length = 0
      · have e1 : ((vs.length : Int) == 0) = true := by simp [h1]
        by_cases h2 : ns.length = 0
        · have e2 : ((ns.length : Int) == 0) = true := by simp [h2]
          have N := Lib.hid ((leafB_yes (k := ⟨f, vs, ns, cs⟩) h1 h2).trans (decide_eq_true II.out))
          clear h1 h2
          go_wp2
          all_goals go_returns
          all_goals exact ⟨kretB N.out, BB.out⟩
        · have e2 : ((ns.length : Int) == 0) = false := by simp [h2]
          have N := Lib.hid (NO.out fun t => h2 t.2.1)
          clear h1 h2
          go_wp2
          all_goals go_returns
          all_goals exact ⟨kretB N.out, BB.out⟩
      · have e1 : ((vs.length : Int) == 0) = false := by simp [h1]
        have N := Lib.hid (NO.out fun t => h1 t.1)
        clear h1
        go_wp2
        all_goals go_returns
        all_goals exact ⟨kretB N.out, BB.out⟩

/-! ### Counts -/
def cv (L : List Int) (j : Nat) : Int := (L.count (j : Int) : Nat) + (if j = 0 then 1 else 0)
def cntV (n : Nat) (L : List Int) : List Value := (List.range n).map fun j => .int .i64 (cv L j)
theorem cntV_len (n : Nat) (L : List Int) : (cntV n L).length = n := by unfold cntV; simp
theorem cntV_get (n : Nat) (L : List Int) (j : Nat) (h : j < n) : (cntV n L)[j]? = some (.int .i64 (cv L j)) := by
  unfold cntV; rw [List.getElem?_map, List.getElem?_range h]; rfl
theorem cntV_nil (n : Nat) : (List.replicate n (Value.int .i64 0)).set 0 (.int .i64 1) = cntV n [] := by
  apply List.ext_getElem?
  intro i
  rw [List.getElem?_set]
  by_cases h : i < n
  · rw [cntV_get _ _ _ h]
    by_cases e : 0 = i
    · subst e; rw [if_pos rfl, if_pos (by simpa using h)]; rfl
    · rw [if_neg e, List.getElem?_replicate, if_pos h]
      unfold cv
      rw [if_neg (by omega)]
      simp
  · rw [List.getElem?_eq_none (l := cntV n []) (by rw [cntV_len]; omega), List.getElem?_eq_none (l := List.replicate n _) (by simp; omega)]
    by_cases e : 0 = i
    · subst e; rw [if_pos rfl, if_neg (by simpa using h)]
    · rw [if_neg e]
theorem cv_hit (L : List Int) (x : Nat) : cv (L ++ [(x : Int)]) x = cv L x + 1 := by
  have h : (L ++ [(x : Int)]).count (x : Int) = L.count (x : Int) + 1 := by rw [List.count_append, List.count_singleton]; simp
  unfold cv
  rw [h]
  split <;> omega
theorem cv_miss (L : List Int) {x i : Nat} (h : ¬ x = i) : cv (L ++ [(x : Int)]) i = cv L i := by
  have e : (L ++ [(x : Int)]).count (i : Int) = L.count (i : Int) := by
    rw [List.count_append, List.count_singleton, if_neg (by simp; omega)]; rfl
  unfold cv
  rw [e]
theorem cntV_next (n : Nat) (L : List Int) (x : Nat) (h : x < n) : (cntV n L).set x (.int .i64 (cv L x + 1)) = cntV n (L ++ [(x : Int)]) := by
  apply List.ext_getElem?
  intro i
  rw [List.getElem?_set]
  by_cases e : x = i
  · subst e
    rw [if_pos rfl, if_pos (by rw [cntV_len]; exact h), cntV_get _ _ _ h, cv_hit]
  · rw [if_neg e]
    by_cases hi : i < n
    · rw [cntV_get _ _ _ hi, cntV_get _ _ _ hi, cv_miss _ e]
    · rw [List.getElem?_eq_none (by rw [cntV_len]; omega), List.getElem?_eq_none (by rw [cntV_len]; omega)]
theorem cv_in (L : List Int) (j : Nat) : 0 ≤ cv L j ∧ cv L j ≤ (L.length : Int) + 1 := by
  have := List.count_le_length (a := (j : Int)) (l := L)
  unfold cv
  split <;> omega
def CntRow (w : World) (g n : Nat) (L : List Int) : Prop := w.ownsRow g 2 1 (.slice (some ⟨g, 0, none⟩) n n) n (cntV n L)
theorem cntRow_next {w : World} {g n x : Nat} {L : List Int} (h : CntRow w g n L) (hx : x < n) : CntRow (w.setCell ⟨g, x, none⟩ (.int .i64 (cv L x + 1))) g n (L ++ [(x : Int)]) := by
  have s := h.stored x (.int .i64 (cv L x + 1))
  rw [cntV_next n L x hx] at s
  exact s.1
theorem cntRow_below {w w' : World} {g n : Nat} {L : List Int} (h : CntRow w g n L) (hb : Below w.heap.size w w') : CntRow w' g n L := by
  obtain ⟨h1, h2⟩ := h
  refine ⟨h1, ?_⟩
  rcases h2 with hn | ⟨b, cap, cur, e, hB, hg, rest⟩
  · exact .inl hn
  · exact .inr ⟨b, cap, cur, e, hB, (hb.block b (Array.getElem?_eq_some_iff.1 hg).1).trans hg, rest⟩
end Go.Proofs.YtppjmngnjdeigaaDoor
