/- Contracts of the program's functions on knots: is one right by itself. -/
import Derived.Test.YtppjmngnjdeigaaDoorVtP
import Derived.Test.YtppjmngnjdeigaaDoorEqL
import Derived.Test.YtppjmngnjdeigaaDoorKnL
import Derived.Test.YtppjmngnjdeigaaDoorFloat
namespace Go.Proofs.YtppjmngnjdeigaaDoor
open Go.ChangeShapes Go.WideShapes Go.ChangeAt Go.RowKit

set_option maxHeartbeats 1600000 in
theorem iAreIdx_any (a : Option Addr) (zs : List Int) (c : Nat) (w : World) (h : IntsIn w a zs) (hl : zs.length ≤ 1048576) :
    Calls Tryd.prog 197 #[.slice a zs.length c, .int .i64 60] w fun e w' => e = .returned (.bool (decide (IdxTo zs zs.length))) ∧ Below w.heap.size w w' := by
  have H := Lib.hid h
  clear h
  go_enter Tryd.func197, Tryd.ntmps197
  go_wp2
  go_loopw [5, 10] (fun l i wr => ∃ j : Nat, j ≤ zs.length ∧ i = .int .i64 j ∧ l = .int .i64 (least zs j) ∧ IdxTo zs j ∧ Below w.heap.size w wr) (fun _ i _ => zs.length - (intOf i).toNat)
  case atStart => exact ⟨0, Nat.zero_le _, rfl, rfl, fun i hi => absurd hi (Nat.not_lt_zero _), Below.refl _ _⟩
  case round =>
    obtain ⟨j, hj, rfl, rfl, hI, hB⟩ := hrel
    have BB := Lib.hid hB
    have II := Lib.hid hI
    obtain ⟨l0, l1⟩ := idxTo_low hI
    clear hI
    by_cases hjl : j < zs.length
    · have hd : decide ((j : Int) < (zs.length : Int)) = true := by simpa using hjl
      obtain ⟨b1, o1, rfl, hb1, p0⟩ := H.out j hjl
      have d0 := (hB.cell (p := ⟨b1, o1 + j, none⟩) hb1).trans p0
      have i1 : (0 : Int) ≤ (j : Int) := by omega
      have i2 : (j : Int) < (zs.length : Int) := by omega
      have LS := Lib.hid (least_succ zs j)
      have no : Hid (¬ (least zs j ≤ zs.getD j 0 ∧ zs.getD j 0 < 60) → decide (IdxTo zs zs.length) = false) := Lib.hid fun h => decide_eq_false fun t => h (t j hjl)
      have nx : Hid (least zs j ≤ zs.getD j 0 ∧ zs.getD j 0 < 60 → IdxTo zs (j + 1)) := Lib.hid fun h => idxTo_next II.out h
      generalize least zs j = l at *
      generalize zs.getD j 0 = z at *
      clear hB p0
      by_cases h1 : z < l
      · have e1 : decide (z < l) = true := decide_eq_true h1
        have N := Lib.hid (no.out (by omega))
        clear no nx
        go_wp2
        all_goals go_returns
        all_goals exact ⟨kretB N.out, BB.out⟩
      have e1 : decide (z < l) = false := decide_eq_false h1
      by_cases h2 : 60 ≤ z
      · have e2 : decide (60 ≤ z) = true := decide_eq_true h2
        have N := Lib.hid (no.out (by omega))
        clear no nx
        go_wp2
        all_goals go_returns
        all_goals exact ⟨kretB N.out, BB.out⟩
      have e2 : decide (60 ≤ z) = false := decide_eq_false h2
      have N := Lib.hid (nx.out ⟨by omega, by omega⟩)
      clear no nx
      go_wp2
      exact ⟨⟨j + 1, hjl, by rw [Int.natCast_succ], by rw [LS.out], N.out, BB.out⟩, by (simp [intOf]) <;> omega⟩
    · have e : j = zs.length := by omega
      subst e
      have hd : decide ((zs.length : Int) < (zs.length : Int)) = false := by simp
      clear hB
      go_wp2
      all_goals go_returns
      all_goals exact ⟨kretB (decide_eq_true II.out), BB.out⟩

set_option maxHeartbeats 1600000 in
theorem iAreVal_any (a : Option Addr) (zs : List Int) (c : Nat) (w : World) (h : IntsIn w a zs) (hl : zs.length ≤ 1048576) :
    Calls Tryd.prog 190 #[.slice a zs.length c] w fun e w' => e = .returned (.bool (decide (ValTo zs zs.length))) ∧ Below w.heap.size w w' := by
  have H := Lib.hid h
  clear h
  go_enter Tryd.func190, Tryd.ntmps190
  go_wp2
  go_loopw [7] (fun i wr => ∃ j : Nat, j ≤ zs.length ∧ i = .int .i64 j ∧ ValTo zs j ∧ Below w.heap.size w wr) (fun i _ => zs.length - (intOf i).toNat)
  case atStart => exact ⟨0, Nat.zero_le _, rfl, fun i hi => absurd hi (Nat.not_lt_zero _), Below.refl _ _⟩
  case round =>
    obtain ⟨j, hj, rfl, hI, hB⟩ := hrel
    have BB := Lib.hid hB
    have II := Lib.hid hI
    clear hI
    by_cases hjl : j < zs.length
    · have hd : decide ((j : Int) < (zs.length : Int)) = true := by simpa using hjl
      obtain ⟨b1, o1, rfl, hb1, p0⟩ := H.out j hjl
      have d0 := (hB.cell (p := ⟨b1, o1 + j, none⟩) hb1).trans p0
      have i1 : (0 : Int) ≤ (j : Int) := by omega
      have i2 : (j : Int) < (zs.length : Int) := by omega
      have no : Hid (¬ (-2 ≤ zs.getD j 0 ∧ (0 < j → zs.getD (j - 1) 0 < zs.getD j 0)) → decide (ValTo zs zs.length) = false) := Lib.hid fun h => decide_eq_false fun t => h (t j hjl)
      have nx : Hid (-2 ≤ zs.getD j 0 ∧ (0 < j → zs.getD (j - 1) 0 < zs.getD j 0) → ValTo zs (j + 1)) := Lib.hid fun h => valTo_next II.out h
      by_cases h1 : zs.getD j 0 < -2
      · have N := Lib.hid (no.out (by omega))
        generalize zs.getD j 0 = z at *
        have e1 : decide (z < -2) = true := decide_eq_true h1
        clear no nx hB p0
        go_wp2
        all_goals go_returns
        all_goals exact ⟨kretB N.out, BB.out⟩
      by_cases h0 : 0 < j
      · obtain ⟨b2, o2, e2, hb2, q0⟩ := H.out (j - 1) (by omega)
        cases e2
        have d1 := (hB.cell (p := ⟨b1, o1 + (j - 1), none⟩) hb2).trans q0
        have e0 : decide ((0 : Int) < (j : Int)) = true := decide_eq_true (by omega)
        by_cases h2 : zs.getD j 0 ≤ zs.getD (j - 1) 0
        · have N := Lib.hid (no.out (fun t => by have := t.2 h0; omega))
          generalize zs.getD j 0 = z at *
          generalize zs.getD (j - 1) 0 = y at *
          have e1 : decide (z < -2) = false := decide_eq_false h1
          have e3 : decide (z ≤ y) = true := decide_eq_true h2
          clear no nx hB p0 q0
          go_wp2
          all_goals go_returns
          all_goals exact ⟨kretB N.out, BB.out⟩
        · have N := Lib.hid (nx.out ⟨by omega, fun _ => by omega⟩)
          generalize zs.getD j 0 = z at *
          generalize zs.getD (j - 1) 0 = y at *
          have e1 : decide (z < -2) = false := decide_eq_false h1
          have e3 : decide (z ≤ y) = false := decide_eq_false h2
          clear no nx hB p0 q0
          go_wp2
          exact ⟨⟨j + 1, hjl, by rw [Int.natCast_succ], N.out, BB.out⟩, by (simp [intOf]) <;> omega⟩
      · have N := Lib.hid (nx.out ⟨by omega, fun t => absurd t h0⟩)
        generalize zs.getD j 0 = z at *
        have e0 : decide ((0 : Int) < (j : Int)) = false := decide_eq_false (by omega)
        have e1 : decide (z < -2) = false := decide_eq_false h1
        clear no nx hB p0
        go_wp2
        exact ⟨⟨j + 1, hjl, by rw [Int.natCast_succ], N.out, BB.out⟩, by (simp [intOf]) <;> omega⟩
    · have e : j = zs.length := by omega
      subst e
      have hd : decide ((zs.length : Int) < (zs.length : Int)) = false := by simp
      clear hB
      go_wp2
      all_goals go_returns
      all_goals exact ⟨kretB (decide_eq_true II.out), BB.out⟩

def leafB (k : Kn) : Bool := decide (LeafOk k)
def askB (k : Kn) : Bool := decide (AskOk k)
theorem leafB_no {k : Kn} (h : ¬ LeafOk k) : leafB k = false := decide_eq_false h
theorem askB_no {k : Kn} (h : ¬ AskOk k) : askB k = false := decide_eq_false h
theorem leafB_yes {k : Kn} (h1 : k.vs.length = 0) (h2 : k.ns.length = 0) : leafB k = decide (IdxTo k.cs k.cs.length) := decide_eq_decide.2 ⟨fun t => t.2.2, fun t => ⟨h1, h2, t⟩⟩
theorem askB_yes {k : Kn} (h1 : 0 ≤ k.f) (h2 : k.f < 12) (h3 : k.cs.length = 0) (h4 : 0 < k.vs.length) (h5 : k.ns.length = k.vs.length) : askB k = decide (ValTo k.vs k.vs.length) := decide_eq_decide.2 ⟨fun t => t.2.2.2.2.2, fun t => ⟨h1, h2, h3, h4, h5, t⟩⟩

set_option maxHeartbeats 1600000 in
theorem iLeafValid_any (k : Kn) (va na ca : Option Addr) (vc nc cc : Nat) (w : World) (hk : KnSmall k) (c1 : IntsIn w ca k.cs) :
    Calls Tryd.prog 195 #[.agg #[.int .i16 k.f, .slice va k.vs.length vc, .slice na k.ns.length nc, .slice ca k.cs.length cc]] w fun e w' => e = .returned (.bool (leafB k)) ∧ Below w.heap.size w w' := by
  obtain ⟨hv, hn, hc⟩ := hk
  obtain ⟨f, vs, ns, cs⟩ := k
  simp only at hv hn hc c1 ⊢
  have b0 : Below w.heap.size w (w.alloc (.cells #[.int .i16 f, .slice va vs.length vc, .slice na ns.length nc, .slice ca cs.length cc] 145)) := below_new (Below.refl _ _) _
  have B0 := Lib.hid b0
  have K := fun W (h : Below w.heap.size w W) => iAreIdx_any ca cs cc W (intsIn_below c1 h) hc
  by_cases h1 : vs.length = 0
  · have e1 : ((vs.length : Int) == 0) = true := by simp [h1]
    by_cases h2 : ns.length = 0
    · have e2 : ((ns.length : Int) == 0) = true := by simp [h2]
      have e := leafB_yes (k := ⟨f, vs, ns, cs⟩) h1 h2
      rw [e]
      simp only at *
      clear h1 h2 e c1 b0
      generalize decide (IdxTo cs cs.length) = q at *
      have K := Lib.hid K
      go_enter Tryd.func195, Tryd.ntmps195
      go_wp2_with (go_at_call 197; refine (K.out _ B0.out).mono ?_; rintro e w1 ⟨rfl, hB⟩; have b1 := Lib.hid (B0.out.trans (Below.mono hB B0.out.size)); clear hB)
      all_goals go_returns
      all_goals exact ⟨rfl, b1.out⟩
    · have e2 : ((ns.length : Int) == 0) = false := by simp [h2]
      have e := leafB_no (k := ⟨f, vs, ns, cs⟩) fun t => h2 t.2.1
      rw [e]
      clear h1 h2 e c1 b0 K
      go_enter Tryd.func195, Tryd.ntmps195
      go_wp2
      all_goals go_returns
      all_goals exact ⟨rfl, B0.out⟩
  · have e1 : ((vs.length : Int) == 0) = false := by simp [h1]
    have e := leafB_no (k := ⟨f, vs, ns, cs⟩) fun t => h1 t.1
    rw [e]
    clear h1 e c1 b0 K
    go_enter Tryd.func195, Tryd.ntmps195
    go_wp2
    all_goals go_returns
    all_goals exact ⟨rfl, B0.out⟩

set_option maxHeartbeats 1600000 in
theorem iAskValid_any (k : Kn) (va na ca : Option Addr) (vc nc cc : Nat) (w : World) (hk : KnSmall k) (hf : I16 k.f) (c1 : IntsIn w va k.vs) :
    Calls Tryd.prog 188 #[.agg #[.int .i16 k.f, .slice va k.vs.length vc, .slice na k.ns.length nc, .slice ca k.cs.length cc]] w fun e w' => e = .returned (.bool (askB k)) ∧ Below w.heap.size w w' := by
  obtain ⟨hv, hn, hc⟩ := hk
  obtain ⟨f, vs, ns, cs⟩ := k
  unfold I16 at hf
  simp only at hv hn hc c1 hf ⊢
  have b0 : Below w.heap.size w (w.alloc (.cells #[.int .i16 f, .slice va vs.length vc, .slice na ns.length nc, .slice ca cs.length cc] 114)) := below_new (Below.refl _ _) _
  have B0 := Lib.hid b0
  have K := fun W (h : Below w.heap.size w W) => iAreVal_any va vs vc W (intsIn_below c1 h) hv
  by_cases h1 : 0 ≤ f
  rotate_left
  · have e1 : decide (0 ≤ f) = false := decide_eq_false h1
    rw [askB_no (k := ⟨f, vs, ns, cs⟩) fun t => h1 t.1]
    clear c1 b0 K
    go_enter Tryd.func188, Tryd.ntmps188
    go_wp2
    all_goals go_returns
    all_goals exact ⟨rfl, B0.out⟩
  have e1 : decide (0 ≤ f) = true := decide_eq_true h1
  by_cases h2 : f < 12
  rotate_left
  · have e2 : decide (f < 12) = false := decide_eq_false h2
    rw [askB_no (k := ⟨f, vs, ns, cs⟩) fun t => h2 t.2.1]
    clear c1 b0 K
    go_enter Tryd.func188, Tryd.ntmps188
    go_wp2
    all_goals go_returns
    all_goals exact ⟨rfl, B0.out⟩
  have e2 : decide (f < 12) = true := decide_eq_true h2
  by_cases h3 : cs.length = 0
  rotate_left
  · have e3 : ((cs.length : Int) == 0) = false := by simp [h3]
    rw [askB_no (k := ⟨f, vs, ns, cs⟩) fun t => h3 t.2.2.1]
    clear c1 b0 K h3
    go_enter Tryd.func188, Tryd.ntmps188
    go_wp2
    all_goals go_returns
    all_goals exact ⟨rfl, B0.out⟩
  have e3 : ((cs.length : Int) == 0) = true := by simp [h3]
  by_cases h4 : 0 < vs.length
  rotate_left
  · have e4 : decide ((0 : Int) < (vs.length : Int)) = false := decide_eq_false (by omega)
    rw [askB_no (k := ⟨f, vs, ns, cs⟩) fun t => h4 t.2.2.2.1]
    clear c1 b0 K h3
    go_enter Tryd.func188, Tryd.ntmps188
    go_wp2
    all_goals go_returns
    all_goals exact ⟨rfl, B0.out⟩
  have e4 : decide ((0 : Int) < (vs.length : Int)) = true := decide_eq_true (by omega)
  by_cases h5 : ns.length = vs.length
  rotate_left
  · have e5 : ((ns.length : Int) == (vs.length : Int)) = false := by simp; omega
    rw [askB_no (k := ⟨f, vs, ns, cs⟩) fun t => h5 t.2.2.2.2.1]
    clear c1 b0 K h3 h5
    go_enter Tryd.func188, Tryd.ntmps188
    go_wp2
    all_goals go_returns
    all_goals exact ⟨rfl, B0.out⟩
  have e5 : ((ns.length : Int) == (vs.length : Int)) = true := by simp [h5]
  have e := askB_yes (k := ⟨f, vs, ns, cs⟩) h1 h2 h3 h4 h5
  rw [e]
  simp only at *
  clear e c1 b0 h3 h5
  generalize decide (ValTo vs vs.length) = q at *
  have K := Lib.hid K
  go_enter Tryd.func188, Tryd.ntmps188
  go_wp2_with (go_at_call 190; refine (K.out _ B0.out).mono ?_; rintro e w1 ⟨rfl, hB⟩; have b1 := Lib.hid (B0.out.trans (Below.mono hB B0.out.size)); clear hB)
  all_goals go_returns
  all_goals exact ⟨rfl, b1.out⟩

/-- A knot behind the interface. -/
def knKind (k : Kn) (va na ca : Option Addr) (vc nc cc : Nat) : Value := .iface (if k.f = -1 then 145 else 114) (.agg #[.int .i16 k.f, .slice va k.vs.length vc, .slice na k.ns.length nc, .slice ca k.cs.length cc])
set_option maxHeartbeats 1600000 in
theorem iKind_any (f : Int) (x y z : Value) (w : World) (hx : ∃ a n c, x = .slice a n c) (hy : ∃ a n c, y = .slice a n c) (hz : ∃ a n c, z = .slice a n c) :
    Calls Tryd.prog 75 #[.agg #[.int .i16 f, x, y, z]] w fun e w' => e = .returned (.iface (if f = -1 then 145 else 114) (.agg #[.int .i16 f, x, y, z])) ∧ Below w.heap.size w w' := by
  obtain ⟨a1, n1, c1, rfl⟩ := hx
  obtain ⟨a2, n2, c2, rfl⟩ := hy
  obtain ⟨a3, n3, c3, rfl⟩ := hz
  by_cases h : f = -1
  · rw [if_pos h]
    subst h
    go_enter Tryd.func75, Tryd.ntmps75
    go_wp2
    all_goals go_returns
    all_goals exact ⟨rfl, (by repeat' (first | (with_reducible exact Below.refl _ _) | (with_reducible assumption) | (with_reducible refine below_drewN ?_ _) | (with_reducible refine Below.drew ?_) | (with_reducible refine below_new ?_ _) | (with_reducible refine below_next ?_ (by with_reducible assumption)) | (with_reducible refine Below.setCell ?_ ?_ _) | go_size))⟩
  · rw [if_neg h]
    have e : (f == -1) = false := by simp [h]
    clear h
    go_enter Tryd.func75, Tryd.ntmps75
    go_wp2
    all_goals go_returns
    all_goals exact ⟨rfl, (by repeat' (first | (with_reducible exact Below.refl _ _) | (with_reducible assumption) | (with_reducible refine below_drewN ?_ _) | (with_reducible refine Below.drew ?_) | (with_reducible refine below_new ?_ _) | (with_reducible refine below_next ?_ (by with_reducible assumption)) | (with_reducible refine Below.setCell ?_ ?_ _) | go_size))⟩
end Go.Proofs.YtppjmngnjdeigaaDoor
