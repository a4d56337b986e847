/- Contract of the laws' own function that carries a slice of knots over. -/
import Derived.Test.YtppjmngnjdeigaaDoorKnT
namespace Go.Proofs.YtppjmngnjdeigaaDoor
open Go.ChangeShapes Go.WideShapes Go.ChangeAt Go.RowKit

def slc (g n : Nat) : Value := .slice (some ⟨g, 0, none⟩) n n
/-- One knot of the row is carried over. -/
def KnRow (w : World) (G : Nat) (k : Kn) (xs : List Value) (i : Nat) : Prop := ∃ g1 g2 g3 : Nat, xs[i * 4]? = some (.int .i16 k.f) ∧ xs[i * 4 + 1]? = some (slc g1 k.vs.length) ∧ xs[i * 4 + 2]? = some (slc g2 k.ns.length) ∧ xs[i * 4 + 3]? = some (slc g3 k.cs.length) ∧
  G < g1 ∧ G < g2 ∧ G < g3 ∧ IntsIn w (some ⟨g1, 0, none⟩) k.vs ∧ I16sIn w (some ⟨g2, 0, none⟩) k.ns ∧ IntsIn w (some ⟨g3, 0, none⟩) k.cs
def RowK (w : World) (G : Nat) (ks : List Kn) (k : Nat) (xs : List Value) : Prop := xs.length = ks.length * 4 ∧ ∀ i, i < ks.length → (i < k → KnRow w G (knAt ks i) xs i) ∧
  (¬ i < k → xs[i * 4]? = some (.int .i16 0) ∧ xs[i * 4 + 1]? = some (.slice none 0 0) ∧ xs[i * 4 + 2]? = some (.slice none 0 0) ∧ xs[i * 4 + 3]? = some (.slice none 0 0))
theorem rowK_below {w w' : World} {G : Nat} {ks : List Kn} {k : Nat} {xs : List Value} (h : RowK w G ks k xs) (hb : Below w.heap.size w w') : RowK w' G ks k xs := by
  refine ⟨h.1, fun i hi => ⟨fun hk => ?_, (h.2 i hi).2⟩⟩
  obtain ⟨g1, g2, g3, e0, e1, e2, e3, l1, l2, l3, p1, p2, p3⟩ := (h.2 i hi).1 hk
  exact ⟨g1, g2, g3, e0, e1, e2, e3, l1, l2, l3, intsIn_below p1 hb, i16sIn_below p2 hb, intsIn_below p3 hb⟩
theorem knRow_set {w : World} {G i j : Nat} {k : Kn} {xs : List Value} {v : Value} (h : KnRow w G k xs i) : KnRow (w.setCell ⟨G, j, none⟩ v) G k xs i := by
  obtain ⟨g1, g2, g3, e0, e1, e2, e3, l1, l2, l3, p1, p2, p3⟩ := h
  exact ⟨g1, g2, g3, e0, e1, e2, e3, l1, l2, l3, intsIn_set p1 (ne_at (by omega)), i16sIn_set p2 (ne_at (by omega)), intsIn_set p3 (ne_at (by omega))⟩
theorem knRow_list {w : World} {G i k : Nat} {x : Kn} {xs : List Value} {a b c d : Value} (h : KnRow w G x xs i) (hne : i ≠ k) : KnRow w G x ((((xs.set (k * 4) a).set (k * 4 + 1) b).set (k * 4 + 2) c).set (k * 4 + 3) d) i := by
  obtain ⟨g1, g2, g3, e0, e1, e2, e3, rest⟩ := h
  refine ⟨g1, g2, g3, ?_, ?_, ?_, ?_, rest⟩
  all_goals
    rw [List.getElem?_set_ne (by omega), List.getElem?_set_ne (by omega), List.getElem?_set_ne (by omega), List.getElem?_set_ne (by omega)]
    assumption
theorem rowK_next {w : World} {G g1 g2 g3 : Nat} {ks : List Kn} {k : Nat} {xs : List Value} (h : RowK w G ks k xs) (hk : k < ks.length) (l1 : G < g1) (l2 : G < g2) (l3 : G < g3)
    (p1 : IntsIn w (some ⟨g1, 0, none⟩) (knAt ks k).vs) (p2 : I16sIn w (some ⟨g2, 0, none⟩) (knAt ks k).ns) (p3 : IntsIn w (some ⟨g3, 0, none⟩) (knAt ks k).cs) :
    RowK ((((w.setCell ⟨G, k * 4, none⟩ (.int .i16 (knAt ks k).f)).setCell ⟨G, k * 4 + 1, none⟩ (slc g1 (knAt ks k).vs.length)).setCell ⟨G, k * 4 + 2, none⟩ (slc g2 (knAt ks k).ns.length)).setCell ⟨G, k * 4 + 3, none⟩ (slc g3 (knAt ks k).cs.length)) G ks (k + 1)
      ((((xs.set (k * 4) (.int .i16 (knAt ks k).f)).set (k * 4 + 1) (slc g1 (knAt ks k).vs.length)).set (k * 4 + 2) (slc g2 (knAt ks k).ns.length)).set (k * 4 + 3) (slc g3 (knAt ks k).cs.length)) := by
  have hl := h.1
  refine ⟨by simp [hl], fun i hi => ⟨fun hik => ?_, fun hik => ?_⟩⟩
  · refine knRow_set (knRow_set (knRow_set (knRow_set ?_)))
    by_cases e : i = k
    · subst e
      refine ⟨g1, g2, g3, ?_, ?_, ?_, ?_, l1, l2, l3, p1, p2, p3⟩
      · rw [List.getElem?_set_ne (by omega), List.getElem?_set_ne (by omega), List.getElem?_set_ne (by omega), List.getElem?_set_self (by omega)]
      · rw [List.getElem?_set_ne (by omega), List.getElem?_set_ne (by omega), List.getElem?_set_self (by simp; omega)]
      · rw [List.getElem?_set_ne (by omega), List.getElem?_set_self (by simp; omega)]
      · rw [List.getElem?_set_self (by simp; omega)]
    · exact knRow_list ((h.2 i hi).1 (by omega)) e
  · obtain ⟨e0, e1, e2, e3⟩ := (h.2 i hi).2 (by omega)
    refine ⟨?_, ?_, ?_, ?_⟩
    all_goals
      rw [List.getElem?_set_ne (by omega), List.getElem?_set_ne (by omega), List.getElem?_set_ne (by omega), List.getElem?_set_ne (by omega)]
      assumption
theorem rowK_zero (w : World) (G : Nat) (ks : List Kn) : RowK w G ks 0 (madeCells #[.int .i16 0, .slice none 0 0, .slice none 0 0, .slice none 0 0] (ks.length * 4)).toList := by
  refine ⟨by simp [madeCells], fun i hi => ⟨fun h => absurd h (Nat.not_lt_zero _), fun _ => ?_⟩⟩
  have m0 : i * 4 % 4 = 0 := by omega
  have m1 : (i * 4 + 1) % 4 = 1 := by omega
  have m2 : (i * 4 + 2) % 4 = 2 := by omega
  have m3 : (i * 4 + 3) % 4 = 3 := by omega
  have l0 : i * 4 < ks.length * 4 := by omega
  have l1 : i * 4 + 1 < ks.length * 4 := by omega
  have l2 : i * 4 + 2 < ks.length * 4 := by omega
  have l3 : i * 4 + 3 < ks.length * 4 := by omega
  refine ⟨?_, ?_, ?_, ?_⟩
  · simp [madeCells, l0, m0]
  · simp [madeCells, l1, m1]
  · simp [madeCells, l2, m2]
  · simp [madeCells, l3, m3]

theorem info_knot : (Tryd.prog.info? 73).map (fun i => (i.zero, i.size, i.bytes)) = some (some (.agg #[.int .i16 0, .slice none 0 0, .slice none 0 0, .slice none 0 0]), 4, 80) := by kernel_rfl
theorem ownsRow_belowK {w w' : World} {B e size n : Nat} {v : Value} {xs : List Value} (h : w.ownsRow B e size v n xs) (hb : Below w.heap.size w w') : w'.ownsRow B e size v n xs := by
  obtain ⟨h1, h2⟩ := h
  refine ⟨h1, ?_⟩
  rcases h2 with hn | ⟨g, cap, cur, rfl, hB, hg, rest⟩
  · exact .inl hn
  · exact .inr ⟨g, cap, cur, rfl, hB, (hb.block g (Array.getElem?_eq_some_iff.1 hg).1).trans hg, rest⟩
def NewK (ks : List Kn) (w : World) (e : Ending) (w' : World) : Prop := ∃ v, e = .returned v ∧ NewKnots w.heap.size ks v w' ∧ Below w.heap.size w w'

set_option maxRecDepth 100000 in
set_option maxHeartbeats 3200000 in
theorem toKnotS_any (ad : Option Addr) (ks : List Kn) (c : Nat) (w : World) (hc : KnotsIn w ad ks) (hn : KsSmall ks) :
    Calls Tryd.prog 11 #[.slice ad ks.length c] w (NewK ks w) := by
  obtain ⟨i0, hi, hz0, hz1, hz2⟩ := info_parts info_knot
  have C := Lib.hid hc
  have SM := Lib.hid hn.2
  have nl := hn.1
  clear hc hn
  go_enter Tryd.func11, Tryd.ntmps11
  go_wp2_with (at_make; refine wpList_make_full _ rfl _ _ 36 rfl w.heap.size 73 i0 (.agg #[.int .i16 0, .slice none 0 0, .slice none 0 0, .slice none 0 0]) 4 Tryd.underlying36 hi hz0 hz1 _ _ _ _ ks.length rfl rfl rfl rfl (by rw [hz2]; omega) (by unfold maxLen; omega) (Nat.le_refl _) ?_; intro w1 hown hgrow; have M := Lib.hid hown; have G := Lib.hid hgrow; clear hown hgrow)
  have R0 := Lib.hid (rowK_zero w1 w.heap.size ks)
  have B1 := Lib.hid (Below.grown (Below.refl w.heap.size w) G.out (Nat.le_refl _) (fun j hj => by cases hj))
  clear G hi hz0 hz1 hz2
  go_loopw [4] (fun i wr => ∃ (k : Nat) (xs : List Value), k ≤ ks.length ∧ i = .int .i64 k ∧ wr.ownsRow w.heap.size 73 4 (.slice (some ⟨w.heap.size, 0, none⟩) ks.length ks.length) ks.length xs ∧ RowK wr w.heap.size ks k xs ∧ Below w.heap.size w wr) (fun i _ => ks.length - (intOf i).toNat)
  case atStart => exact ⟨0, _, Nat.zero_le _, rfl, M.out, R0.out, B1.out⟩
  case round =>
    obtain ⟨k, xs, hk, rfl, O2, hR, hB⟩ := hrel
    have O3 := Lib.hid O2
    have R3 := Lib.hid hR
    have BB := Lib.hid hB
    have gl := (O2.lt w.heap.size rfl).2
    clear M R0 B1
    by_cases hkl : k < ks.length
    · have hd : decide ((k : Int) < (ks.length : Int)) = true := by simpa using hkl
      obtain ⟨b1, o1, rfl, hkn⟩ := C.out k hkl
      obtain ⟨_, va, vc, na, nc, ca, cc, y1, d0, d1, d2, d3, p1, p2, p3⟩ := knAt_below hkn hB
      have i1 : (0 : Int) ≤ (k : Int) := by omega
      have i2 : (k : Int) < (ks.length : Int) := by omega
      obtain ⟨z0, z1, z2, z3⟩ := (hR.2 k hkl).2 (Nat.lt_irrefl k)
      have r0 := O2.cellAt (k * 4) (by omega)
      have r1 := O2.cellAt (k * 4 + 1) (by omega)
      have r2 := O2.cellAt (k * 4 + 2) (by omega)
      have r3 := O2.cellAt (k * 4 + 3) (by omega)
      rw [z0] at r0
      rw [z1] at r1
      rw [z2] at r2
      rw [z3] at r3
      have X0 := Lib.hid r0
      have X1 := Lib.hid r1
      have X2 := Lib.hid r2
      have X3 := Lib.hid r3
      have FZ := Lib.hid (fun j => O2.frozenAt j)
      have K := Lib.hid (toKnot_any (knAt ks k) va na ca vc nc cc wr (SM.out k hkl) p1 p2 p3)
      have NX := Lib.hid fun W g1 g2 g3 (h : RowK W w.heap.size ks k xs) l1 l2 l3 p1 p2 p3 => rowK_next (g1 := g1) (g2 := g2) (g3 := g3) h hkl l1 l2 l3 p1 p2 p3
      clear hB hkn O2 hR z0 z1 z2 z3 r0 r1 r2 r3 p1 p2 p3
      generalize knAt ks k = x at *
      obtain ⟨f, vs, ns, cs⟩ := x
      simp only at d0 d1 d2 d3
      go_wp2_with (go_at_call 40; refine K.out.mono ?_; rintro e w2 ⟨g1, g2, g3, rfl, a1, a2, a3, p1, p2, p3, hB2⟩; have t0 := (hB2.cell (p := ⟨w.heap.size, k * 4, none⟩) gl).trans X0.out; have t1 := (hB2.cell (p := ⟨w.heap.size, k * 4 + 1, none⟩) gl).trans X1.out; have t2 := (hB2.cell (p := ⟨w.heap.size, k * 4 + 2, none⟩) gl).trans X2.out; have t3 := (hB2.cell (p := ⟨w.heap.size, k * 4 + 3, none⟩) gl).trans X3.out; have u : ∀ j, w2.frozen? ⟨w.heap.size, j, none⟩ = false := (fun j => (hB2.frozen (p := ⟨w.heap.size, j, none⟩) gl).trans (FZ.out j)); have O4 := Lib.hid (ownsRow_belowK O3.out hB2); have N4 := Lib.hid (NX.out w2 g1 g2 g3 (rowK_below R3.out hB2) (by omega) (by omega) (by omega) p1 p2 p3); have B2 := Lib.hid (below_next BB.out hB2); clear hB2 p1 p2 p3)
      have s0 := O4.out.stored (k * 4) (.int .i16 f)
      have s1 := s0.1.stored (k * 4 + 1) (slc g1 vs.length)
      have s2 := s1.1.stored (k * 4 + 2) (slc g2 ns.length)
      have s3 := s2.1.stored (k * 4 + 3) (slc g3 cs.length)
      exact ⟨⟨k + 1, _, hkl, by rw [Int.natCast_succ], s3.1, N4.out, (((B2.out.setCell (Nat.le_refl _) _).setCell (Nat.le_refl _) _).setCell (Nat.le_refl _) _).setCell (Nat.le_refl _) _⟩, by (simp [intOf]) <;> omega⟩
    · have e : k = ks.length := by omega
      subst e
      have hd : decide ((ks.length : Int) < (ks.length : Int)) = false := by simp
      clear O2 hR hB
      go_wp2
      go_ret
      refine ⟨_, rfl, ⟨w.heap.size, rfl, Nat.le_refl _, gl, fun i hi => ⟨w.heap.size, 0, rfl, ?_⟩⟩, BB.out⟩
      obtain ⟨g1, g2, g3, e0, e1, e2, e3, _, _, _, p1, p2, p3⟩ := (R3.out.2 i hi).1 hi
      obtain ⟨_, _, _, hf, _⟩ := C.out i hi
      refine ⟨hf, some ⟨g1, 0, none⟩, (knAt ks i).vs.length, some ⟨g2, 0, none⟩, (knAt ks i).ns.length, some ⟨g3, 0, none⟩, (knAt ks i).cs.length, gl, ?_, ?_, ?_, ?_, p1, p2, p3⟩
      · rw [Nat.zero_add, O3.out.cellAt _ (by omega)]; exact e0
      · rw [Nat.zero_add, O3.out.cellAt _ (by omega)]; exact e1
      · rw [Nat.zero_add, O3.out.cellAt _ (by omega)]; exact e2
      · rw [Nat.zero_add, O3.out.cellAt _ (by omega)]; exact e3
end Go.Proofs.YtppjmngnjdeigaaDoor
