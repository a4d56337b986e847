/- Knots of the laws' own, carried over into blocks that may be written. -/
import Derived.Test.YtppjmngnjdeigaaDoorKnS
import Derived.Test.YtppjmngnjdeigaaDoorOth
namespace Go.Proofs.YtppjmngnjdeigaaDoor
open Go.ChangeShapes Go.WideShapes Go.ChangeAt Go.RowKit

def FzF (w : World) (a : Option Addr) (n : Nat) : Prop := ∀ b off, a = some ⟨b, off, none⟩ → b < w.heap.size ∧ ∀ i, i < n → w.frozen? ⟨b, off + i, none⟩ = false
def IntsF (w : World) (a : Option Addr) (zs : List Int) : Prop := IntsIn w a zs ∧ FzF w a zs.length
def I16sF (w : World) (a : Option Addr) (zs : List Int) : Prop := I16sIn w a zs ∧ FzF w a zs.length
theorem fzF_of {w : World} {g n : Nat} (h : g < w.heap.size) (hf : ∀ i, i < n → w.frozen? ⟨g, i, none⟩ = false) : FzF w (some ⟨g, 0, none⟩) n := fun b off e => by
  injection e with e
  injection e with e1 e2
  subst e1; subst e2
  exact ⟨h, fun i hi => by rw [Nat.zero_add]; exact hf i hi⟩
theorem fzF_below {w w' : World} {a : Option Addr} {n : Nat} (h : FzF w a n) (hb : Below w.heap.size w w') : FzF w' a n := fun b off e => by
  obtain ⟨h1, h2⟩ := h b off e
  exact ⟨Nat.lt_of_lt_of_le h1 hb.size, fun i hi => (hb.frozen (p := ⟨b, off + i, none⟩) h1).trans (h2 i hi)⟩
theorem fzF_set {w : World} {a : Option Addr} {n G j : Nat} {v : Value} (h : FzF w a n) : FzF (w.setCell ⟨G, j, none⟩ v) a n := fun b off e => by
  obtain ⟨h1, h2⟩ := h b off e
  exact ⟨by rw [World.size_setCell]; exact h1, fun i hi => by rw [World.frozen?_setCell]; exact h2 i hi⟩
theorem intsF_below {w w' : World} {a : Option Addr} {zs : List Int} (h : IntsF w a zs) (hb : Below w.heap.size w w') : IntsF w' a zs := ⟨intsIn_below h.1 hb, fzF_below h.2 hb⟩
theorem i16sF_below {w w' : World} {a : Option Addr} {zs : List Int} (h : I16sF w a zs) (hb : Below w.heap.size w w') : I16sF w' a zs := ⟨i16sIn_below h.1 hb, fzF_below h.2 hb⟩
theorem intsF_set {w : World} {a : Option Addr} {zs : List Int} {G j : Nat} {v : Value} (h : IntsF w a zs) (hne : ∀ b off, a = some ⟨b, off, none⟩ → G ≠ b) : IntsF (w.setCell ⟨G, j, none⟩ v) a zs := ⟨intsIn_set h.1 hne, fzF_set h.2⟩
theorem i16sF_set {w : World} {a : Option Addr} {zs : List Int} {G j : Nat} {v : Value} (h : I16sF w a zs) (hne : ∀ b off, a = some ⟨b, off, none⟩ → G ≠ b) : I16sF (w.setCell ⟨G, j, none⟩ v) a zs := ⟨i16sIn_set h.1 hne, fzF_set h.2⟩
theorem wb_ints {w : World} {g : Nat} {zs : List Int} (h : IntsF w (some ⟨g, 0, none⟩) zs) : g < w.heap.size ∧ Wb w g zs.length := by
  obtain ⟨h1, h2⟩ := h
  obtain ⟨h3, h4⟩ := h2 g 0 rfl
  refine ⟨h3, fun j hj => ?_, fun j hj => by have := h4 j hj; rwa [Nat.zero_add] at this⟩
  obtain ⟨b, off, e, _, hc⟩ := h1 j hj
  injection e with e
  injection e with e1 e2
  subst e1; subst e2
  exact ⟨_, by rw [Nat.zero_add] at hc; exact hc⟩
theorem wb_i16s {w : World} {g : Nat} {zs : List Int} (h : I16sF w (some ⟨g, 0, none⟩) zs) : g < w.heap.size ∧ Wb w g zs.length := by
  obtain ⟨h1, h2⟩ := h
  obtain ⟨h3, h4⟩ := h2 g 0 rfl
  refine ⟨h3, fun j hj => ?_, fun j hj => by have := h4 j hj; rwa [Nat.zero_add] at this⟩
  obtain ⟨b, off, e, _, hc⟩ := h1 j hj
  injection e with e
  injection e with e1 e2
  subst e1; subst e2
  exact ⟨_, by rw [Nat.zero_add] at hc; exact hc⟩
/-- A row of knots that may be written, with all that their slices hold. -/
def KnW (w : World) (G H n : Nat) : Prop := ∀ i, i < n → w.frozen? ⟨G, i * 4, none⟩ = false ∧ (∃ v, w.cell? ⟨G, i * 4, none⟩ = some v) ∧ ∃ g1 n1 g2 n2 g3 n3, w.cell? ⟨G, i * 4 + 1, none⟩ = some (slc g1 n1) ∧ w.cell? ⟨G, i * 4 + 2, none⟩ = some (slc g2 n2) ∧ w.cell? ⟨G, i * 4 + 3, none⟩ = some (slc g3 n3) ∧
  (n1 ≤ 1048576 ∧ n2 ≤ 1048576 ∧ n3 ≤ 1048576) ∧ (G < g1 ∧ g1 < H) ∧ (G < g2 ∧ g2 < H) ∧ (G < g3 ∧ g3 < H) ∧ Wb w g1 n1 ∧ Wb w g2 n2 ∧ Wb w g3 n3
theorem knW_below {w w' : World} {G H n : Nat} (h : KnW w G H n) (hG : G < w.heap.size) (hH : H ≤ w.heap.size) (hb : Below w.heap.size w w') : KnW w' G H n := fun i hi => by
  obtain ⟨f, ⟨v, hv⟩, g1, n1, g2, n2, g3, n3, e1, e2, e3, hn, l1, l2, l3, w1, w2, w3⟩ := h i hi
  exact ⟨(hb.frozen (p := ⟨G, i * 4, none⟩) hG).trans f, ⟨v, (hb.cell (p := ⟨G, i * 4, none⟩) hG).trans hv⟩, g1, n1, g2, n2, g3, n3, (hb.cell (p := ⟨G, i * 4 + 1, none⟩) hG).trans e1, (hb.cell (p := ⟨G, i * 4 + 2, none⟩) hG).trans e2, (hb.cell (p := ⟨G, i * 4 + 3, none⟩) hG).trans e3, hn, l1, l2, l3, w1.below hb (by omega), w2.below hb (by omega), w3.below hb (by omega)⟩

/-- A knot of the call's own: its slices lie in blocks from B on. -/
def ToKnW (k : Kn) (w : World) (e : Ending) (w' : World) : Prop := ∃ g1 g2 g3 : Nat, e = .returned (.agg #[.int .i16 k.f, .slice (some ⟨g1, 0, none⟩) k.vs.length k.vs.length, .slice (some ⟨g2, 0, none⟩) k.ns.length k.ns.length, .slice (some ⟨g3, 0, none⟩) k.cs.length k.cs.length]) ∧
  w.heap.size ≤ g1 ∧ w.heap.size ≤ g2 ∧ w.heap.size ≤ g3 ∧ IntsF w' (some ⟨g1, 0, none⟩) k.vs ∧ I16sF w' (some ⟨g2, 0, none⟩) k.ns ∧ IntsF w' (some ⟨g3, 0, none⟩) k.cs ∧ Below w.heap.size w w'

set_option maxRecDepth 100000 in
set_option maxHeartbeats 3200000 in
theorem toKnotW_any (k : Kn) (va na ca : Option Addr) (vc nc cc : Nat) (w : World) (hk : KnSmall k) (v1 : IntsIn w va k.vs) (n1 : I16sIn w na k.ns) (c1 : IntsIn w ca k.cs) :
    Calls Tryd.prog 40 #[.agg #[.int .i16 k.f, .slice va k.vs.length vc, .slice na k.ns.length nc, .slice ca k.cs.length cc]] w (ToKnW k w) := by
  obtain ⟨hv, hn, hc⟩ := hk
  have V1 := Lib.hid v1
  have N1 := Lib.hid n1
  have C1 := Lib.hid c1
  obtain ⟨f, vs, ns, cs⟩ := k
  simp only at hv hn hc V1 N1 C1 ⊢
  have TV := Lib.hid fun W ha => toInts_any va vs vc W ha (by omega)
  have TN := Lib.hid fun W ha => toI16s_any na ns nc W ha (by omega)
  have TC := Lib.hid fun W ha => toInts_any ca cs cc W ha (by omega)
  have HB := Lib.hid (block_alloc3k w (.cells #[.int .i16 f, .slice va vs.length vc, .slice na ns.length nc, .slice ca cs.length cc] 69) (.cells #[.int .i16 0, .slice none 0 0, .slice none 0 0, .slice none 0 0] 73) (.cells #[.int .i16 f, .slice none 0 0, .slice none 0 0, .slice none 0 0] 73))
  have B0 := Lib.hid (below_new (below_new (below_new (Below.refl w.heap.size w) (.cells #[.int .i16 f, .slice va vs.length vc, .slice na ns.length nc, .slice ca cs.length cc] 69)) (.cells #[.int .i16 0, .slice none 0 0, .slice none 0 0, .slice none 0 0] 73)) (.cells #[.int .i16 f, .slice none 0 0, .slice none 0 0, .slice none 0 0] 73))
  have k0 := cell_of_block HB.out.1
  have y0 := lt_of_block HB.out.1
  have z0 := lt_of_block HB.out.2.2
  clear v1 n1 c1
  have tok1 : True := trivial
  go_enter Tryd.func40, Tryd.ntmps40
  go_wp2_with (first
    | (go_at_call 12; have _t := tok1; clear _t tok1; refine (TV.out _ (intsIn_below V1.out B0.out)).mono ?_; rintro e w1 ⟨v1, rfl, ⟨g1, rfl, a1, h1, c1⟩, hB⟩; have b1 := Lib.hid (B0.out.trans (Below.mono hB B0.out.size)); have m1 := Ab.block hB HB.out.1; have n1 := Ab.block hB HB.out.2.1; have o1 := Ab.block hB HB.out.2.2; have d1 : w.heap.size + 1 + 1 < g1 := (by simp at a1; omega); clear hB k0 y0; have k1 := cell_of_block m1; have l1 := cell_of_block o1; have f1 := free_of_block o1; have y1 := lt_of_block m1; have z1 := lt_of_block o1; have I1 := Lib.hid (show IntsF w1 (some ⟨g1, 0, none⟩) vs from ⟨fun i hi => ⟨g1, 0, rfl, h1, by rw [Nat.zero_add]; exact (c1 i hi).1⟩, fzF_of h1 fun i hi => (c1 i hi).2⟩); have m1 := Lib.hid m1; have n1 := Lib.hid n1; have o1 := Lib.hid o1; clear c1)
    | (go_at_call 74; have bs1 := b1.out.setCell (p := ⟨w.heap.size + 1 + 1, 1, none⟩) (by show w.heap.size ≤ w.heap.size + 1 + 1; omega) (.slice (some ⟨g1, 0, none⟩) vs.length vs.length); refine (TN.out _ (i16sIn_below N1.out bs1)).mono ?_; rintro e w2 ⟨v2, rfl, ⟨g2, rfl, a2, h2, c2⟩, hB⟩; have b2 := Lib.hid (bs1.trans (Below.mono hB bs1.size)); have m2 := Ab.block hB (other_block (j := 1) (v := .slice (some ⟨g1, 0, none⟩) vs.length vs.length) (g := w.heap.size + 1 + 1) (by omega) m1.out); have n2 := Ab.block hB (other_block (j := 1) (v := .slice (some ⟨g1, 0, none⟩) vs.length vs.length) (g := w.heap.size + 1 + 1) (by omega) n1.out); have o2 := Ab.block hB (block_setCell (j := 1) (.slice (some ⟨g1, 0, none⟩) vs.length vs.length) o1.out); have I1 := Lib.hid (intsF_below (intsF_set (G := w.heap.size + 1 + 1) (j := 1) (v := .slice (some ⟨g1, 0, none⟩) vs.length vs.length) I1.out (ne_at (by simp at a1; omega))) hB); have d2 : w.heap.size + 1 + 1 < g2 := (by simp at a2; omega); clear hB k1 l1 f1 y1 z1 bs1; have k2 := cell_of_block m2; have l2 := cell_of_block o2; have f2 := free_of_block o2; have y2 := lt_of_block m2; have z2 := lt_of_block o2; have r2 := cell_of_block n2; have s2 := free_of_block n2; have I2 := Lib.hid (show I16sF w2 (some ⟨g2, 0, none⟩) ns from ⟨fun i hi => ⟨g2, 0, rfl, h2, by rw [Nat.zero_add]; exact (c2 i hi).1⟩, fzF_of h2 fun i hi => (c2 i hi).2⟩); have m2 := Lib.hid m2; have n2 := Lib.hid n2; have o2 := Lib.hid o2; clear c2)
    | (go_at_call 12; have bs2 := b2.out.setCell (p := ⟨w.heap.size + 1 + 1, 2, none⟩) (by show w.heap.size ≤ w.heap.size + 1 + 1; omega) (.slice (some ⟨g2, 0, none⟩) ns.length ns.length); refine (TC.out _ (intsIn_below C1.out bs2)).mono ?_; rintro e w3 ⟨v3, rfl, ⟨g3, rfl, a3, h3, c3⟩, hB⟩; have b3 := Lib.hid (bs2.trans (Below.mono hB bs2.size)); have m3 := Ab.block hB (other_block (j := 2) (v := .slice (some ⟨g2, 0, none⟩) ns.length ns.length) (g := w.heap.size + 1 + 1) (by omega) m2.out); have n3 := Ab.block hB (other_block (j := 2) (v := .slice (some ⟨g2, 0, none⟩) ns.length ns.length) (g := w.heap.size + 1 + 1) (by omega) n2.out); have o3 := Ab.block hB (block_setCell (j := 2) (.slice (some ⟨g2, 0, none⟩) ns.length ns.length) o2.out); have I1 := Lib.hid (intsF_below (intsF_set (G := w.heap.size + 1 + 1) (j := 2) (v := .slice (some ⟨g2, 0, none⟩) ns.length ns.length) I1.out (ne_at (by simp at a1; omega))) hB); have I2 := Lib.hid (i16sF_below (i16sF_set (G := w.heap.size + 1 + 1) (j := 2) (v := .slice (some ⟨g2, 0, none⟩) ns.length ns.length) I2.out (ne_at (by simp at a2; omega))) hB); have d3 : w.heap.size + 1 + 1 < g3 := (by simp at a3; omega); clear hB k2 l2 f2 y2 z2 bs2; have k3 := cell_of_block m3; have l3 := cell_of_block o3; have f3 := free_of_block o3; have y3 := lt_of_block m3; have z3 := lt_of_block o3; have r3 := cell_of_block n3; have s3 := free_of_block n3; have I3 := Lib.hid (show IntsF w3 (some ⟨g3, 0, none⟩) cs from ⟨fun i hi => ⟨g3, 0, rfl, h3, by rw [Nat.zero_add]; exact (c3 i hi).1⟩, fzF_of h3 fun i hi => (c3 i hi).2⟩); have m3 := Lib.hid m3; have n3 := Lib.hid n3; have o3 := Lib.hid o3; clear c3))
  refine bodyPost_ret (by simp [results, Tryd.results40, go_sem, r3]; try rfl) rfl ?_
  exact ⟨g1, g2, g3, rfl, by omega, by omega, by omega, intsF_set (intsF_set (intsF_set (intsF_set (intsF_set (I1.out) (ne_at (by omega))) (ne_at (by omega))) (ne_at (by omega))) (ne_at (by omega))) (ne_at (by omega)), i16sF_set (i16sF_set (i16sF_set (i16sF_set (i16sF_set (I2.out) (ne_at (by omega))) (ne_at (by omega))) (ne_at (by omega))) (ne_at (by omega))) (ne_at (by omega)), intsF_set (intsF_set (intsF_set (intsF_set (intsF_set (I3.out) (ne_at (by omega))) (ne_at (by omega))) (ne_at (by omega))) (ne_at (by omega))) (ne_at (by omega)), by have := b3.out; ((repeat' (first | (with_reducible exact Below.refl _ _) | (with_reducible assumption) | (with_reducible refine below_drewN ?_ _) | (with_reducible refine Below.drew ?_) | (with_reducible refine below_new ?_ _) | (with_reducible refine below_next ?_ (by with_reducible assumption)) | (with_reducible refine Below.setCell ?_ ?_ _) | go_size)); done)⟩
/-- One knot of the row is carried over. -/
def KnRowW (w : World) (G : Nat) (k : Kn) (xs : List Value) (i : Nat) : Prop := ∃ g1 g2 g3 : Nat, xs[i * 4]? = some (.int .i16 k.f) ∧ xs[i * 4 + 1]? = some (slc g1 k.vs.length) ∧ xs[i * 4 + 2]? = some (slc g2 k.ns.length) ∧ xs[i * 4 + 3]? = some (slc g3 k.cs.length) ∧
  G < g1 ∧ G < g2 ∧ G < g3 ∧ IntsF w (some ⟨g1, 0, none⟩) k.vs ∧ I16sF w (some ⟨g2, 0, none⟩) k.ns ∧ IntsF w (some ⟨g3, 0, none⟩) k.cs
def RowKW (w : World) (G : Nat) (ks : List Kn) (k : Nat) (xs : List Value) : Prop := xs.length = ks.length * 4 ∧ ∀ i, i < ks.length → (i < k → KnRowW w G (knAt ks i) xs i) ∧
  (¬ i < k → xs[i * 4]? = some (.int .i16 0) ∧ xs[i * 4 + 1]? = some (.slice none 0 0) ∧ xs[i * 4 + 2]? = some (.slice none 0 0) ∧ xs[i * 4 + 3]? = some (.slice none 0 0))
theorem rowKW_below {w w' : World} {G : Nat} {ks : List Kn} {k : Nat} {xs : List Value} (h : RowKW w G ks k xs) (hb : Below w.heap.size w w') : RowKW w' G ks k xs := by
  refine ⟨h.1, fun i hi => ⟨fun hk => ?_, (h.2 i hi).2⟩⟩
  obtain ⟨g1, g2, g3, e0, e1, e2, e3, l1, l2, l3, p1, p2, p3⟩ := (h.2 i hi).1 hk
  exact ⟨g1, g2, g3, e0, e1, e2, e3, l1, l2, l3, intsF_below p1 hb, i16sF_below p2 hb, intsF_below p3 hb⟩
theorem knRowW_set {w : World} {G i j : Nat} {k : Kn} {xs : List Value} {v : Value} (h : KnRowW w G k xs i) : KnRowW (w.setCell ⟨G, j, none⟩ v) G k xs i := by
  obtain ⟨g1, g2, g3, e0, e1, e2, e3, l1, l2, l3, p1, p2, p3⟩ := h
  exact ⟨g1, g2, g3, e0, e1, e2, e3, l1, l2, l3, intsF_set p1 (ne_at (by omega)), i16sF_set p2 (ne_at (by omega)), intsF_set p3 (ne_at (by omega))⟩
theorem knRowW_list {w : World} {G i k : Nat} {x : Kn} {xs : List Value} {a b c d : Value} (h : KnRowW w G x xs i) (hne : i ≠ k) : KnRowW w G x ((((xs.set (k * 4) a).set (k * 4 + 1) b).set (k * 4 + 2) c).set (k * 4 + 3) d) i := by
  obtain ⟨g1, g2, g3, e0, e1, e2, e3, rest⟩ := h
  refine ⟨g1, g2, g3, ?_, ?_, ?_, ?_, rest⟩
  all_goals
    rw [List.getElem?_set_ne (by omega), List.getElem?_set_ne (by omega), List.getElem?_set_ne (by omega), List.getElem?_set_ne (by omega)]
    assumption
theorem rowKW_next {w : World} {G g1 g2 g3 : Nat} {ks : List Kn} {k : Nat} {xs : List Value} (h : RowKW w G ks k xs) (hk : k < ks.length) (l1 : G < g1) (l2 : G < g2) (l3 : G < g3)
    (p1 : IntsF w (some ⟨g1, 0, none⟩) (knAt ks k).vs) (p2 : I16sF w (some ⟨g2, 0, none⟩) (knAt ks k).ns) (p3 : IntsF w (some ⟨g3, 0, none⟩) (knAt ks k).cs) :
    RowKW ((((w.setCell ⟨G, k * 4, none⟩ (.int .i16 (knAt ks k).f)).setCell ⟨G, k * 4 + 1, none⟩ (slc g1 (knAt ks k).vs.length)).setCell ⟨G, k * 4 + 2, none⟩ (slc g2 (knAt ks k).ns.length)).setCell ⟨G, k * 4 + 3, none⟩ (slc g3 (knAt ks k).cs.length)) G ks (k + 1)
      ((((xs.set (k * 4) (.int .i16 (knAt ks k).f)).set (k * 4 + 1) (slc g1 (knAt ks k).vs.length)).set (k * 4 + 2) (slc g2 (knAt ks k).ns.length)).set (k * 4 + 3) (slc g3 (knAt ks k).cs.length)) := by
  have hl := h.1
  refine ⟨by simp [hl], fun i hi => ⟨fun hik => ?_, fun hik => ?_⟩⟩
  · refine knRowW_set (knRowW_set (knRowW_set (knRowW_set ?_)))
    by_cases e : i = k
    · subst e
      refine ⟨g1, g2, g3, ?_, ?_, ?_, ?_, l1, l2, l3, p1, p2, p3⟩
      · rw [List.getElem?_set_ne (by omega), List.getElem?_set_ne (by omega), List.getElem?_set_ne (by omega), List.getElem?_set_self (by omega)]
      · rw [List.getElem?_set_ne (by omega), List.getElem?_set_ne (by omega), List.getElem?_set_self (by simp; omega)]
      · rw [List.getElem?_set_ne (by omega), List.getElem?_set_self (by simp; omega)]
      · rw [List.getElem?_set_self (by simp; omega)]
    · exact knRowW_list ((h.2 i hi).1 (by omega)) e
  · obtain ⟨e0, e1, e2, e3⟩ := (h.2 i hi).2 (by omega)
    refine ⟨?_, ?_, ?_, ?_⟩
    all_goals
      rw [List.getElem?_set_ne (by omega), List.getElem?_set_ne (by omega), List.getElem?_set_ne (by omega), List.getElem?_set_ne (by omega)]
      assumption
theorem rowKW_zero (w : World) (G : Nat) (ks : List Kn) : RowKW w G ks 0 (madeCells #[.int .i16 0, .slice none 0 0, .slice none 0 0, .slice none 0 0] (ks.length * 4)).toList := by
  refine ⟨by simp [madeCells], fun i hi => ⟨fun h => absurd h (Nat.not_lt_zero _), fun _ => ?_⟩⟩
  have m0 : i * 4 % 4 = 0 := by omega
  have m1 : (i * 4 + 1) % 4 = 1 := by omega
  have m2 : (i * 4 + 2) % 4 = 2 := by omega
  have m3 : (i * 4 + 3) % 4 = 3 := by omega
  have l0 : i * 4 < ks.length * 4 := by omega
  have l1 : i * 4 + 1 < ks.length * 4 := by omega
  have l2 : i * 4 + 2 < ks.length * 4 := by omega
  have l3 : i * 4 + 3 < ks.length * 4 := by omega
  refine ⟨?_, ?_, ?_, ?_⟩
  · simp [madeCells, l0, m0]
  · simp [madeCells, l1, m1]
  · simp [madeCells, l2, m2]
  · simp [madeCells, l3, m3]

def NewKW (ks : List Kn) (w : World) (e : Ending) (w' : World) : Prop := e = .returned (.slice (some ⟨w.heap.size, 0, none⟩) ks.length ks.length) ∧ w.heap.size < w'.heap.size ∧ KnotsIn w' (some ⟨w.heap.size, 0, none⟩) ks ∧ KnW w' w.heap.size w'.heap.size ks.length ∧ Below w.heap.size w w'

set_option maxRecDepth 100000 in
set_option maxHeartbeats 3200000 in
theorem toKnotSW_any (ad : Option Addr) (ks : List Kn) (c : Nat) (w : World) (hc : KnotsIn w ad ks) (hn : KsSmall ks) :
    Calls Tryd.prog 11 #[.slice ad ks.length c] w (NewKW ks w) := by
  obtain ⟨i0, hi, hz0, hz1, hz2⟩ := info_parts info_knot
  have C := Lib.hid hc
  have SM := Lib.hid hn.2
  have nl := hn.1
  clear hc hn
  go_enter Tryd.func11, Tryd.ntmps11
  go_wp2_with (at_make; refine wpList_make_full _ rfl _ _ 36 rfl w.heap.size 73 i0 (.agg #[.int .i16 0, .slice none 0 0, .slice none 0 0, .slice none 0 0]) 4 Tryd.underlying36 hi hz0 hz1 _ _ _ _ ks.length rfl rfl rfl rfl (by rw [hz2]; omega) (by unfold maxLen; omega) (Nat.le_refl _) ?_; intro w1 hown hgrow; have M := Lib.hid hown; have G := Lib.hid hgrow; clear hown hgrow)
  have R0 := Lib.hid (rowKW_zero w1 w.heap.size ks)
  have B1 := Lib.hid (Below.grown (Below.refl w.heap.size w) G.out (Nat.le_refl _) (fun j hj => by cases hj))
  clear G hi hz0 hz1 hz2
  go_loopw [4] (fun i wr => ∃ (k : Nat) (xs : List Value), k ≤ ks.length ∧ i = .int .i64 k ∧ wr.ownsRow w.heap.size 73 4 (.slice (some ⟨w.heap.size, 0, none⟩) ks.length ks.length) ks.length xs ∧ RowKW wr w.heap.size ks k xs ∧ Below w.heap.size w wr) (fun i _ => ks.length - (intOf i).toNat)
  case atStart => exact ⟨0, _, Nat.zero_le _, rfl, M.out, R0.out, B1.out⟩
  case round =>
    obtain ⟨k, xs, hk, rfl, O2, hR, hB⟩ := hrel
    have O3 := Lib.hid O2
    have R3 := Lib.hid hR
    have BB := Lib.hid hB
    have gl := (O2.lt w.heap.size rfl).2
    clear M R0 B1
    by_cases hkl : k < ks.length
    · have hd : decide ((k : Int) < (ks.length : Int)) = true := by simpa using hkl
      obtain ⟨b1, o1, rfl, hkn⟩ := C.out k hkl
      obtain ⟨_, va, vc, na, nc, ca, cc, y1, d0, d1, d2, d3, p1, p2, p3⟩ := knAt_below hkn hB
      have i1 : (0 : Int) ≤ (k : Int) := by omega
      have i2 : (k : Int) < (ks.length : Int) := by omega
      obtain ⟨z0, z1, z2, z3⟩ := (hR.2 k hkl).2 (Nat.lt_irrefl k)
      have r0 := O2.cellAt (k * 4) (by omega)
      have r1 := O2.cellAt (k * 4 + 1) (by omega)
      have r2 := O2.cellAt (k * 4 + 2) (by omega)
      have r3 := O2.cellAt (k * 4 + 3) (by omega)
      rw [z0] at r0
      rw [z1] at r1
      rw [z2] at r2
      rw [z3] at r3
      have X0 := Lib.hid r0
      have X1 := Lib.hid r1
      have X2 := Lib.hid r2
      have X3 := Lib.hid r3
      have FZ := Lib.hid (fun j => O2.frozenAt j)
      have K := Lib.hid (toKnotW_any (knAt ks k) va na ca vc nc cc wr (SM.out k hkl) p1 p2 p3)
      have NX := Lib.hid fun W g1 g2 g3 (h : RowKW W w.heap.size ks k xs) l1 l2 l3 p1 p2 p3 => rowKW_next (g1 := g1) (g2 := g2) (g3 := g3) h hkl l1 l2 l3 p1 p2 p3
      clear hB hkn O2 hR z0 z1 z2 z3 r0 r1 r2 r3 p1 p2 p3
      generalize knAt ks k = x at *
      obtain ⟨f, vs, ns, cs⟩ := x
      simp only at d0 d1 d2 d3
      go_wp2_with (go_at_call 40; refine K.out.mono ?_; rintro e w2 ⟨g1, g2, g3, rfl, a1, a2, a3, p1, p2, p3, hB2⟩; have t0 := (hB2.cell (p := ⟨w.heap.size, k * 4, none⟩) gl).trans X0.out; have t1 := (hB2.cell (p := ⟨w.heap.size, k * 4 + 1, none⟩) gl).trans X1.out; have t2 := (hB2.cell (p := ⟨w.heap.size, k * 4 + 2, none⟩) gl).trans X2.out; have t3 := (hB2.cell (p := ⟨w.heap.size, k * 4 + 3, none⟩) gl).trans X3.out; have u : ∀ j, w2.frozen? ⟨w.heap.size, j, none⟩ = false := (fun j => (hB2.frozen (p := ⟨w.heap.size, j, none⟩) gl).trans (FZ.out j)); have O4 := Lib.hid (ownsRow_belowK O3.out hB2); have N4 := Lib.hid (NX.out w2 g1 g2 g3 (rowKW_below R3.out hB2) (by omega) (by omega) (by omega) p1 p2 p3); have B2 := Lib.hid (below_next BB.out hB2); clear hB2 p1 p2 p3)
      have s0 := O4.out.stored (k * 4) (.int .i16 f)
      have s1 := s0.1.stored (k * 4 + 1) (slc g1 vs.length)
      have s2 := s1.1.stored (k * 4 + 2) (slc g2 ns.length)
      have s3 := s2.1.stored (k * 4 + 3) (slc g3 cs.length)
      exact ⟨⟨k + 1, _, hkl, by rw [Int.natCast_succ], s3.1, N4.out, (((B2.out.setCell (Nat.le_refl _) _).setCell (Nat.le_refl _) _).setCell (Nat.le_refl _) _).setCell (Nat.le_refl _) _⟩, by (simp [intOf]) <;> omega⟩
    · have e : k = ks.length := by omega
      subst e
      have hd : decide ((ks.length : Int) < (ks.length : Int)) = false := by simp
      clear O2 hR hB
      go_wp2
      go_ret
      refine ⟨rfl, gl, fun i hi => ⟨w.heap.size, 0, rfl, ?_⟩, fun i hi => ?_, BB.out⟩
      · obtain ⟨g1, g2, g3, e0, e1, e2, e3, _, _, _, p1, p2, p3⟩ := (R3.out.2 i hi).1 hi
        obtain ⟨_, _, _, hf, _⟩ := C.out i hi
        refine ⟨hf, some ⟨g1, 0, none⟩, (knAt ks i).vs.length, some ⟨g2, 0, none⟩, (knAt ks i).ns.length, some ⟨g3, 0, none⟩, (knAt ks i).cs.length, gl, ?_, ?_, ?_, ?_, p1.1, p2.1, p3.1⟩
        · rw [Nat.zero_add, O3.out.cellAt _ (by omega)]; exact e0
        · rw [Nat.zero_add, O3.out.cellAt _ (by omega)]; exact e1
        · rw [Nat.zero_add, O3.out.cellAt _ (by omega)]; exact e2
        · rw [Nat.zero_add, O3.out.cellAt _ (by omega)]; exact e3
      · obtain ⟨g1, g2, g3, e0, e1, e2, e3, l1, l2, l3, p1, p2, p3⟩ := (R3.out.2 i hi).1 hi
        have q1 := wb_ints p1
        have q2 := wb_i16s p2
        have q3 := wb_ints p3
        refine ⟨O3.out.frozenAt _, ⟨_, (O3.out.cellAt _ (by omega)).trans e0⟩, g1, _, g2, _, g3, _, (O3.out.cellAt _ (by omega)).trans e1, (O3.out.cellAt _ (by omega)).trans e2, (O3.out.cellAt _ (by omega)).trans e3, SM.out i hi, ⟨l1, q1.1⟩, ⟨l2, q2.1⟩, ⟨l3, q3.1⟩, q1.2, q2.2, q3.2⟩

/-! ### Marked -/
/-- What may be written may be written still. -/
def KpW (w w' : World) : Prop := ∀ g m, g < w.heap.size → Wb w g m → Wb w' g m
theorem KpW.refl (w : World) : KpW w w := fun _ _ _ h => h
theorem KpW.trans {a b c : World} (h : KpW a b) (hs : a.heap.size ≤ b.heap.size) (k : KpW b c) : KpW a c := fun g m hg hw => k g m (Nat.lt_of_lt_of_le hg hs) (h g m hg hw)
theorem KpW.set (w : World) (g j : Nat) (v : Value) : KpW w (w.setCell ⟨g, j, none⟩ v) := fun g' m _ h => by
  refine ⟨fun t ht => ?_, fun t ht => by rw [World.frozen?_setCell]; exact h.2 t ht⟩
  obtain ⟨u, hu⟩ := h.1 t ht
  by_cases e : g = g' ∧ j = t
  · obtain ⟨rfl, rfl⟩ := e
    exact ⟨v, World.cell?_setCell_same' _ _ _ (by rw [hu]; rfl)⟩
  · exact ⟨u, (World.cell?_setCell_other _ _ _ _ (by intro hc; simp at hc; exact e hc)).trans hu⟩
/-- Nothing lies otherwise but blocks from A on that are below H. -/
structure Zon (A H : Nat) (w w' : World) : Prop where
  os : w'.os = w.os
  tape : w'.tape = w.tape
  output : w'.output = w.output
  size : w.heap.size ≤ w'.heap.size
  block : ∀ j, (j < A ∨ H ≤ j) → j < w.heap.size → w'.heap[j]? = w.heap[j]?
theorem Zon.refl (A H : Nat) (w : World) : Zon A H w w := ⟨rfl, rfl, rfl, Nat.le_refl _, fun _ _ _ => rfl⟩
theorem Zon.trans {A H : Nat} {a b c : World} (h : Zon A H a b) (k : Zon A H b c) : Zon A H a c := ⟨k.os.trans h.os, k.tape.trans h.tape, k.output.trans h.output, Nat.le_trans h.size k.size, fun j hj hl => (k.block j hj (Nat.lt_of_lt_of_le hl h.size)).trans (h.block j hj hl)⟩
theorem Zon.of_oth {A H g : Nat} {w w' : World} (h : Oth g w w') (h1 : A ≤ g) (h2 : g < H) : Zon A H w w' := ⟨h.os, h.tape, h.output, h.size, fun j hj hl => h.block j (by omega) hl⟩
theorem Zon.below {A H : Nat} {w w' : World} (h : Zon A H w w') (hg : A ≤ w.heap.size) : Below A w w' := ⟨h.os, h.tape, h.output, h.size, fun k hk => h.block k (.inl hk) (by omega)⟩
theorem own_zon {B A H : Nat} {zs : List Int} {v : Value} {w w' : World} (h : OwnInts B zs v w) (hb : Zon A H w w') (hg : H ≤ B) : OwnInts B zs v w' := by
  obtain ⟨h1, h2⟩ := h
  refine ⟨h1, ?_⟩
  rcases h2 with hn | ⟨b, cap, cur, rfl, hB, hh, rest⟩
  · exact .inl hn
  · exact .inr ⟨b, cap, cur, rfl, hB, (hb.block b (.inr (by omega)) (Array.getElem?_eq_some_iff.1 hh).1).trans hh, rest⟩

set_option maxHeartbeats 1600000 in
theorem mkI64_any (n g k c m : Nat) (hm : m = k + n) (w : World) (hW : Wb w g n) (hg : g < w.heap.size) (hn : n ≤ 1048576) (hk : k ≤ 35184372088832) :
    Calls Tryd.prog 17 #[.slice (some ⟨g, 0, none⟩) n c, .int .i64 (k : Int)] w fun e w' => e = .returned (.int .i64 (m : Int)) ∧ Oth g w w' ∧ KpW w w' := by
  have WW := Lib.hid hW
  clear hW
  go_enter Tryd.func17, Tryd.ntmps17
  go_wp2
  go_loopw [1, 5] (fun q i wr => ∃ j q0 : Nat, j ≤ n ∧ i = .int .i64 j ∧ q = .int .i64 (q0 : Int) ∧ q0 = k + j ∧ Wb wr g n ∧ Oth g w wr ∧ KpW w wr) (fun _ i _ => n - (intOf i).toNat)
  case atStart => exact ⟨0, k, Nat.zero_le _, rfl, rfl, by omega, WW.out, Oth.refl _ _, KpW.refl _⟩
  case round =>
    obtain ⟨j, q0, hj, rfl, rfl, hq, hW, hO, hK⟩ := hrel
    have Q := Lib.hid hq
    have W1 := Lib.hid hW
    have OO := Lib.hid hO
    have KK := Lib.hid hK
    have gl : g < wr.heap.size := Nat.lt_of_lt_of_le hg hO.size
    by_cases hkl : j < n
    · have hd : decide ((j : Int) < (n : Int)) = true := by simpa using hkl
      have i1 : (0 : Int) ≤ (j : Int) := by omega
      have i2 : (j : Int) < (n : Int) := by omega
      obtain ⟨y0, r0⟩ := hW.1 j hkl
      have fz := hW.2 j hkl
      have x1 : IntKind.i64.wrap ((q0 : Int) + 1) = (q0 : Int) + 1 := IntWalk.i64_in _ (by omega)
      clear hq hW hO hK
      go_wp2
      exact ⟨⟨j + 1, q0 + 1, hkl, by rw [Int.natCast_succ], by rw [Int.natCast_succ], by have := Q.out; omega, W1.out.set _ hkl _, OO.out.set _ _, KK.out.trans OO.out.size (KpW.set _ _ _ _)⟩, by (simp [intOf]) <;> omega⟩
    · have e : j = n := by omega
      subst e
      have hd : decide ((j : Int) < (j : Int)) = false := by simp
      clear hW hO hK
      have hq2 := hq
      subst hq2
      clear hq
      go_wp2
      go_ret
      exact ⟨by first | rfl | (rw [hm]; rfl) | (subst hm; rfl), OO.out, KK.out⟩
set_option maxHeartbeats 1600000 in
theorem mkI16_any (n g k c m : Nat) (hm : m = k + n) (w : World) (hW : Wb w g n) (hg : g < w.heap.size) (hn : n ≤ 1048576) (hk : k ≤ 35184372088832) :
    Calls Tryd.prog 46 #[.slice (some ⟨g, 0, none⟩) n c, .int .i64 (k : Int)] w fun e w' => e = .returned (.int .i64 (m : Int)) ∧ Oth g w w' ∧ KpW w w' := by
  have WW := Lib.hid hW
  clear hW
  go_enter Tryd.func46, Tryd.ntmps46
  go_wp2
  go_loopw [1, 5] (fun q i wr => ∃ j q0 : Nat, j ≤ n ∧ i = .int .i64 j ∧ q = .int .i64 (q0 : Int) ∧ q0 = k + j ∧ Wb wr g n ∧ Oth g w wr ∧ KpW w wr) (fun _ i _ => n - (intOf i).toNat)
  case atStart => exact ⟨0, k, Nat.zero_le _, rfl, rfl, by omega, WW.out, Oth.refl _ _, KpW.refl _⟩
  case round =>
    obtain ⟨j, q0, hj, rfl, rfl, hq, hW, hO, hK⟩ := hrel
    have Q := Lib.hid hq
    have W1 := Lib.hid hW
    have OO := Lib.hid hO
    have KK := Lib.hid hK
    have gl : g < wr.heap.size := Nat.lt_of_lt_of_le hg hO.size
    by_cases hkl : j < n
    · have hd : decide ((j : Int) < (n : Int)) = true := by simpa using hkl
      have i1 : (0 : Int) ≤ (j : Int) := by omega
      have i2 : (j : Int) < (n : Int) := by omega
      obtain ⟨y0, r0⟩ := hW.1 j hkl
      have fz := hW.2 j hkl
      have x1 : IntKind.i64.wrap ((q0 : Int) + 1) = (q0 : Int) + 1 := IntWalk.i64_in _ (by omega)
      clear hq hW hO hK
      go_wp2
      exact ⟨⟨j + 1, q0 + 1, hkl, by rw [Int.natCast_succ], by rw [Int.natCast_succ], by have := Q.out; omega, W1.out.set _ hkl _, OO.out.set _ _, KK.out.trans OO.out.size (KpW.set _ _ _ _)⟩, by (simp [intOf]) <;> omega⟩
    · have e : j = n := by omega
      subst e
      have hd : decide ((j : Int) < (j : Int)) = false := by simp
      clear hW hO hK
      have hq2 := hq
      subst hq2
      clear hq
      go_wp2
      go_ret
      exact ⟨by first | rfl | (rw [hm]; rfl) | (subst hm; rfl), OO.out, KK.out⟩

theorem cell_smK {w w' : World} {p : Addr} (h : w'.heap[p.block]? = w.heap[p.block]?) : w'.cell? p = w.cell? p := by unfold World.cell?; simp only [h]
theorem knW_set {w : World} {G H n : Nat} (h : KnW w G H n) (_hG : G < w.heap.size) (hH : H ≤ w.heap.size) (j : Nat) (v : Value) : KnW (w.setCell ⟨G, j * 4, none⟩ v) G H n := fun i hi => by
  obtain ⟨f, ⟨u, hu⟩, g1, n1, g2, n2, g3, n3, e1, e2, e3, hn, l1, l2, l3, w1, w2, w3⟩ := h i hi
  have K := KpW.set w G (j * 4) v
  refine ⟨by rw [World.frozen?_setCell]; exact f, ?_, g1, n1, g2, n2, g3, n3, (World.cell?_setCell_other w ⟨G, j * 4, none⟩ ⟨G, i * 4 + 1, none⟩ v (by intro hc; simp at hc <;> omega)).trans e1, (World.cell?_setCell_other w ⟨G, j * 4, none⟩ ⟨G, i * 4 + 2, none⟩ v (by intro hc; simp at hc <;> omega)).trans e2, (World.cell?_setCell_other w ⟨G, j * 4, none⟩ ⟨G, i * 4 + 3, none⟩ v (by intro hc; simp at hc <;> omega)).trans e3, hn, l1, l2, l3, K _ _ (by omega) w1, K _ _ (by omega) w2, K _ _ (by omega) w3⟩
  by_cases e : j = i
  · subst e; exact ⟨v, World.cell?_setCell_same' _ _ _ (by rw [hu]; rfl)⟩
  · exact ⟨u, (World.cell?_setCell_other w ⟨G, j * 4, none⟩ ⟨G, i * 4, none⟩ v (by intro hc; simp at hc <;> omega)).trans hu⟩
theorem frozen_oth {w w' : World} {g G o : Nat} (h : Oth g w w') (hne : G ≠ g) (hG : G < w.heap.size) : w'.frozen? ⟨G, o, none⟩ = w.frozen? ⟨G, o, none⟩ := by unfold World.frozen?; simp only [h.block G hne hG]
theorem knW_oth {w w' : World} {G H n g : Nat} (h : KnW w G H n) (hO : Oth g w w') (hK : KpW w w') (hg : G < g) (hG : G < w.heap.size) (hH : H ≤ w.heap.size) : KnW w' G H n := fun i hi => by
  obtain ⟨f, ⟨u, hu⟩, g1, n1, g2, n2, g3, n3, e1, e2, e3, hn, l1, l2, l3, w1, w2, w3⟩ := h i hi
  have c : ∀ o, w'.cell? ⟨G, o, none⟩ = w.cell? ⟨G, o, none⟩ := fun o => cell_smK (hO.block G (by omega) hG)
  exact ⟨(frozen_oth hO (by omega) hG).trans f, ⟨u, (c _).trans hu⟩, g1, n1, g2, n2, g3, n3, (c _).trans e1, (c _).trans e2, (c _).trans e3, hn, l1, l2, l3, hK _ _ (by omega) w1, hK _ _ (by omega) w2, hK _ _ (by omega) w3⟩
theorem kn_parts {w : World} {G H n j : Nat} (h : KnW w G H n) (hj : j < n) : ∃ g1 n1 g2 n2 g3 n3, w.cell? ⟨G, j * 4 + 1, none⟩ = some (slc g1 n1) ∧ w.cell? ⟨G, j * 4 + 2, none⟩ = some (slc g2 n2) ∧ w.cell? ⟨G, j * 4 + 3, none⟩ = some (slc g3 n3) ∧ (n1 ≤ 1048576 ∧ n2 ≤ 1048576 ∧ n3 ≤ 1048576) ∧ (G < g1 ∧ g1 < H) ∧ (G < g2 ∧ g2 < H) ∧ (G < g3 ∧ g3 < H) ∧ Wb w g1 n1 ∧ Wb w g2 n2 ∧ Wb w g3 n3 := (h j hj).2.2

set_option maxRecDepth 100000 in
set_option maxHeartbeats 3200000 in
theorem markKnots_any (G H n k c : Nat) (w : World) (hW : KnW w G H n) (hG : G < w.heap.size) (hGH : G < H) (hH : H ≤ w.heap.size) (hn : n ≤ 1048576) (hk : k ≤ 1048576) :
    Calls Tryd.prog 16 #[.slice (some ⟨G, 0, none⟩) n c, .int .i64 (k : Int)] w fun e w' => (∃ m : Nat, e = .returned (.int .i64 (m : Int)) ∧ m ≤ k + 4000000 * n) ∧ Zon G H w w' := by
  have WW := Lib.hid hW
  clear hW
  go_enter Tryd.func16, Tryd.ntmps16
  go_wp2
  go_loopw [1, 5] (fun q i wr => ∃ j q0 : Nat, j ≤ n ∧ i = .int .i64 j ∧ q = .int .i64 (q0 : Int) ∧ q0 ≤ k + 4000000 * j ∧ KnW wr G H n ∧ Zon G H w wr) (fun _ i _ => n - (intOf i).toNat)
  case atStart => exact ⟨0, k, Nat.zero_le _, rfl, rfl, by omega, WW.out, Zon.refl _ _ _⟩
  case round =>
    obtain ⟨j, q0, hj, rfl, rfl, hq, hW, hO⟩ := hrel
    have Q := Lib.hid hq
    have OO := Lib.hid hO
    have gl : G < wr.heap.size := Nat.lt_of_lt_of_le hG hO.size
    have gh : H ≤ wr.heap.size := Nat.le_trans hH hO.size
    by_cases hkl : j < n
    · have hd : decide ((j : Int) < (n : Int)) = true := by simpa using hkl
      have i1 : (0 : Int) ≤ (j : Int) := by omega
      have i2 : (j : Int) < (n : Int) := by omega
      obtain ⟨fz, ⟨y0, r0⟩, _⟩ := hW j hkl
      obtain ⟨z, hvz⟩ : ∃ z, IntKind.i16.wrap (q0 : Int) = z := ⟨_, rfl⟩
      have W1 := Lib.hid (knW_set hW gl gh j (.int .i16 z))
      obtain ⟨g1, n1, g2, n2, g3, n3, e1, e2, e3, ⟨m1, m2, m3⟩, l1, l2, l3, u1, u2, u3⟩ := kn_parts W1.out hkl
      obtain ⟨q1, hq1⟩ : ∃ q1 : Nat, q1 = q0 + 1 := ⟨_, rfl⟩
      obtain ⟨q2, hq2⟩ : ∃ q2 : Nat, q2 = q1 + n1 := ⟨_, rfl⟩
      obtain ⟨q3, hq3⟩ : ∃ q3 : Nat, q3 = q2 + n2 := ⟨_, rfl⟩
      obtain ⟨q4, hq4⟩ : ∃ q4 : Nat, q4 = q3 + n3 := ⟨_, rfl⟩
      have x1 : IntKind.i64.wrap ((q0 : Int) + 1) = (q1 : Int) := by rw [hq1, show ((q0 + 1 : Nat) : Int) = (q0 : Int) + 1 by omega]; exact IntWalk.i64_in _ (by omega)
      have U1 := Lib.hid u1
      have U2 := Lib.hid u2
      have U3 := Lib.hid u3
      have C1 := Lib.hid e1
      have C2 := Lib.hid e2
      have C3 := Lib.hid e3
      have Z1 := Lib.hid (hO.trans (Zon.of_oth ((Oth.refl G wr).set (j * 4) (.int .i16 z)) (Nat.le_refl _) hGH))
      have K1 := Lib.hid (mkI64_any n1 g1 q1 n1 q2 hq2 (wr.setCell ⟨G, j * 4, none⟩ (.int .i16 z)) u1 (by rw [World.size_setCell]; omega) m1 (by omega))
      have K2 := Lib.hid (fun W h1 h2 => mkI16_any n2 g2 q2 n2 q3 hq3 W h1 h2 m2 (by omega))
      have K3 := Lib.hid (fun W h1 h2 => mkI64_any n3 g3 q3 n3 q4 hq4 W h1 h2 m3 (by omega))
      have END := Lib.hid (show q4 ≤ k + 4000000 * (j + 1) by omega)
      have gl1 : G < (wr.setCell ⟨G, j * 4, none⟩ (.int .i16 z)).heap.size := by rw [World.size_setCell]; exact gl
      have gh1 : H ≤ (wr.setCell ⟨G, j * 4, none⟩ (.int .i16 z)).heap.size := by rw [World.size_setCell]; exact gh
      have GH1 := Lib.hid (And.intro gl1 gh1)
      clear hq hW hO u1 u2 u3 e2 e3 hq1 hq2 hq3 hq4 gh1 gh
      unfold slc at e1
      have tok1 : True := trivial
      go_wp2_with (first
        | (go_at_call 17; have _t := tok1; clear _t tok1; refine K1.out.mono ?_; rintro e w2 ⟨rfl, hO, hK⟩; have c2 := (cell_smK (hO.block G (by omega) GH1.out.1)).trans C2.out; unfold slc at c2; have c3 := (cell_smK (hO.block G (by omega) GH1.out.1)).trans C3.out; have C3 := Lib.hid c3; clear c3; have W2 := Lib.hid (knW_oth W1.out hO hK l1.1 GH1.out.1 GH1.out.2); have Z2 := Lib.hid (Z1.out.trans (Zon.of_oth hO (by omega) l1.2)); have U2 := Lib.hid (hK _ _ (by have := GH1.out.2; omega) U2.out); have U3 := Lib.hid (hK _ _ (by have := GH1.out.2; omega) U3.out); have gl2 := Nat.lt_of_lt_of_le GH1.out.1 hO.size; have GH2 := Lib.hid (And.intro gl2 (Nat.le_trans GH1.out.2 hO.size)); clear hO hK)
        | (go_at_call 46; refine (K2.out _ U2.out (by have := GH2.out.2; omega)).mono ?_; rintro e w3 ⟨rfl, hO, hK⟩; have c3 := (cell_smK (hO.block G (by omega) GH2.out.1)).trans C3.out; unfold slc at c3; have W3 := Lib.hid (knW_oth W2.out hO hK l2.1 GH2.out.1 GH2.out.2); have Z3 := Lib.hid (Z2.out.trans (Zon.of_oth hO (by omega) l2.2)); have U3 := Lib.hid (hK _ _ (by have := GH2.out.2; omega) U3.out); have gl3 := Nat.lt_of_lt_of_le GH2.out.1 hO.size; have GH3 := Lib.hid (And.intro gl3 (Nat.le_trans GH2.out.2 hO.size)); clear hO hK)
        | (go_at_call 17; refine (K3.out _ U3.out (by have := GH3.out.2; omega)).mono ?_; rintro e w4 ⟨rfl, hO, hK⟩; have W4 := Lib.hid (knW_oth W3.out hO hK l3.1 GH3.out.1 GH3.out.2); have Z4 := Lib.hid (Z3.out.trans (Zon.of_oth hO (by omega) l3.2)); clear hO hK))
      exact ⟨⟨j + 1, q4, hkl, by rw [Int.natCast_succ], rfl, END.out, W4.out, Z4.out⟩, by (simp [intOf]) <;> omega⟩
    · have e : j = n := by omega
      subst e
      have hd : decide ((j : Int) < (j : Int)) = false := by simp
      clear hW hO
      go_wp2
      go_ret
      exact ⟨⟨q0, rfl, Q.out⟩, OO.out⟩
end Go.Proofs.YtppjmngnjdeigaaDoor
