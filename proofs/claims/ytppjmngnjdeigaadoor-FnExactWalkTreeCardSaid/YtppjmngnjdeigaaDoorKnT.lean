/- Contracts of the laws' own functions on slices of knots: carried over. -/
import Derived.Test.YtppjmngnjdeigaaDoorKnC
import Derived.Deep.RegionHeld
namespace Go.Proofs.YtppjmngnjdeigaaDoor
open Go.ChangeShapes Go.WideShapes Go.ChangeAt Go.RowKit

theorem block_alloc3k (w : World) (o p q : Obj) : (((w.alloc o).alloc p).alloc q).heap[w.heap.size]? = some o ∧ (((w.alloc o).alloc p).alloc q).heap[w.heap.size + 1]? = some p ∧ (((w.alloc o).alloc p).alloc q).heap[w.heap.size + 1 + 1]? = some q := by
  show (((w.heap.push o).push p).push q)[w.heap.size]? = some o ∧ (((w.heap.push o).push p).push q)[w.heap.size + 1]? = some p ∧ (((w.heap.push o).push p).push q)[w.heap.size + 1 + 1]? = some q
  refine ⟨?_, ?_, ?_⟩
  · rw [Array.getElem?_push, if_neg (by simp; omega), Array.getElem?_push, if_neg (by simp)]; simp
  · rw [Array.getElem?_push, if_neg (by simp), Array.getElem?_push, if_pos (by simp)]
  · rw [Array.getElem?_push, if_pos (by simp)]
theorem intsIn_set {w : World} {a : Option Addr} {zs : List Int} {G j : Nat} {v : Value} (h : IntsIn w a zs) (hne : ∀ b off, a = some ⟨b, off, none⟩ → G ≠ b) : IntsIn (w.setCell ⟨G, j, none⟩ v) a zs := fun i hi => by
  obtain ⟨b, off, ha, hlt, hc⟩ := h i hi
  exact ⟨b, off, ha, by rw [World.size_setCell]; exact hlt, (World.cell?_setCell_far w ⟨G, j, none⟩ ⟨b, off + i, none⟩ v (hne b off ha)).trans hc⟩
theorem i16sIn_set {w : World} {a : Option Addr} {zs : List Int} {G j : Nat} {v : Value} (h : I16sIn w a zs) (hne : ∀ b off, a = some ⟨b, off, none⟩ → G ≠ b) : I16sIn (w.setCell ⟨G, j, none⟩ v) a zs := fun i hi => by
  obtain ⟨b, off, ha, hlt, hc⟩ := h i hi
  exact ⟨b, off, ha, by rw [World.size_setCell]; exact hlt, (World.cell?_setCell_far w ⟨G, j, none⟩ ⟨b, off + i, none⟩ v (hne b off ha)).trans hc⟩
theorem ne_at {g G : Nat} (h : G ≠ g) : ∀ b off, (some ⟨g, 0, none⟩ : Option Addr) = some ⟨b, off, none⟩ → G ≠ b := fun b off e => by injection e with e; injection e with e1; omega
theorem other_block {w : World} {b g j : Nat} {v : Value} {o : Obj} (hne : b ≠ g) (h : w.heap[b]? = some o) : (w.setCell ⟨g, j, none⟩ v).heap[b]? = some o := (Below.heap_setCell _ _ _ _ hne).trans h

/-- A knot of the call's own: its slices lie in blocks from B on. -/
def ToKn (k : Kn) (w : World) (e : Ending) (w' : World) : Prop := ∃ g1 g2 g3 : Nat, e = .returned (.agg #[.int .i16 k.f, .slice (some ⟨g1, 0, none⟩) k.vs.length k.vs.length, .slice (some ⟨g2, 0, none⟩) k.ns.length k.ns.length, .slice (some ⟨g3, 0, none⟩) k.cs.length k.cs.length]) ∧
  w.heap.size ≤ g1 ∧ w.heap.size ≤ g2 ∧ w.heap.size ≤ g3 ∧ IntsIn w' (some ⟨g1, 0, none⟩) k.vs ∧ I16sIn w' (some ⟨g2, 0, none⟩) k.ns ∧ IntsIn w' (some ⟨g3, 0, none⟩) k.cs ∧ Below w.heap.size w w'

set_option maxRecDepth 100000 in
set_option maxHeartbeats 3200000 in
theorem toKnot_any (k : Kn) (va na ca : Option Addr) (vc nc cc : Nat) (w : World) (hk : KnSmall k) (v1 : IntsIn w va k.vs) (n1 : I16sIn w na k.ns) (c1 : IntsIn w ca k.cs) :
    Calls Tryd.prog 40 #[.agg #[.int .i16 k.f, .slice va k.vs.length vc, .slice na k.ns.length nc, .slice ca k.cs.length cc]] w (ToKn k w) := by
  obtain ⟨hv, hn, hc⟩ := hk
  have V1 := Lib.hid v1
  have N1 := Lib.hid n1
  have C1 := Lib.hid c1
  obtain ⟨f, vs, ns, cs⟩ := k
  simp only at hv hn hc V1 N1 C1 ⊢
  have TV := Lib.hid fun W ha => toInts_any va vs vc W ha (by omega)
  have TN := Lib.hid fun W ha => toI16s_any na ns nc W ha (by omega)
  have TC := Lib.hid fun W ha => toInts_any ca cs cc W ha (by omega)
  have HB := Lib.hid (block_alloc3k w (.cells #[.int .i16 f, .slice va vs.length vc, .slice na ns.length nc, .slice ca cs.length cc] 69) (.cells #[.int .i16 0, .slice none 0 0, .slice none 0 0, .slice none 0 0] 73) (.cells #[.int .i16 f, .slice none 0 0, .slice none 0 0, .slice none 0 0] 73))
  have B0 := Lib.hid (below_new (below_new (below_new (Below.refl w.heap.size w) (.cells #[.int .i16 f, .slice va vs.length vc, .slice na ns.length nc, .slice ca cs.length cc] 69)) (.cells #[.int .i16 0, .slice none 0 0, .slice none 0 0, .slice none 0 0] 73)) (.cells #[.int .i16 f, .slice none 0 0, .slice none 0 0, .slice none 0 0] 73))
  have k0 := cell_of_block HB.out.1
  have y0 := lt_of_block HB.out.1
  have z0 := lt_of_block HB.out.2.2
  clear v1 n1 c1
  have tok1 : True := trivial
  go_enter Tryd.func40, Tryd.ntmps40
  go_wp2_with (first
    | (go_at_call 12; have _t := tok1; clear _t tok1; refine (TV.out _ (intsIn_below V1.out B0.out)).mono ?_; rintro e w1 ⟨v1, rfl, ⟨g1, rfl, a1, h1, c1⟩, hB⟩; have b1 := Lib.hid (B0.out.trans (Below.mono hB B0.out.size)); have m1 := Ab.block hB HB.out.1; have n1 := Ab.block hB HB.out.2.1; have o1 := Ab.block hB HB.out.2.2; have d1 : w.heap.size + 1 + 1 < g1 := (by simp at a1; omega); clear hB k0 y0; have k1 := cell_of_block m1; have l1 := cell_of_block o1; have f1 := free_of_block o1; have y1 := lt_of_block m1; have z1 := lt_of_block o1; have I1 := Lib.hid (show IntsIn w1 (some ⟨g1, 0, none⟩) vs from fun i hi => ⟨g1, 0, rfl, h1, by rw [Nat.zero_add]; exact (c1 i hi).1⟩); have m1 := Lib.hid m1; have n1 := Lib.hid n1; have o1 := Lib.hid o1; clear c1)
    | (go_at_call 74; have bs1 := b1.out.setCell (p := ⟨w.heap.size + 1 + 1, 1, none⟩) (by show w.heap.size ≤ w.heap.size + 1 + 1; omega) (.slice (some ⟨g1, 0, none⟩) vs.length vs.length); refine (TN.out _ (i16sIn_below N1.out bs1)).mono ?_; rintro e w2 ⟨v2, rfl, ⟨g2, rfl, a2, h2, c2⟩, hB⟩; have b2 := Lib.hid (bs1.trans (Below.mono hB bs1.size)); have m2 := Ab.block hB (other_block (j := 1) (v := .slice (some ⟨g1, 0, none⟩) vs.length vs.length) (g := w.heap.size + 1 + 1) (by omega) m1.out); have n2 := Ab.block hB (other_block (j := 1) (v := .slice (some ⟨g1, 0, none⟩) vs.length vs.length) (g := w.heap.size + 1 + 1) (by omega) n1.out); have o2 := Ab.block hB (block_setCell (j := 1) (.slice (some ⟨g1, 0, none⟩) vs.length vs.length) o1.out); have I1 := Lib.hid (intsIn_below (intsIn_set (G := w.heap.size + 1 + 1) (j := 1) (v := .slice (some ⟨g1, 0, none⟩) vs.length vs.length) I1.out (ne_at (by simp at a1; omega))) hB); have d2 : w.heap.size + 1 + 1 < g2 := (by simp at a2; omega); clear hB k1 l1 f1 y1 z1 bs1; have k2 := cell_of_block m2; have l2 := cell_of_block o2; have f2 := free_of_block o2; have y2 := lt_of_block m2; have z2 := lt_of_block o2; have r2 := cell_of_block n2; have s2 := free_of_block n2; have I2 := Lib.hid (show I16sIn w2 (some ⟨g2, 0, none⟩) ns from fun i hi => ⟨g2, 0, rfl, h2, by rw [Nat.zero_add]; exact (c2 i hi).1⟩); have m2 := Lib.hid m2; have n2 := Lib.hid n2; have o2 := Lib.hid o2; clear c2)
    | (go_at_call 12; have bs2 := b2.out.setCell (p := ⟨w.heap.size + 1 + 1, 2, none⟩) (by show w.heap.size ≤ w.heap.size + 1 + 1; omega) (.slice (some ⟨g2, 0, none⟩) ns.length ns.length); refine (TC.out _ (intsIn_below C1.out bs2)).mono ?_; rintro e w3 ⟨v3, rfl, ⟨g3, rfl, a3, h3, c3⟩, hB⟩; have b3 := Lib.hid (bs2.trans (Below.mono hB bs2.size)); have m3 := Ab.block hB (other_block (j := 2) (v := .slice (some ⟨g2, 0, none⟩) ns.length ns.length) (g := w.heap.size + 1 + 1) (by omega) m2.out); have n3 := Ab.block hB (other_block (j := 2) (v := .slice (some ⟨g2, 0, none⟩) ns.length ns.length) (g := w.heap.size + 1 + 1) (by omega) n2.out); have o3 := Ab.block hB (block_setCell (j := 2) (.slice (some ⟨g2, 0, none⟩) ns.length ns.length) o2.out); have I1 := Lib.hid (intsIn_below (intsIn_set (G := w.heap.size + 1 + 1) (j := 2) (v := .slice (some ⟨g2, 0, none⟩) ns.length ns.length) I1.out (ne_at (by simp at a1; omega))) hB); have I2 := Lib.hid (i16sIn_below (i16sIn_set (G := w.heap.size + 1 + 1) (j := 2) (v := .slice (some ⟨g2, 0, none⟩) ns.length ns.length) I2.out (ne_at (by simp at a2; omega))) hB); have d3 : w.heap.size + 1 + 1 < g3 := (by simp at a3; omega); clear hB k2 l2 f2 y2 z2 bs2; have k3 := cell_of_block m3; have l3 := cell_of_block o3; have f3 := free_of_block o3; have y3 := lt_of_block m3; have z3 := lt_of_block o3; have r3 := cell_of_block n3; have s3 := free_of_block n3; have I3 := Lib.hid (show IntsIn w3 (some ⟨g3, 0, none⟩) cs from fun i hi => ⟨g3, 0, rfl, h3, by rw [Nat.zero_add]; exact (c3 i hi).1⟩); have m3 := Lib.hid m3; have n3 := Lib.hid n3; have o3 := Lib.hid o3; clear c3))
  refine bodyPost_ret (by simp [results, Tryd.results40, go_sem, r3]; try rfl) rfl ?_
  exact ⟨g1, g2, g3, rfl, by omega, by omega, by omega, intsIn_set (intsIn_set (intsIn_set (intsIn_set (intsIn_set (I1.out) (ne_at (by omega))) (ne_at (by omega))) (ne_at (by omega))) (ne_at (by omega))) (ne_at (by omega)), i16sIn_set (i16sIn_set (i16sIn_set (i16sIn_set (i16sIn_set (I2.out) (ne_at (by omega))) (ne_at (by omega))) (ne_at (by omega))) (ne_at (by omega))) (ne_at (by omega)), intsIn_set (intsIn_set (intsIn_set (intsIn_set (intsIn_set (I3.out) (ne_at (by omega))) (ne_at (by omega))) (ne_at (by omega))) (ne_at (by omega))) (ne_at (by omega)), by have := b3.out; ((repeat' (first | (with_reducible exact Below.refl _ _) | (with_reducible assumption) | (with_reducible refine below_drewN ?_ _) | (with_reducible refine Below.drew ?_) | (with_reducible refine below_new ?_ _) | (with_reducible refine below_next ?_ (by with_reducible assumption)) | (with_reducible refine Below.setCell ?_ ?_ _) | go_size)); done)⟩
end Go.Proofs.YtppjmngnjdeigaaDoor
