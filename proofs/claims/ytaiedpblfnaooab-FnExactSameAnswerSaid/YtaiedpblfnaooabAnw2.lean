/- Answers with witnesses: carried over, compared. -/
import Derived.Test.YtaiedpblfnaooabAnw
import Derived.Test.YtaiedpblfnaooabFloat
namespace Go.Proofs.Ytaiedpblfnaooab
open Go.ChangeShapes Go.WideShapes Go.ChangeAt Go.RowKit

/-- A new answer that says the same. -/
def ToA (x : Aw) (w : World) (e : Ending) (w' : World) : Prop := ∃ ai aw, e = .returned (.agg #[.int .u64 x.a, .int .u64 x.b, .int .u64 x.c, .int .u64 x.d, .slice ai x.zs.length x.zs.length, .slice aw x.ws.length x.ws.length]) ∧ IntsIn w' ai x.zs ∧ WitsIn w' aw x.ws ∧ Below w.heap.size w w'

/-- The boxes of toAnswer: what came in, what goes out, what is made. -/
def TA (w V : World) (A C : Array Value) : Prop := V.heap[w.heap.size]? = some (.cells A 94 (0, 0)) ∧ V.heap[w.heap.size + 1]? = some (.cells #[.int .u64 0, .int .u64 0, .int .u64 0, .int .u64 0, .slice none 0 0, .slice none 0 0] 85 (0, 0)) ∧ V.heap[w.heap.size + 2]? = some (.cells C 85 (0, 0)) ∧ Below w.heap.size w V
theorem TA.ab {w V V' : World} {A C : Array Value} (h : TA w V A C) (k : Below V.heap.size V V') : TA w V' A C := ⟨Ab.block k h.1, Ab.block k h.2.1, Ab.block k h.2.2.1, h.2.2.2.trans (Below.mono k h.2.2.2.size)⟩
theorem TA.set {w V : World} {A C : Array Value} (h : TA w V A C) (j : Nat) (u : Value) : TA w (V.setCell ⟨w.heap.size + 2, j, none⟩ u) A (C.setIfInBounds j u) :=
  ⟨(Below.heap_setCell _ _ _ _ (by simp)).trans h.1, (Below.heap_setCell _ _ _ _ (by simp)).trans h.2.1, block_setCell _ h.2.2.1, h.2.2.2.setCell (by simp) _⟩
theorem intsIn_setA {w : World} {a : Option Addr} {zs : List Int} {G j : Nat} {v : Value} (h : IntsIn w a zs) (hne : ∀ b off, a = some ⟨b, off, none⟩ → G ≠ b) : IntsIn (w.setCell ⟨G, j, none⟩ v) a zs := fun i hi => by
  obtain ⟨b, off, ha, hlt, hc⟩ := h i hi
  exact ⟨b, off, ha, by rw [World.size_setCell]; exact hlt, (World.cell?_setCell_far w ⟨G, j, none⟩ ⟨b, off + i, none⟩ v (hne b off ha)).trans hc⟩
theorem witsIn_setA {w : World} {a : Option Addr} {zs : List Wt} {G j : Nat} {v : Value} (h : WitsIn w a zs) (hne : ∀ b off, a = some ⟨b, off, none⟩ → G ≠ b) : WitsIn (w.setCell ⟨G, j, none⟩ v) a zs := fun i hi => by
  obtain ⟨hf, b, off, ha, hlt, h0, h1⟩ := h i hi
  exact ⟨hf, b, off, ha, by rw [World.size_setCell]; exact hlt, (World.cell?_setCell_far w ⟨G, j, none⟩ ⟨b, off + i * 2, none⟩ v (hne b off ha)).trans h0, (World.cell?_setCell_far w ⟨G, j, none⟩ ⟨b, off + i * 2 + 1, none⟩ v (hne b off ha)).trans h1⟩
theorem ne_atA {g G : Nat} (h : G < g) : ∀ b off, (some ⟨g, 0, none⟩ : Option Addr) = some ⟨b, off, none⟩ → G ≠ b := fun b off e => by injection e with e; injection e with e1; omega
theorem newInts_A {B : Nat} {zs : List Int} {v : Value} {w : World} (h : NewInts B zs v w) : ∃ g, v = .slice (some ⟨g, 0, none⟩) zs.length zs.length ∧ B ≤ g ∧ IntsIn w (some ⟨g, 0, none⟩) zs := by
  obtain ⟨g, rfl, hb, hg, hc⟩ := h
  exact ⟨g, rfl, hb, fun i hi => ⟨g, 0, rfl, hg, by have := (hc i hi).1; simpa using this⟩⟩
theorem tA_start (w : World) (A : Array Value) : TA w (((w.alloc (.cells A 94)).alloc (.cells #[.int .u64 0, .int .u64 0, .int .u64 0, .int .u64 0, .slice none 0 0, .slice none 0 0] 85)).alloc (.cells #[.int .u64 0, .int .u64 0, .int .u64 0, .int .u64 0, .slice none 0 0, .slice none 0 0] 85)) A #[.int .u64 0, .int .u64 0, .int .u64 0, .int .u64 0, .slice none 0 0, .slice none 0 0] := by
  obtain ⟨h0, h1⟩ := block_alloc2 w (.cells A 94) (.cells #[.int .u64 0, .int .u64 0, .int .u64 0, .int .u64 0, .slice none 0 0, .slice none 0 0] 85)
  have k := below_new (Below.refl ((w.alloc (.cells A 94)).alloc (.cells #[.int .u64 0, .int .u64 0, .int .u64 0, .int .u64 0, .slice none 0 0, .slice none 0 0] 85)).heap.size ((w.alloc (.cells A 94)).alloc (.cells #[.int .u64 0, .int .u64 0, .int .u64 0, .int .u64 0, .slice none 0 0, .slice none 0 0] 85))) (.cells #[.int .u64 0, .int .u64 0, .int .u64 0, .int .u64 0, .slice none 0 0, .slice none 0 0] 85)
  refine ⟨Ab.block k h0, Ab.block k h1, ?_, below_new (below_new (below_new (Below.refl _ _) _) _) _⟩
  have := block_alloc ((w.alloc (.cells A 94)).alloc (.cells #[.int .u64 0, .int .u64 0, .int .u64 0, .int .u64 0, .slice none 0 0, .slice none 0 0] 85)) (.cells #[.int .u64 0, .int .u64 0, .int .u64 0, .int .u64 0, .slice none 0 0, .slice none 0 0] 85)
  simpa using this

set_option maxRecDepth 100000 in
set_option maxHeartbeats 1600000 in
theorem toAnswer_any (x : Aw) (ai : Option Addr) (ci : Nat) (aw : Option Addr) (cw : Nat) (w : World) (hi : IntsIn w ai x.zs) (hw : WitsIn w aw x.ws) (h1 : x.zs.length ≤ 1048576) (h2 : x.ws.length ≤ 1048576) :
    Calls Try.prog 61 #[.agg #[.int .u64 x.a, .int .u64 x.b, .int .u64 x.c, .int .u64 x.d, .slice ai x.zs.length ci, .slice aw x.ws.length cw]] w (ToA x w) := by
  obtain ⟨a, b, c, d, zs, ws⟩ := x
  simp only at hi hw h1 h2 ⊢
  have H := Lib.hid hi
  have G := Lib.hid hw
  clear hi hw
  have T1 := Lib.hid fun W hs => toInts_any ai zs ci W hs (by omega)
  have T2 := Lib.hid fun W hs => toWitnessS_any aw ws cw W hs h2
  have A0 := Lib.hid (tA_start w #[.int .u64 a, .int .u64 b, .int .u64 c, .int .u64 d, .slice ai zs.length ci, .slice aw ws.length cw])
  go_enter Try.func61, Try.ntmps61
  go_upto_region 3 with (go_at_call 54; refine (toQuery_any _ _ _ _ _).mono ?_; rintro e w1 ⟨rfl, hB⟩; have A1 := Lib.hid (TA.ab A0.out hB); have c2 := cell_of_block A1.out.2.2.1; have f2 := free_of_block A1.out.2.2.1; clear hB)
  have A2 := Lib.hid ((((A1.out.set 0 (.int .u64 a)).set 1 (.int .u64 b)).set 2 (.int .u64 c)).set 3 (.int .u64 d))
  clear c2 f2
  generalize (((w1.setCell ⟨w.heap.size + 2, 0, none⟩ (.int .u64 a)).setCell ⟨w.heap.size + 2, 1, none⟩ (.int .u64 b)).setCell ⟨w.heap.size + 2, 2, none⟩ (.int .u64 c)).setCell ⟨w.heap.size + 2, 3, none⟩ (.int .u64 d) = V2 at *
  have c0 := cell_of_block A2.out.1
  have z2 := lt_of_block A2.out.2.2.1
  have n2 : w.heap.size + 2 < V2.heap.size := z2
  go_upto_region 4 with (go_at_call 22; refine (T1.out _ (intsIn_below H.out A2.out.2.2.2)).mono ?_; rintro e w3 ⟨v, rfl, hv, hB⟩; obtain ⟨g3, rfl, q3, hi3⟩ := newInts_A hv; have A3 := Lib.hid (TA.ab A2.out hB); have I3 := Lib.hid hi3; have c2 := cell_of_block A3.out.2.2.1; have f2 := free_of_block A3.out.2.2.1; clear hB hv hi3 c0 z2)
  have d3 : w.heap.size + 2 < g3 := by omega
  have A4 := Lib.hid (A3.out.set 4 (.slice (some ⟨g3, 0, none⟩) zs.length zs.length))
  have I4 := Lib.hid (intsIn_setA (G := w.heap.size + 2) (j := 4) (v := .slice (some ⟨g3, 0, none⟩) zs.length zs.length) I3.out (ne_atA d3))
  clear c2 f2 q3 n2 I3 A3
  generalize w3.setCell ⟨w.heap.size + 2, 4, none⟩ (.slice (some ⟨g3, 0, none⟩) zs.length zs.length) = V4 at *
  have c0 := cell_of_block A4.out.1
  have n4 : w.heap.size + 2 < V4.heap.size := lt_of_block A4.out.2.2.1
  go_upto_region 5 with (go_at_call 112; refine (T2.out _ (witsIn_below G.out A4.out.2.2.2)).mono ?_; rintro e w5 ⟨v, rfl, ⟨g5, rfl, q5, _, hi5, _⟩, hB⟩; have A5 := Lib.hid (TA.ab A4.out hB); have I5 := Lib.hid (intsIn_below I4.out hB); have J5 := Lib.hid hi5; have c2 := cell_of_block A5.out.2.2.1; have f2 := free_of_block A5.out.2.2.1; clear hB hi5 c0)
  have d5 : w.heap.size + 2 < g5 := by omega
  have A6 := Lib.hid (A5.out.set 5 (.slice (some ⟨g5, 0, none⟩) ws.length ws.length))
  have I6 := Lib.hid (intsIn_setA (G := w.heap.size + 2) (j := 5) (v := .slice (some ⟨g5, 0, none⟩) ws.length ws.length) I5.out (ne_atA d3))
  have J6 := Lib.hid (witsIn_setA (G := w.heap.size + 2) (j := 5) (v := .slice (some ⟨g5, 0, none⟩) ws.length ws.length) J5.out (ne_atA d5))
  clear c2 f2 q5 n4 I5 J5 A5 I4 A4
  generalize w5.setCell ⟨w.heap.size + 2, 5, none⟩ (.slice (some ⟨g5, 0, none⟩) ws.length ws.length) = V6 at *
  have c2 := cell_of_block A6.out.2.2.1
  have c1 := cell_of_block A6.out.2.1
  have f1 := free_of_block A6.out.2.1
  have z1 := lt_of_block A6.out.2.1
  go_wp2
  have e3 : w.heap.size + 1 < g3 := by omega
  have e5 : w.heap.size + 1 < g5 := by omega
  refine bodyPost_ret (by simp [results, Try.results61, go_sem, c1]; try rfl) rfl ?_
  exact ⟨some ⟨g3, 0, none⟩, some ⟨g5, 0, none⟩, rfl, intsIn_setA (intsIn_setA (intsIn_setA (intsIn_setA (intsIn_setA (intsIn_setA (I6.out) (ne_atA e3)) (ne_atA e3)) (ne_atA e3)) (ne_atA e3)) (ne_atA e3)) (ne_atA e3), witsIn_setA (witsIn_setA (witsIn_setA (witsIn_setA (witsIn_setA (witsIn_setA (J6.out) (ne_atA e5)) (ne_atA e5)) (ne_atA e5)) (ne_atA e5)) (ne_atA e5)) (ne_atA e5), by have := A6.out.2.2.2; ((repeat' (first | (with_reducible exact Below.refl _ _) | (with_reducible assumption) | (with_reducible refine below_drewN ?_ _) | (with_reducible refine Below.drew ?_) | (with_reducible refine below_new ?_ _) | (with_reducible refine below_next ?_ (by with_reducible assumption)) | (with_reducible refine Below.setCell ?_ ?_ _) | go_size)); done)⟩

set_option maxRecDepth 100000 in
set_option maxHeartbeats 1600000 in
theorem eqAnswer_same (x : Aw) (ai : Option Addr) (ci : Nat) (aw : Option Addr) (cw : Nat) (bi : Option Addr) (di : Nat) (bw : Option Addr) (dw : Nat) (w : World) (hi : IntsIn w ai x.zs) (hw : WitsIn w aw x.ws) (ki : IntsIn w bi x.zs) (kw : WitsIn w bw x.ws) (h1 : x.zs.length ≤ 1048576) (h2 : x.ws.length ≤ 1048576) :
    Calls Try.prog 56 #[.agg #[.int .u64 x.a, .int .u64 x.b, .int .u64 x.c, .int .u64 x.d, .slice ai x.zs.length ci, .slice aw x.ws.length cw], .agg #[.int .u64 x.a, .int .u64 x.b, .int .u64 x.c, .int .u64 x.d, .slice bi x.zs.length di, .slice bw x.ws.length dw]] w fun e w' => e = .returned (.bool true) ∧ Below w.heap.size w w' := by
  obtain ⟨a, b, c, d, zs, ws⟩ := x
  simp only at hi hw ki kw h1 h2 ⊢
  have A := Lib.hid (And.intro hi (And.intro hw (And.intro ki kw)))
  have E1 := Lib.hid fun W p q => eqInts_same ai bi zs ci di W p q (by omega)
  have E2 := Lib.hid fun W p q => eqWitnessS_same aw bw ws cw dw W p q h2
  clear hi hw ki kw h1 h2
  have HB := Lib.hid (block_alloc2 w (.cells #[.int .u64 a, .int .u64 b, .int .u64 c, .int .u64 d, .slice ai zs.length ci, .slice aw ws.length cw] 85) (.cells #[.int .u64 a, .int .u64 b, .int .u64 c, .int .u64 d, .slice bi zs.length di, .slice bw ws.length dw] 85))
  have kk : Below w.heap.size w ((w.alloc (.cells #[.int .u64 a, .int .u64 b, .int .u64 c, .int .u64 d, .slice ai zs.length ci, .slice aw ws.length cw] 85)).alloc (.cells #[.int .u64 a, .int .u64 b, .int .u64 c, .int .u64 d, .slice bi zs.length di, .slice bw ws.length dw] 85)) := below_new (below_new (Below.refl _ _) _) _
  have KK := Lib.hid kk
  clear kk
  go_enter Try.func56, Try.ntmps56
  go_wp2_with (first
    | (go_at_call 105; refine (eqQuery_same _ _ _ _ _).mono ?_; rintro e w1 ⟨rfl, hB⟩; have k1 := Lib.hid (KK.out.trans (Below.mono hB KK.out.size)); have b10 := Lib.hid (Ab.block hB HB.out.1); have b11 := Lib.hid (Ab.block hB HB.out.2); have c0 := cell_of_block b10.out; have c1 := cell_of_block b11.out; clear hB)
    | (go_at_call 25; refine (E1.out _ (intsIn_below A.out.1 k1.out) (intsIn_below A.out.2.2.1 k1.out)).mono ?_; rintro e w2 ⟨rfl, hB⟩; have k2 := Lib.hid (k1.out.trans (Below.mono hB k1.out.size)); have b20 := Lib.hid (Ab.block hB b10.out); have b21 := Lib.hid (Ab.block hB b11.out); clear hB c0 c1; have c0 := cell_of_block b20.out; have c1 := cell_of_block b21.out)
    | (go_at_call 106; refine (E2.out _ (witsIn_below A.out.2.1 k2.out) (witsIn_below A.out.2.2.2 k2.out)).mono ?_; rintro e w3 ⟨rfl, hB⟩; have k3 := Lib.hid (k2.out.trans (Below.mono hB k2.out.size)); clear hB c0 c1))
  all_goals go_returns
  all_goals exact ⟨rfl, k3.out⟩
end Go.Proofs.Ytaiedpblfnaooab
