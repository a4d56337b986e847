/- The closure of MergeEntries: its first statement, in whatever order it is carried out. -/
import Derived.Test.YtcbcggnpbjcdfabDoorMrgS
import Derived.Test.YtcbcggnpbjcdfabDoorLeadsI
import Derived.Test.YtcbcggnpbjcdfabDoorAnyO
namespace Go.Proofs.YtcbcggnpbjcdfabDoor
open Go.ChangeShapes Go.WideShapes Go.ChangeAt Go.RowKit

/-- What has been carried out of 'from, to := c.entry(i), c.entry(k)': l tells which operations. -/
def MI (SL : Value) (g1 g2 : Nat) (i k : Int) (E1 E2 : Array Value) (w : World) (l : Array Bool) (a : Act) (w' : World) : Prop :=
  ∃ (p q : Nat) (v6 v7 v8 v9 v10 v11 v12 v13 : Value), a = { tmps := #[SL, .pointer (some ⟨g1, 0, none⟩), .pointer (some ⟨g2, 0, none⟩), undef, .slice none 0 0, .int .i64 0, v6, v7, v8, v9, v10, v11, v12, v13, undef, undef, undef, undef, undef, undef, undef, undef, undef, undef, undef, undef, undef, undef, undef, undef, undef, undef], defers := [] } ∧ l.size = 10 ∧
    (l[0]?.getD false = true → v8 = SL) ∧ (l[1]?.getD false = true → v9 = .int .i64 i) ∧ (l[2]?.getD false = true → v10 = .agg E1) ∧ (l[3]?.getD false = true → v11 = SL) ∧ (l[4]?.getD false = true → v12 = .int .i64 k) ∧ (l[5]?.getD false = true → v13 = .agg E2) ∧
    (l[6]?.getD false = true → v6 = .pointer (some ⟨p, 0, none⟩) ∧ w.heap.size ≤ p ∧ w'.heap[p]? = some (.cells (if l[8]?.getD false then E1 else #[.string ByteArray.empty, .int .i64 0, .int .i64 0]) 63)) ∧
    (l[7]?.getD false = true → v7 = .pointer (some ⟨q, 0, none⟩) ∧ w.heap.size ≤ q ∧ w'.heap[q]? = some (.cells (if l[9]?.getD false then E2 else #[.string ByteArray.empty, .int .i64 0, .int .i64 0]) 63)) ∧
    (l[6]?.getD false = true → l[7]?.getD false = true → p ≠ q) ∧ (l[8]?.getD false = true → l[6]?.getD false = true) ∧ (l[9]?.getD false = true → l[7]?.getD false = true) ∧ Below w.heap.size w w'
theorem fl {l : Array Bool} (hs : l.size = 10) (i j : Nat) (hj : j < 10) : (l.setIfInBounds i true)[j]?.getD false = (decide (i = j) || l[j]?.getD false) := by
  rw [Array.getElem?_setIfInBounds]
  by_cases e : i = j
  · subst e; simp [hs, hj]
  · simp [e]
theorem wpOp_of {P : Program} {ops : Array Oper} {Q : Exit → Act → World → Prop} {i : Nat} {K : Act → World → Prop} {a : Act} {w : World} {o : Oper} (h : ops[i]? = some o) (hg : o.guard = none) (hw : o.wp P a w K Q) : wpOp P ops Q i K a w := by
  unfold wpOp; rw [h]; simp only; rw [if_pos (by simp [Region.wanted, hg])]; exact .inl hw
theorem off10 {l : Array Bool} {j : Nat} (h : l.getD j true = false) : l[j]?.getD false = false := by
  unfold Array.getD at h; split at h
  · next q => simp [q]; exact h
  · cases h
theorem ready_none {md : Region.Mode} {ops : Array Oper} {l : Array Bool} (hr : Region.ready md ops l = []) {j : Nat} {o : Oper} (ho : ops[j]? = some o) (hj : j < l.size) (hd : ∀ e ∈ o.after, Region.binds md e = true → l.getD e.on false = true) : l[j]?.getD false = true := by
  cases e : l[j]
  · have : j ∈ Region.ready md ops l := mem_ready.2 ⟨by simp [Array.getD, hj, e], o, ho, hd⟩
    rw [hr] at this; cases this
  · simp [hj, e]
theorem bdrewM {B : Nat} {w W : World} (h : Below B w W) : Below B w { W with drawn := W.drawn + 1 } := h.trans ⟨rfl, rfl, rfl, Nat.le_refl _, fun _ _ => rfl⟩
set_option maxRecDepth 100000 in
set_option maxHeartbeats 3200000 in
theorem merge1_ok (ad : Option Addr) (cs : List Et) (c i k : Nat) (hi : i < cs.length) (hk : k < cs.length) (hz : catOk cs = true) (g1 g2 : Nat) (zs : List Et) (cd : Int) (hyes : meNo cs i k = true → zs = [] ∧ cd = 4) (hnot : meNo cs i k = false → zs = mgL cs i k ∧ cd = 0) (w : World) (hc : EntsIn w ad cs) (hg1 : w.cell? ⟨g1, 0, none⟩ = some (.int .i64 i)) (hg2 : w.cell? ⟨g2, 0, none⟩ = some (.int .i64 k)) :
    Calls Tryd.prog 71 #[.slice ad cs.length c, .pointer (some ⟨g1, 0, none⟩), .pointer (some ⟨g2, 0, none⟩)] w (EEL zs cd w) := by
  have hn := (cat_parts hz).1
  have gl1 := cell_lt hg1
  have gl2 := cell_lt hg2
  have C := Lib.hid hc
  have EN1 := fun W h => entry_any ad cs c i hi W h (by omega)
  have EN2 := fun W h => entry_any ad cs c k hk W h (by omega)
  unfold etVal at EN1 EN2
  have EN1 := Lib.hid EN1
  have EN2 := Lib.hid EN2
  have KE := Lib.hid fun W (h : Below w.heap.size w W) => (show W.cell? ⟨g1, 0, none⟩ = some (.int .i64 i) ∧ W.cell? ⟨g2, 0, none⟩ = some (.int .i64 k) from ⟨(h.cell (p := ⟨g1, 0, none⟩) gl1).trans hg1, (h.cell (p := ⟨g2, 0, none⟩) gl2).trans hg2⟩)
  have LT := fun W h => leadsTo_any ad cs c k hk (i : Int) hz W h
  have MG := Lib.hid fun (hne : (k : Int) ≠ (i : Int)) W h => merged_any ad cs c i hi (k : Int) hne hn W h
  have KNE := Lib.hid fun (h : meNo cs i k = false) => (show (k : Int) ≠ (i : Int) from fun e => by
    obtain ⟨h1, h2, h3⟩ := me_parts hi hk h
    have hp := pref_iff.1 h2
    have := end_of hz hk
    unfold firstE at this
    rw [if_pos (by simpa using hp.2)] at this
    rw [leads_yes (m := 0) (plen_lt this (by unfold up; omega)) (by unfold up; exact e)] at h3
    cases h3)
  have hNO : meNo cs i k = (((etAt cs i).a != -1 || (etAt cs k).a != -1) || leads cs (firstE cs k) i) := rfl
  clear hc hz
  generalize etAt cs i = xi at *
  obtain ⟨s, a, b⟩ := xi
  generalize etAt cs k = xk at *
  obtain ⟨s', a', b'⟩ := xk
  simp only at EN1 EN2 hNO
  go_enter Tryd.func71, Tryd.ntmps71
  go_wp2_with fail
  refine wp_region_any (by kernel_rfl) (wpAny_inv (MI (.slice ad cs.length c) g1 g2 i k #[.string s, .int .i64 a, .int .i64 b] #[.string s', .int .i64 a', .int .i64 b'] w) ?done ?step (fun _ _ _ _ _ => wpOp_mono) _ _ _ _ ?start (by decide))
  case start => exact ⟨0, 0, _, _, _, _, _, _, _, _, rfl, rfl, by simp, by simp, by simp, by simp, by simp, by simp, by simp, by simp, by simp, by simp, by simp, bdrewM (Below.refl _ _)⟩
  case step =>
    rintro l _ w' n ⟨p, q, v6, v7, v8, v9, v10, v11, v12, v13, rfl, hs, h0, h1, h2, h3, h4, h5, h6, h7, hpq, h86, h97, hB⟩ hn
    obtain ⟨hun, o, ho, hd⟩ := mem_ready.1 hn
    have hn10 : n < 10 := by have := (Array.getElem?_eq_some_iff.1 ho).1; simpa using this
    obtain ⟨m1, m2⟩ := KE.out w' hB
    match n, hn10 with
    | 0, _ =>
      simp at ho; subst ho
      refine wpOp_of rfl rfl ?_
      unfold Oper.wp
      go_simp
      exact ⟨p, q, v6, v7, (.slice ad cs.length c), v9, v10, v11, v12, v13, rfl, by simpa using hs, fun _ => rfl, by simpa [fl hs] using h1, by simpa [fl hs] using h2, by simpa [fl hs] using h3, by simpa [fl hs] using h4, by simpa [fl hs] using h5, by simpa [fl hs] using h6, by simpa [fl hs] using h7, by simpa [fl hs] using hpq, by simpa [fl hs] using h86, by simpa [fl hs] using h97, hB⟩
    | 1, _ =>
      simp at ho; subst ho
      refine wpOp_of rfl rfl ?_
      unfold Oper.wp
      go_simp
      exact ⟨p, q, v6, v7, v8, (.int .i64 i), v10, v11, v12, v13, rfl, by simpa using hs, by simpa [fl hs] using h0, fun _ => rfl, by simpa [fl hs] using h2, by simpa [fl hs] using h3, by simpa [fl hs] using h4, by simpa [fl hs] using h5, by simpa [fl hs] using h6, by simpa [fl hs] using h7, by simpa [fl hs] using hpq, by simpa [fl hs] using h86, by simpa [fl hs] using h97, hB⟩
    | 2, _ =>
      simp at ho; subst ho
      simp [Region.binds] at hd
      have e1 := h0 hd.1
      have e2 := h1 hd.2
      subst e1 e2
      refine wpOp_of rfl rfl ?_
      unfold Oper.wp
      go_simp
      go_at_call 64
      refine Calls.mono (EN1.out w' (entsIn_below C.out hB)) ?_
      rintro e w2 ⟨rfl, hB2⟩
      exact ⟨p, q, v6, v7, (.slice ad cs.length c), (.int .i64 i), (.agg #[.string s, .int .i64 a, .int .i64 b]), v11, v12, v13, rfl, by simpa using hs, fun _ => rfl, fun _ => rfl, fun _ => rfl, by simpa [fl hs] using h3, by simpa [fl hs] using h4, by simpa [fl hs] using h5, fun h => by have h := h6 (by simpa [fl hs] using h); exact ⟨h.1, h.2.1, by simpa [fl hs] using (hB2.block _ (lt_of_block h.2.2)).trans h.2.2⟩, fun h => by have h := h7 (by simpa [fl hs] using h); exact ⟨h.1, h.2.1, by simpa [fl hs] using (hB2.block _ (lt_of_block h.2.2)).trans h.2.2⟩, by simpa [fl hs] using hpq, by simpa [fl hs] using h86, by simpa [fl hs] using h97, hB.trans (hB2.mono hB.size)⟩
    | 3, _ =>
      simp at ho; subst ho
      refine wpOp_of rfl rfl ?_
      unfold Oper.wp
      go_simp
      exact ⟨p, q, v6, v7, v8, v9, v10, (.slice ad cs.length c), v12, v13, rfl, by simpa using hs, by simpa [fl hs] using h0, by simpa [fl hs] using h1, by simpa [fl hs] using h2, fun _ => rfl, by simpa [fl hs] using h4, by simpa [fl hs] using h5, by simpa [fl hs] using h6, by simpa [fl hs] using h7, by simpa [fl hs] using hpq, by simpa [fl hs] using h86, by simpa [fl hs] using h97, hB⟩
    | 4, _ =>
      simp at ho; subst ho
      refine wpOp_of rfl rfl ?_
      unfold Oper.wp
      go_simp
      exact ⟨p, q, v6, v7, v8, v9, v10, v11, (.int .i64 k), v13, rfl, by simpa using hs, by simpa [fl hs] using h0, by simpa [fl hs] using h1, by simpa [fl hs] using h2, by simpa [fl hs] using h3, fun _ => rfl, by simpa [fl hs] using h5, by simpa [fl hs] using h6, by simpa [fl hs] using h7, by simpa [fl hs] using hpq, by simpa [fl hs] using h86, by simpa [fl hs] using h97, hB⟩
    | 5, _ =>
      simp at ho; subst ho
      simp [Region.binds] at hd
      have e1 := h3 hd.1
      have e2 := h4 hd.2.1
      subst e1 e2
      refine wpOp_of rfl rfl ?_
      unfold Oper.wp
      go_simp
      go_at_call 64
      refine Calls.mono (EN2.out w' (entsIn_below C.out hB)) ?_
      rintro e w2 ⟨rfl, hB2⟩
      exact ⟨p, q, v6, v7, v8, v9, v10, (.slice ad cs.length c), (.int .i64 k), (.agg #[.string s', .int .i64 a', .int .i64 b']), rfl, by simpa using hs, by simpa [fl hs] using h0, by simpa [fl hs] using h1, by simpa [fl hs] using h2, fun _ => rfl, fun _ => rfl, fun _ => rfl, fun h => by have h := h6 (by simpa [fl hs] using h); exact ⟨h.1, h.2.1, by simpa [fl hs] using (hB2.block _ (lt_of_block h.2.2)).trans h.2.2⟩, fun h => by have h := h7 (by simpa [fl hs] using h); exact ⟨h.1, h.2.1, by simpa [fl hs] using (hB2.block _ (lt_of_block h.2.2)).trans h.2.2⟩, by simpa [fl hs] using hpq, by simpa [fl hs] using h86, by simpa [fl hs] using h97, hB.trans (hB2.mono hB.size)⟩
    | 6, _ =>
      simp at ho; subst ho
      have off := off10 hun
      have o8 : l[8]?.getD false = false := by cases e : l[8]?.getD false; rfl; rw [h86 e] at off; cases off
      refine wpOp_of rfl rfl ?_
      unfold Oper.wp
      go_simp
      exact ⟨w'.heap.size, q, (.pointer (some ⟨w'.heap.size, 0, none⟩)), v7, v8, v9, v10, v11, v12, v13, rfl, by simpa using hs, by simpa [fl hs] using h0, by simpa [fl hs] using h1, by simpa [fl hs] using h2, by simpa [fl hs] using h3, by simpa [fl hs] using h4, by simpa [fl hs] using h5, fun _ => ⟨rfl, hB.size, by rw [fl hs 6 8 (by decide), o8, if_neg (by decide)]; exact World.alloc_heap_new w' _⟩, fun h => by have h := h7 (by simpa [fl hs] using h); exact ⟨h.1, h.2.1, by simpa [fl hs] using (Below.heap_alloc _ _ _ (lt_of_block h.2.2)).trans h.2.2⟩, fun _ h e => by have h := h7 (by simpa [fl hs] using h); have := lt_of_block h.2.2; omega, fun _ => by simp [fl hs], by simpa [fl hs] using h97, below_new hB _⟩
    | 7, _ =>
      simp at ho; subst ho
      have off := off10 hun
      have o9 : l[9]?.getD false = false := by cases e : l[9]?.getD false; rfl; rw [h97 e] at off; cases off
      refine wpOp_of rfl rfl ?_
      unfold Oper.wp
      go_simp
      exact ⟨p, w'.heap.size, v6, (.pointer (some ⟨w'.heap.size, 0, none⟩)), v8, v9, v10, v11, v12, v13, rfl, by simpa using hs, by simpa [fl hs] using h0, by simpa [fl hs] using h1, by simpa [fl hs] using h2, by simpa [fl hs] using h3, by simpa [fl hs] using h4, by simpa [fl hs] using h5, fun h => by have h := h6 (by simpa [fl hs] using h); exact ⟨h.1, h.2.1, by simpa [fl hs] using (Below.heap_alloc _ _ _ (lt_of_block h.2.2)).trans h.2.2⟩, fun _ => ⟨rfl, hB.size, by rw [fl hs 7 9 (by decide), o9, if_neg (by decide)]; exact World.alloc_heap_new w' _⟩, fun h _ e => by have h := h6 (by simpa [fl hs] using h); have := lt_of_block h.2.2; omega, by simpa [fl hs] using h86, fun _ => by simp [fl hs], below_new hB _⟩
    | 8, _ =>
      simp at ho; subst ho
      simp [Region.binds] at hd
      have off := off10 hun
      obtain ⟨e6, hp, hb⟩ := h6 hd.1
      have e10 := h2 hd.2.1
      subst e6 e10
      rw [off] at hb
      simp only [Bool.false_eq_true, if_false] at hb
      have x0 : w'.cell? ⟨p, 0, none⟩ = some (.string ByteArray.empty) := cell_of_block hb 0
      have x1 : w'.cell? ⟨p, 1, none⟩ = some (.int .i64 0) := cell_of_block hb 1
      have x2 : w'.cell? ⟨p, 2, none⟩ = some (.int .i64 0) := cell_of_block hb 2
      have xf := free_of_block hb
      have nb := block_setCell (j := 2) (.int .i64 b) (block_setCell (j := 1) (.int .i64 a) (block_setCell (j := 0) (.string s) hb))
      refine wpOp_of rfl rfl ?_
      unfold Oper.wp
      go_simp
      exact ⟨p, q, (.pointer (some ⟨p, 0, none⟩)), v7, v8, v9, (.agg #[(.string s), (.int .i64 a), (.int .i64 b)]), v11, v12, v13, rfl, by simpa using hs, by simpa [fl hs] using h0, by simpa [fl hs] using h1, fun _ => rfl, by simpa [fl hs] using h3, by simpa [fl hs] using h4, by simpa [fl hs] using h5, fun _ => ⟨rfl, hp, by simpa [fl hs] using nb⟩, fun hx => by have hl : l[7]?.getD false = true := (by simpa [fl hs] using hx); have h := h7 hl; have hne := hpq hd.1 hl; exact ⟨h.1, h.2.1, by simpa [fl hs] using (Below.heap_setCell _ _ _ _ (by simp; omega)).trans ((Below.heap_setCell _ _ _ _ (by simp; omega)).trans ((Below.heap_setCell _ _ _ _ (by simp; omega)).trans h.2.2))⟩, by simpa [fl hs] using hpq, fun _ => by simpa [fl hs] using hd.1, by simpa [fl hs] using h97, ((hB.setCell (p := ⟨p, 0, none⟩) hp _).setCell (p := ⟨p, 1, none⟩) hp _).setCell (p := ⟨p, 2, none⟩) hp _⟩
    | 9, _ =>
      simp at ho; subst ho
      simp [Region.binds] at hd
      have off := off10 hun
      obtain ⟨e6, hp, hb⟩ := h7 hd.1
      have e10 := h5 hd.2.1
      subst e6 e10
      rw [off] at hb
      simp only [Bool.false_eq_true, if_false] at hb
      have x0 : w'.cell? ⟨q, 0, none⟩ = some (.string ByteArray.empty) := cell_of_block hb 0
      have x1 : w'.cell? ⟨q, 1, none⟩ = some (.int .i64 0) := cell_of_block hb 1
      have x2 : w'.cell? ⟨q, 2, none⟩ = some (.int .i64 0) := cell_of_block hb 2
      have xf := free_of_block hb
      have nb := block_setCell (j := 2) (.int .i64 b') (block_setCell (j := 1) (.int .i64 a') (block_setCell (j := 0) (.string s') hb))
      refine wpOp_of rfl rfl ?_
      unfold Oper.wp
      go_simp
      exact ⟨p, q, v6, (.pointer (some ⟨q, 0, none⟩)), v8, v9, v10, v11, v12, (.agg #[(.string s'), (.int .i64 a'), (.int .i64 b')]), rfl, by simpa using hs, by simpa [fl hs] using h0, by simpa [fl hs] using h1, by simpa [fl hs] using h2, by simpa [fl hs] using h3, by simpa [fl hs] using h4, fun _ => rfl, fun hx => by have hl : l[6]?.getD false = true := (by simpa [fl hs] using hx); have h := h6 hl; have hne := hpq hl hd.1; exact ⟨h.1, h.2.1, by simpa [fl hs] using (Below.heap_setCell _ _ _ _ (by simp; omega)).trans ((Below.heap_setCell _ _ _ _ (by simp; omega)).trans ((Below.heap_setCell _ _ _ _ (by simp; omega)).trans h.2.2))⟩, fun _ => ⟨rfl, hp, by simpa [fl hs] using nb⟩, by simpa [fl hs] using hpq, by simpa [fl hs] using h86, fun _ => by simpa [fl hs] using hd.1, ((hB.setCell (p := ⟨q, 0, none⟩) hp _).setCell (p := ⟨q, 1, none⟩) hp _).setCell (p := ⟨q, 2, none⟩) hp _⟩
  case done =>
    rintro l _ w' ⟨p, q, v6, v7, v8, v9, v10, v11, v12, v13, rfl, hs, h0, h1, h2, h3, h4, h5, h6, h7, hpq, h86, h97, hB⟩ hr
    have a0 : l[0]?.getD false = true := ready_none hr (j := 0) rfl (by omega) (by simp [Region.binds])
    have a1 : l[1]?.getD false = true := ready_none hr (j := 1) rfl (by omega) (by simp [Region.binds, a0])
    have a2 : l[2]?.getD false = true := ready_none hr (j := 2) rfl (by omega) (by simp [Region.binds, a0, a1])
    have a3 : l[3]?.getD false = true := ready_none hr (j := 3) rfl (by omega) (by simp [Region.binds, a0, a1, a2])
    have a4 : l[4]?.getD false = true := ready_none hr (j := 4) rfl (by omega) (by simp [Region.binds, a0, a1, a2, a3])
    have a5 : l[5]?.getD false = true := ready_none hr (j := 5) rfl (by omega) (by simp [Region.binds, a0, a1, a2, a3, a4])
    have a6 : l[6]?.getD false = true := ready_none hr (j := 6) rfl (by omega) (by simp [Region.binds, a0, a1, a2, a3, a4, a5])
    have a7 : l[7]?.getD false = true := ready_none hr (j := 7) rfl (by omega) (by simp [Region.binds, a0, a1, a2, a3, a4, a5, a6])
    have a8 : l[8]?.getD false = true := ready_none hr (j := 8) rfl (by omega) (by simp [Region.binds, a0, a1, a2, a3, a4, a5, a6, a7])
    have a9 : l[9]?.getD false = true := ready_none hr (j := 9) rfl (by omega) (by simp [Region.binds, a0, a1, a2, a3, a4, a5, a6, a7, a8])
    have e0 := h0 a0
    have e1 := h1 a1
    have e2 := h2 a2
    have e3 := h3 a3
    have e4 := h4 a4
    have e5 := h5 a5
    obtain ⟨e6, hp, bp⟩ := h6 a6
    obtain ⟨e7, hq, bq⟩ := h7 a7
    rw [a8, if_pos rfl] at bp
    rw [a9, if_pos rfl] at bq
    have hne := hpq a6 a7
    subst e0 e1 e2 e3 e4 e5 e6 e7
    clear hr h0 h1 h2 h3 h4 h5 h6 h7 hpq h86 h97 a0 a1 a2 a3 a4 a5 a6 a7 a8 a9
    have p0 : w'.cell? ⟨p, 0, none⟩ = some (.string s) := cell_of_block bp 0
    have p1 : w'.cell? ⟨p, 1, none⟩ = some (.int .i64 a) := cell_of_block bp 1
    have p2 : w'.cell? ⟨p, 2, none⟩ = some (.int .i64 b) := cell_of_block bp 2
    have q0 : w'.cell? ⟨q, 0, none⟩ = some (.string s') := cell_of_block bq 0
    have q1 : w'.cell? ⟨q, 1, none⟩ = some (.int .i64 a') := cell_of_block bq 1
    have q2 : w'.cell? ⟨q, 2, none⟩ = some (.int .i64 b') := cell_of_block bq 2
    have tk : True := trivial
    have K1 := fun W => isPref_any s a b W
    have K2 := fun W => isPref_any s' a' b' W
    generalize leads cs (firstE cs k) i = ld at *
    cases r1 : (a == -1)
    · rw [r1] at K1
      have K1 := Lib.hid K1
      obtain ⟨rfl, rfl⟩ := hyes (by rw [hNO, bne, r1]; rfl)
      clear r1 hyes hnot hNO K2 MG LT
      go_wp2_with (go_at_call 72; have _t := tk; clear _t tk; refine (K1.out _).mono ?_; rintro e w1 ⟨rfl, hB1⟩; have b1 := Lib.hid (hB.trans (hB1.mono hB.size)); have z0 := (hB1.cell (p := ⟨q, 0, none⟩) (lt_of_block bq)).trans q0; have z1 := (hB1.cell (p := ⟨q, 1, none⟩) (lt_of_block bq)).trans q1; have z2 := (hB1.cell (p := ⟨q, 2, none⟩) (lt_of_block bq)).trans q2; clear hB1)
      go_ret2
      exact ⟨_, rfl, ownE_nil _ _, b1.out⟩
    · rw [r1] at K1
      have K1 := Lib.hid K1
      cases r2 : (a' == -1)
      · rw [r2] at K2
        have K2 := Lib.hid K2
        obtain ⟨rfl, rfl⟩ := hyes (by rw [hNO, bne, bne, r1, r2]; rfl)
        clear r1 r2 hyes hnot hNO MG LT
        go_wp2_with (first
          | (go_at_call 72; have _t := tk; clear _t tk; refine (K1.out _).mono ?_; rintro e w1 ⟨rfl, hB1⟩; have b1 := Lib.hid (hB.trans (hB1.mono hB.size)); have z0 := (hB1.cell (p := ⟨q, 0, none⟩) (lt_of_block bq)).trans q0; have z1 := (hB1.cell (p := ⟨q, 1, none⟩) (lt_of_block bq)).trans q1; have z2 := (hB1.cell (p := ⟨q, 2, none⟩) (lt_of_block bq)).trans q2; clear hB1)
          | (go_at_call 72; refine (K2.out _).mono ?_; rintro e w2 ⟨rfl, hB1⟩; have b2 := Lib.hid (b1.out.trans (hB1.mono b1.out.size)); obtain ⟨y1, y2⟩ := KE.out w2 b2.out; clear hB1))
        go_ret2
        exact ⟨_, rfl, ownE_nil _ _, b2.out⟩
      · rw [r2] at K2
        have K2 := Lib.hid K2
        cases ld
        · have no : meNo cs i k = false := by rw [hNO, bne, bne, r1, r2]; rfl
          obtain ⟨rfl, rfl⟩ := hnot no
          have MG := Lib.hid (MG.out (KNE.out no))
          have LT := Lib.hid LT
          clear r1 r2 hyes hnot hNO no
          go_wp2_with (first
            | (go_at_call 72; have _t := tk; clear _t tk; refine (K1.out _).mono ?_; rintro e w1 ⟨rfl, hB1⟩; have b1 := Lib.hid (hB.trans (hB1.mono hB.size)); have z0 := (hB1.cell (p := ⟨q, 0, none⟩) (lt_of_block bq)).trans q0; have z1 := (hB1.cell (p := ⟨q, 1, none⟩) (lt_of_block bq)).trans q1; have z2 := (hB1.cell (p := ⟨q, 2, none⟩) (lt_of_block bq)).trans q2; clear hB1)
            | (go_at_call 72; refine (K2.out _).mono ?_; rintro e w2 ⟨rfl, hB1⟩; have b2 := Lib.hid (b1.out.trans (hB1.mono b1.out.size)); obtain ⟨y1, y2⟩ := KE.out w2 b2.out; clear hB1)
            | (go_at_call 73; refine (LT.out _ (entsIn_below C.out b2.out)).mono ?_; rintro e w3 ⟨rfl, hB1⟩; have b3 := Lib.hid (b2.out.trans (hB1.mono b2.out.size)); obtain ⟨y3, y4⟩ := KE.out w3 b3.out; clear hB1)
            | (go_at_call 74; refine (MG.out _ (entsIn_below C.out b3.out)).mono ?_; rintro e w4 ⟨v, rfl, hO, hB1⟩; have O4 := Lib.hid (ownEnts_weaken hO b3.out.size); have b4 := Lib.hid (b3.out.trans (hB1.mono b3.out.size)); clear hB1 hO))
          go_ret2
          exact ⟨_, rfl, O4.out, b4.out⟩
        · obtain ⟨rfl, rfl⟩ := hyes (by rw [hNO]; simp)
          have LT := Lib.hid LT
          clear r1 r2 hyes hnot hNO MG
          go_wp2_with (first
            | (go_at_call 72; have _t := tk; clear _t tk; refine (K1.out _).mono ?_; rintro e w1 ⟨rfl, hB1⟩; have b1 := Lib.hid (hB.trans (hB1.mono hB.size)); have z0 := (hB1.cell (p := ⟨q, 0, none⟩) (lt_of_block bq)).trans q0; have z1 := (hB1.cell (p := ⟨q, 1, none⟩) (lt_of_block bq)).trans q1; have z2 := (hB1.cell (p := ⟨q, 2, none⟩) (lt_of_block bq)).trans q2; clear hB1)
            | (go_at_call 72; refine (K2.out _).mono ?_; rintro e w2 ⟨rfl, hB1⟩; have b2 := Lib.hid (b1.out.trans (hB1.mono b1.out.size)); obtain ⟨y1, y2⟩ := KE.out w2 b2.out; clear hB1)
            | (go_at_call 73; refine (LT.out _ (entsIn_below C.out b2.out)).mono ?_; rintro e w3 ⟨rfl, hB1⟩; have b3 := Lib.hid (b2.out.trans (hB1.mono b2.out.size)); obtain ⟨y3, y4⟩ := KE.out w3 b3.out; clear hB1))
          go_ret2
          exact ⟨_, rfl, ownE_nil _ _, b3.out⟩
end Go.Proofs.YtcbcggnpbjcdfabDoor
