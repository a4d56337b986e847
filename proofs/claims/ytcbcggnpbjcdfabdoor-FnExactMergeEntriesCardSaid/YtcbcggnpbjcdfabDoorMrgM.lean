/- The closure of MergeEntries where an entry is none. -/
import Derived.Test.YtcbcggnpbjcdfabDoorMrgC
namespace Go.Proofs.YtcbcggnpbjcdfabDoor
open Go.ChangeShapes Go.WideShapes Go.ChangeAt Go.RowKit

set_option maxRecDepth 100000 in
set_option maxHeartbeats 3200000 in
theorem merge1_missI (ad : Option Addr) (cs : List Et) (c : Nat) (x : Int) (y : Int) (hx : hasX cs.length x = false) (g1 g2 : Nat) (w : World) (hc : EntsIn w ad cs) (hg1 : w.cell? ⟨g1, 0, none⟩ = some (.int .i64 x)) (hg2 : w.cell? ⟨g2, 0, none⟩ = some (.int .i64 y)) :
    Calls Tryd.prog 71 #[.slice ad cs.length c, .pointer (some ⟨g1, 0, none⟩), .pointer (some ⟨g2, 0, none⟩)] w fun e w' => e = Missing x ∧ Below w.heap.size w w' := by
  have gl1 := cell_lt hg1
  have gl2 := cell_lt hg2
  have C := Lib.hid hc
  have EM := fun W => entry_missing ad cs.length c x hx W
  unfold Missing at *
  have EM := Lib.hid EM
  have KE := Lib.hid fun W (h : Below w.heap.size w W) => (show W.cell? ⟨g1, 0, none⟩ = some (.int .i64 x) ∧ W.cell? ⟨g2, 0, none⟩ = some (.int .i64 y) from ⟨(h.cell (p := ⟨g1, 0, none⟩) gl1).trans hg1, (h.cell (p := ⟨g2, 0, none⟩) gl2).trans hg2⟩)
  clear hc hx
  go_enter Tryd.func71, Tryd.ntmps71
  go_wp2_with fail
  refine wp_region_any (by kernel_rfl) (wpAny_inv (fun l ac w' => MI (.slice ad cs.length c) g1 g2 x y #[] #[] w l ac w' ∧ l[2]?.getD false = false) ?done ?step (fun _ _ _ _ _ => wpOp_mono) _ _ _ _ ?start (by decide))
  case start => exact ⟨⟨0, 0, _, _, _, _, _, _, _, _, rfl, rfl, by simp, by simp, by simp, by simp, by simp, by simp, by simp, by simp, by simp, by simp, by simp, bdrewM (Below.refl _ _)⟩, rfl⟩
  case step =>
    rintro l _ w' n ⟨⟨p, q, v6, v7, v8, v9, v10, v11, v12, v13, rfl, hs, h0, h1, h2, h3, h4, h5, h6, h7, hpq, h86, h97, hB⟩, hbad⟩ hn
    obtain ⟨hun, o, ho, hd⟩ := mem_ready.1 hn
    have hn10 : n < 10 := by have := (Array.getElem?_eq_some_iff.1 ho).1; simpa using this
    obtain ⟨m1, m2⟩ := KE.out w' hB
    match n, hn10 with
    | 0, _ =>
      simp at ho; subst ho
      refine wpOp_of rfl rfl ?_
      unfold Oper.wp
      go_simp
      exact ⟨⟨p, q, v6, v7, (.slice ad cs.length c), v9, v10, v11, v12, v13, rfl, by simpa using hs, fun _ => rfl, by simpa [fl hs] using h1, by simpa [fl hs] using h2, by simpa [fl hs] using h3, by simpa [fl hs] using h4, by simpa [fl hs] using h5, by simpa [fl hs] using h6, by simpa [fl hs] using h7, by simpa [fl hs] using hpq, by simpa [fl hs] using h86, by simpa [fl hs] using h97, hB⟩, by first | (rw [fl hs 0 2 (by decide), hbad]; rfl) | simpa [hs] using hbad⟩
    | 1, _ =>
      simp at ho; subst ho
      refine wpOp_of rfl rfl ?_
      unfold Oper.wp
      go_simp
      exact ⟨⟨p, q, v6, v7, v8, (.int .i64 x), v10, v11, v12, v13, rfl, by simpa using hs, by simpa [fl hs] using h0, fun _ => rfl, by simpa [fl hs] using h2, by simpa [fl hs] using h3, by simpa [fl hs] using h4, by simpa [fl hs] using h5, by simpa [fl hs] using h6, by simpa [fl hs] using h7, by simpa [fl hs] using hpq, by simpa [fl hs] using h86, by simpa [fl hs] using h97, hB⟩, by first | (rw [fl hs 1 2 (by decide), hbad]; rfl) | simpa [hs] using hbad⟩
    | 2, _ =>
      simp at ho; subst ho
      simp [Region.binds] at hd
      have e1 := h0 hd.1
      have e2 := h1 hd.2
      subst e1 e2
      refine wpOp_of rfl rfl ?_
      unfold Oper.wp
      go_simp
      go_at_call 64
      refine Calls.mono (EM.out w') ?_
      rintro e w2 ⟨rfl, hB2⟩
      exact ⟨rfl, rfl, hB.trans (hB2.mono hB.size)⟩
    | 3, _ =>
      simp at ho; subst ho
      refine wpOp_of rfl rfl ?_
      unfold Oper.wp
      go_simp
      exact ⟨⟨p, q, v6, v7, v8, v9, v10, (.slice ad cs.length c), v12, v13, rfl, by simpa using hs, by simpa [fl hs] using h0, by simpa [fl hs] using h1, by simpa [fl hs] using h2, fun _ => rfl, by simpa [fl hs] using h4, by simpa [fl hs] using h5, by simpa [fl hs] using h6, by simpa [fl hs] using h7, by simpa [fl hs] using hpq, by simpa [fl hs] using h86, by simpa [fl hs] using h97, hB⟩, by first | (rw [fl hs 3 2 (by decide), hbad]; rfl) | simpa [hs] using hbad⟩
    | 4, _ =>
      simp at ho; subst ho
      refine wpOp_of rfl rfl ?_
      unfold Oper.wp
      go_simp
      exact ⟨⟨p, q, v6, v7, v8, v9, v10, v11, (.int .i64 y), v13, rfl, by simpa using hs, by simpa [fl hs] using h0, by simpa [fl hs] using h1, by simpa [fl hs] using h2, by simpa [fl hs] using h3, fun _ => rfl, by simpa [fl hs] using h5, by simpa [fl hs] using h6, by simpa [fl hs] using h7, by simpa [fl hs] using hpq, by simpa [fl hs] using h86, by simpa [fl hs] using h97, hB⟩, by first | (rw [fl hs 4 2 (by decide), hbad]; rfl) | simpa [hs] using hbad⟩
    | 5, _ =>
      simp at ho; subst ho
      simp [Region.binds] at hd
      simp_all
    | 6, _ =>
      simp at ho; subst ho
      have off := off10 hun
      have o8 : l[8]?.getD false = false := by cases e : l[8]?.getD false; rfl; rw [h86 e] at off; cases off
      refine wpOp_of rfl rfl ?_
      unfold Oper.wp
      go_simp
      exact ⟨⟨w'.heap.size, q, (.pointer (some ⟨w'.heap.size, 0, none⟩)), v7, v8, v9, v10, v11, v12, v13, rfl, by simpa using hs, by simpa [fl hs] using h0, by simpa [fl hs] using h1, by simpa [fl hs] using h2, by simpa [fl hs] using h3, by simpa [fl hs] using h4, by simpa [fl hs] using h5, fun _ => ⟨rfl, hB.size, by rw [fl hs 6 8 (by decide), o8, if_neg (by decide)]; exact World.alloc_heap_new w' _⟩, fun h => by have h := h7 (by simpa [fl hs] using h); exact ⟨h.1, h.2.1, by simpa [fl hs] using (Below.heap_alloc _ _ _ (lt_of_block h.2.2)).trans h.2.2⟩, fun _ h e => by have h := h7 (by simpa [fl hs] using h); have := lt_of_block h.2.2; omega, fun _ => by simp [fl hs], by simpa [fl hs] using h97, below_new hB _⟩, by first | (rw [fl hs 6 2 (by decide), hbad]; rfl) | simpa [hs] using hbad⟩
    | 7, _ =>
      simp at ho; subst ho
      have off := off10 hun
      have o9 : l[9]?.getD false = false := by cases e : l[9]?.getD false; rfl; rw [h97 e] at off; cases off
      refine wpOp_of rfl rfl ?_
      unfold Oper.wp
      go_simp
      exact ⟨⟨p, w'.heap.size, v6, (.pointer (some ⟨w'.heap.size, 0, none⟩)), v8, v9, v10, v11, v12, v13, rfl, by simpa using hs, by simpa [fl hs] using h0, by simpa [fl hs] using h1, by simpa [fl hs] using h2, by simpa [fl hs] using h3, by simpa [fl hs] using h4, by simpa [fl hs] using h5, fun h => by have h := h6 (by simpa [fl hs] using h); exact ⟨h.1, h.2.1, by simpa [fl hs] using (Below.heap_alloc _ _ _ (lt_of_block h.2.2)).trans h.2.2⟩, fun _ => ⟨rfl, hB.size, by rw [fl hs 7 9 (by decide), o9, if_neg (by decide)]; exact World.alloc_heap_new w' _⟩, fun h _ e => by have h := h6 (by simpa [fl hs] using h); have := lt_of_block h.2.2; omega, by simpa [fl hs] using h86, fun _ => by simp [fl hs], below_new hB _⟩, by first | (rw [fl hs 7 2 (by decide), hbad]; rfl) | simpa [hs] using hbad⟩
    | 8, _ =>
      simp at ho; subst ho
      simp [Region.binds] at hd
      simp_all
    | 9, _ =>
      simp at ho; subst ho
      simp [Region.binds] at hd
      simp_all
  case done =>
    rintro l _ w' ⟨⟨p, q, v6, v7, v8, v9, v10, v11, v12, v13, rfl, hs, h0, h1, h2, h3, h4, h5, h6, h7, hpq, h86, h97, hB⟩, hbad⟩ hr
    have a0 : l[0]?.getD false = true := ready_none hr (j := 0) rfl (by omega) (by simp [Region.binds])
    have a1 : l[1]?.getD false = true := ready_none hr (j := 1) rfl (by omega) (by simp [Region.binds, a0])
    have a2 : l[2]?.getD false = true := ready_none hr (j := 2) rfl (by omega) (by simp [Region.binds, a0, a1])
    rw [a2] at hbad
    cases hbad
set_option maxRecDepth 100000 in
set_option maxHeartbeats 3200000 in
theorem merge1_missK (ad : Option Addr) (cs : List Et) (c : Nat) (i : Nat) (hi : i < cs.length) (y : Int) (hx : hasX cs.length y = false) (hn : cs.length ≤ 40) (g1 g2 : Nat) (w : World) (hc : EntsIn w ad cs) (hg1 : w.cell? ⟨g1, 0, none⟩ = some (.int .i64 i)) (hg2 : w.cell? ⟨g2, 0, none⟩ = some (.int .i64 y)) :
    Calls Tryd.prog 71 #[.slice ad cs.length c, .pointer (some ⟨g1, 0, none⟩), .pointer (some ⟨g2, 0, none⟩)] w fun e w' => e = Missing y ∧ Below w.heap.size w w' := by
  have gl1 := cell_lt hg1
  have gl2 := cell_lt hg2
  have C := Lib.hid hc
  have EM := fun W => entry_missing ad cs.length c y hx W
  unfold Missing at *
  have EM := Lib.hid EM
  have EN1 := fun W h => entry_any ad cs c i hi W h (by omega)
  unfold etVal at EN1
  have EN1 := Lib.hid EN1
  have KE := Lib.hid fun W (h : Below w.heap.size w W) => (show W.cell? ⟨g1, 0, none⟩ = some (.int .i64 i) ∧ W.cell? ⟨g2, 0, none⟩ = some (.int .i64 y) from ⟨(h.cell (p := ⟨g1, 0, none⟩) gl1).trans hg1, (h.cell (p := ⟨g2, 0, none⟩) gl2).trans hg2⟩)
  clear hc hx
  generalize etAt cs i = xi at *
  obtain ⟨s, a, b⟩ := xi
  simp only at EN1
  go_enter Tryd.func71, Tryd.ntmps71
  go_wp2_with fail
  refine wp_region_any (by kernel_rfl) (wpAny_inv (fun l ac w' => MI (.slice ad cs.length c) g1 g2 i y #[.string s, .int .i64 a, .int .i64 b] #[] w l ac w' ∧ l[5]?.getD false = false) ?done ?step (fun _ _ _ _ _ => wpOp_mono) _ _ _ _ ?start (by decide))
  case start => exact ⟨⟨0, 0, _, _, _, _, _, _, _, _, rfl, rfl, by simp, by simp, by simp, by simp, by simp, by simp, by simp, by simp, by simp, by simp, by simp, bdrewM (Below.refl _ _)⟩, rfl⟩
  case step =>
    rintro l _ w' n ⟨⟨p, q, v6, v7, v8, v9, v10, v11, v12, v13, rfl, hs, h0, h1, h2, h3, h4, h5, h6, h7, hpq, h86, h97, hB⟩, hbad⟩ hn
    obtain ⟨hun, o, ho, hd⟩ := mem_ready.1 hn
    have hn10 : n < 10 := by have := (Array.getElem?_eq_some_iff.1 ho).1; simpa using this
    obtain ⟨m1, m2⟩ := KE.out w' hB
    match n, hn10 with
    | 0, _ =>
      simp at ho; subst ho
      refine wpOp_of rfl rfl ?_
      unfold Oper.wp
      go_simp
      exact ⟨⟨p, q, v6, v7, (.slice ad cs.length c), v9, v10, v11, v12, v13, rfl, by simpa using hs, fun _ => rfl, by simpa [fl hs] using h1, by simpa [fl hs] using h2, by simpa [fl hs] using h3, by simpa [fl hs] using h4, by simpa [fl hs] using h5, by simpa [fl hs] using h6, by simpa [fl hs] using h7, by simpa [fl hs] using hpq, by simpa [fl hs] using h86, by simpa [fl hs] using h97, hB⟩, by first | (rw [fl hs 0 5 (by decide), hbad]; rfl) | simpa [hs] using hbad⟩
    | 1, _ =>
      simp at ho; subst ho
      refine wpOp_of rfl rfl ?_
      unfold Oper.wp
      go_simp
      exact ⟨⟨p, q, v6, v7, v8, (.int .i64 i), v10, v11, v12, v13, rfl, by simpa using hs, by simpa [fl hs] using h0, fun _ => rfl, by simpa [fl hs] using h2, by simpa [fl hs] using h3, by simpa [fl hs] using h4, by simpa [fl hs] using h5, by simpa [fl hs] using h6, by simpa [fl hs] using h7, by simpa [fl hs] using hpq, by simpa [fl hs] using h86, by simpa [fl hs] using h97, hB⟩, by first | (rw [fl hs 1 5 (by decide), hbad]; rfl) | simpa [hs] using hbad⟩
    | 2, _ =>
      simp at ho; subst ho
      simp [Region.binds] at hd
      have e1 := h0 hd.1
      have e2 := h1 hd.2
      subst e1 e2
      refine wpOp_of rfl rfl ?_
      unfold Oper.wp
      go_simp
      go_at_call 64
      refine Calls.mono (EN1.out w' (entsIn_below C.out hB)) ?_
      rintro e w2 ⟨rfl, hB2⟩
      exact ⟨⟨p, q, v6, v7, (.slice ad cs.length c), (.int .i64 i), (.agg #[.string s, .int .i64 a, .int .i64 b]), v11, v12, v13, rfl, by simpa using hs, fun _ => rfl, fun _ => rfl, fun _ => rfl, by simpa [fl hs] using h3, by simpa [fl hs] using h4, by simpa [fl hs] using h5, fun h => by have h := h6 (by simpa [fl hs] using h); exact ⟨h.1, h.2.1, by simpa [fl hs] using (hB2.block _ (lt_of_block h.2.2)).trans h.2.2⟩, fun h => by have h := h7 (by simpa [fl hs] using h); exact ⟨h.1, h.2.1, by simpa [fl hs] using (hB2.block _ (lt_of_block h.2.2)).trans h.2.2⟩, by simpa [fl hs] using hpq, by simpa [fl hs] using h86, by simpa [fl hs] using h97, hB.trans (hB2.mono hB.size)⟩, by first | (rw [fl hs 2 5 (by decide), hbad]; rfl) | simpa [hs] using hbad⟩
    | 3, _ =>
      simp at ho; subst ho
      refine wpOp_of rfl rfl ?_
      unfold Oper.wp
      go_simp
      exact ⟨⟨p, q, v6, v7, v8, v9, v10, (.slice ad cs.length c), v12, v13, rfl, by simpa using hs, by simpa [fl hs] using h0, by simpa [fl hs] using h1, by simpa [fl hs] using h2, fun _ => rfl, by simpa [fl hs] using h4, by simpa [fl hs] using h5, by simpa [fl hs] using h6, by simpa [fl hs] using h7, by simpa [fl hs] using hpq, by simpa [fl hs] using h86, by simpa [fl hs] using h97, hB⟩, by first | (rw [fl hs 3 5 (by decide), hbad]; rfl) | simpa [hs] using hbad⟩
    | 4, _ =>
      simp at ho; subst ho
      refine wpOp_of rfl rfl ?_
      unfold Oper.wp
      go_simp
      exact ⟨⟨p, q, v6, v7, v8, v9, v10, v11, (.int .i64 y), v13, rfl, by simpa using hs, by simpa [fl hs] using h0, by simpa [fl hs] using h1, by simpa [fl hs] using h2, by simpa [fl hs] using h3, fun _ => rfl, by simpa [fl hs] using h5, by simpa [fl hs] using h6, by simpa [fl hs] using h7, by simpa [fl hs] using hpq, by simpa [fl hs] using h86, by simpa [fl hs] using h97, hB⟩, by first | (rw [fl hs 4 5 (by decide), hbad]; rfl) | simpa [hs] using hbad⟩
    | 5, _ =>
      simp at ho; subst ho
      simp [Region.binds] at hd
      have e1 := h3 hd.1
      have e2 := h4 hd.2.1
      subst e1 e2
      refine wpOp_of rfl rfl ?_
      unfold Oper.wp
      go_simp
      go_at_call 64
      refine Calls.mono (EM.out w') ?_
      rintro e w2 ⟨rfl, hB2⟩
      exact ⟨rfl, rfl, hB.trans (hB2.mono hB.size)⟩
    | 6, _ =>
      simp at ho; subst ho
      have off := off10 hun
      have o8 : l[8]?.getD false = false := by cases e : l[8]?.getD false; rfl; rw [h86 e] at off; cases off
      refine wpOp_of rfl rfl ?_
      unfold Oper.wp
      go_simp
      exact ⟨⟨w'.heap.size, q, (.pointer (some ⟨w'.heap.size, 0, none⟩)), v7, v8, v9, v10, v11, v12, v13, rfl, by simpa using hs, by simpa [fl hs] using h0, by simpa [fl hs] using h1, by simpa [fl hs] using h2, by simpa [fl hs] using h3, by simpa [fl hs] using h4, by simpa [fl hs] using h5, fun _ => ⟨rfl, hB.size, by rw [fl hs 6 8 (by decide), o8, if_neg (by decide)]; exact World.alloc_heap_new w' _⟩, fun h => by have h := h7 (by simpa [fl hs] using h); exact ⟨h.1, h.2.1, by simpa [fl hs] using (Below.heap_alloc _ _ _ (lt_of_block h.2.2)).trans h.2.2⟩, fun _ h e => by have h := h7 (by simpa [fl hs] using h); have := lt_of_block h.2.2; omega, fun _ => by simp [fl hs], by simpa [fl hs] using h97, below_new hB _⟩, by first | (rw [fl hs 6 5 (by decide), hbad]; rfl) | simpa [hs] using hbad⟩
    | 7, _ =>
      simp at ho; subst ho
      have off := off10 hun
      have o9 : l[9]?.getD false = false := by cases e : l[9]?.getD false; rfl; rw [h97 e] at off; cases off
      refine wpOp_of rfl rfl ?_
      unfold Oper.wp
      go_simp
      exact ⟨⟨p, w'.heap.size, v6, (.pointer (some ⟨w'.heap.size, 0, none⟩)), v8, v9, v10, v11, v12, v13, rfl, by simpa using hs, by simpa [fl hs] using h0, by simpa [fl hs] using h1, by simpa [fl hs] using h2, by simpa [fl hs] using h3, by simpa [fl hs] using h4, by simpa [fl hs] using h5, fun h => by have h := h6 (by simpa [fl hs] using h); exact ⟨h.1, h.2.1, by simpa [fl hs] using (Below.heap_alloc _ _ _ (lt_of_block h.2.2)).trans h.2.2⟩, fun _ => ⟨rfl, hB.size, by rw [fl hs 7 9 (by decide), o9, if_neg (by decide)]; exact World.alloc_heap_new w' _⟩, fun h _ e => by have h := h6 (by simpa [fl hs] using h); have := lt_of_block h.2.2; omega, by simpa [fl hs] using h86, fun _ => by simp [fl hs], below_new hB _⟩, by first | (rw [fl hs 7 5 (by decide), hbad]; rfl) | simpa [hs] using hbad⟩
    | 8, _ =>
      simp at ho; subst ho
      simp [Region.binds] at hd
      simp_all
    | 9, _ =>
      simp at ho; subst ho
      simp [Region.binds] at hd
      simp_all
  case done =>
    rintro l _ w' ⟨⟨p, q, v6, v7, v8, v9, v10, v11, v12, v13, rfl, hs, h0, h1, h2, h3, h4, h5, h6, h7, hpq, h86, h97, hB⟩, hbad⟩ hr
    have a0 : l[0]?.getD false = true := ready_none hr (j := 0) rfl (by omega) (by simp [Region.binds])
    have a1 : l[1]?.getD false = true := ready_none hr (j := 1) rfl (by omega) (by simp [Region.binds, a0])
    have a2 : l[2]?.getD false = true := ready_none hr (j := 2) rfl (by omega) (by simp [Region.binds, a0, a1])
    have a3 : l[3]?.getD false = true := ready_none hr (j := 3) rfl (by omega) (by simp [Region.binds, a0, a1, a2])
    have a4 : l[4]?.getD false = true := ready_none hr (j := 4) rfl (by omega) (by simp [Region.binds, a0, a1, a2, a3])
    have a5 : l[5]?.getD false = true := ready_none hr (j := 5) rfl (by omega) (by simp [Region.binds, a0, a1, a2, a3, a4])
    rw [a5] at hbad
    cases hbad
end Go.Proofs.YtcbcggnpbjcdfabDoor
