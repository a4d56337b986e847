/- Contract: is a tree valid, by the program. -/
import Derived.Test.YtppjmngnjdeigaaDoorVtI
namespace Go.Proofs.YtppjmngnjdeigaaDoor
open Go.ChangeShapes Go.WideShapes Go.ChangeAt Go.RowKit

/-- Which of 120 indices are reached. -/
def rbV (L : List Int) : List Value := (List.range 120).map fun j : Nat => .bool (decide (0 < L.count (j : Int)))
theorem rbV_len (L : List Int) : (rbV L).length = 120 := by unfold rbV; simp
theorem rbV_get (L : List Int) (j : Nat) (h : j < 120) : (rbV L)[j]? = some (.bool (decide (0 < L.count (j : Int)))) := by
  unfold rbV; rw [List.getElem?_map, List.getElem?_range h]; rfl
theorem rbV_nil : rbV [] = List.replicate 120 (.bool false) := by
  apply List.ext_getElem?
  intro i
  by_cases h : i < 120
  · rw [rbV_get _ _ h, List.getElem?_replicate, if_pos h]; simp
  · rw [List.getElem?_eq_none (by rw [rbV_len]; omega), List.getElem?_replicate, if_neg h]
theorem rbV_next (L : List Int) (x : Nat) (h : x < 120) : (rbV L).set x (.bool true) = rbV (L ++ [(x : Int)]) := by
  apply List.ext_getElem?
  intro i
  rw [List.getElem?_set]
  by_cases e : x = i
  · subst e
    rw [if_pos rfl, if_pos (by rw [rbV_len]; exact h), rbV_get _ _ h, List.count_append, decide_eq_true (by rw [List.count_singleton, if_pos (by simp)]; omega)]
  · rw [if_neg e]
    by_cases hi : i < 120
    · rw [rbV_get _ _ hi, rbV_get _ _ hi, List.count_append, List.count_singleton, if_neg (by simp; omega)]; rfl
    · rw [List.getElem?_eq_none (by rw [rbV_len]; omega), List.getElem?_eq_none (by rw [rbV_len]; omega)]
theorem rbA_next (L : List Int) (x : Nat) (h : x < 120) : (rbV L).toArray.setIfInBounds x (.bool true) = (rbV (L ++ [(x : Int)])).toArray := by
  rw [← rbV_next L x h]; simp
theorem inN_nxt {ks : List Kn} {i t : Nat} (hi : i < ks.length) (h : TrTo ks i) (k : NxTo ks.length i (knAt ks i) t) : InN ks.length (nxt ks i t) := fun x hx => by
  unfold nxt at hx
  rcases List.mem_append.1 hx with hx | hx
  · exact inN_nx (by omega) h x hx
  · obtain ⟨s, hs, rfl⟩ := List.getElem_of_mem hx
    rw [List.length_take] at hs
    have := k s (by omega)
    rw [List.getElem_take]
    simp [List.getD, show s < (knAt ks i).ns.length by omega] at this
    omega
theorem once_len {n : Nat} {L : List Int} (h : InN n L) (ho : Once L) : L.length ≤ n := by
  cases n with
  | zero =>
    cases L with
    | nil => simp
    | cons x L => have := h x (List.mem_cons_self ..); omega
  | succ n => rw [← sumc_len h]; exact Nat.le_succ_of_le (sumc_le fun j _ => ho _)

def RbAt (w : World) (g : Nat) (L : List Int) : Prop := w.heap[g]? = some (.cells (rbV L).toArray 109 (0, 0))
theorem rbAt_cell {w : World} {g : Nat} {L : List Int} (h : RbAt w g L) (j : Nat) (hj : j < 120) : w.cell? ⟨g, j, none⟩ = some (.bool (decide (0 < L.count (j : Int)))) := by
  rw [cell_of_block h]; simpa using rbV_get L j hj

theorem zero120r : Tryd.zeroCells109 = (List.replicate 120 (Value.bool false)).toArray := by kernel_rfl
theorem zero120 : Tryd.zeroCells109 = (rbV []).toArray := by rw [zero120r, rbV_nil]

set_option maxRecDepth 100000 in
set_option maxHeartbeats 6400000 in
theorem iValidTree_any (ad : Option Addr) (ks : List Kn) (c : Nat) (w : World) (hc : KnotsIn w ad ks) (hn : KsSmall ks) :
    Calls Tryd.prog 41 #[.slice ad ks.length c] w fun e w' => e = .returned (.bool (treeOk ks)) ∧ Below w.heap.size w w' := by
  have C := Lib.hid hc
  have SM := Lib.hid hn.2
  clear hc hn
  by_cases h1 : ks.length < 1
  · have e1 : decide ((ks.length : Int) < 1) = true := decide_eq_true (by omega)
    have T := Lib.hid (tree_len (ks := ks) (by omega))
    go_enter Tryd.func41, Tryd.ntmps41
    go_wp2
    all_goals go_returns
    all_goals exact ⟨kretB T.out, Below.refl _ _⟩
  have e1 : decide ((ks.length : Int) < 1) = false := decide_eq_false (by omega)
  by_cases h2 : 120 < ks.length
  · have e2 : decide ((120 : Int) < (ks.length : Int)) = true := decide_eq_true (by omega)
    have T := Lib.hid (tree_len (ks := ks) (by omega))
    go_enter Tryd.func41, Tryd.ntmps41
    go_wp2
    all_goals go_returns
    all_goals exact ⟨kretB T.out, Below.refl _ _⟩
  have e2 : decide ((120 : Int) < (ks.length : Int)) = false := decide_eq_false (by omega)
  have Z0 := Lib.hid zero120
  go_enter Tryd.func41, Tryd.ntmps41
  go_wp2
  rw [Z0.out]
  have RB0 := Lib.hid (show RbAt (w.alloc (.cells (rbV []).toArray 109)) w.heap.size [] from block_alloc w _)
  have B0 := Lib.hid (below_new (Below.refl w.heap.size w) (.cells (rbV []).toArray 109))
  generalize w.alloc (.cells (rbV []).toArray 109) = W0 at *
  go_loopw [4, 19] (fun ct ix wr => ∃ i : Nat, i ≤ ks.length ∧ ix = .int .i64 i ∧ ct = .int .i64 (((nx ks i).length : Int) + 1) ∧ TrTo ks i ∧ Once (nx ks i) ∧ RbAt wr w.heap.size (nx ks i) ∧ Below w.heap.size w wr) (fun _ ix _ => ks.length - (intOf ix).toNat)
  case atStart => exact ⟨0, Nat.zero_le _, rfl, by rw [nx_zero]; rfl, fun j hj => absurd hj (Nat.not_lt_zero _), by rw [nx_zero]; exact once_nil, by rw [nx_zero]; exact RB0.out, B0.out⟩
  case round =>
    obtain ⟨i, hi, rfl, rfl, hT, hO, hR, hB⟩ := hrel
    have BB := Lib.hid hB
    have TT := Lib.hid hT
    have OO := Lib.hid hO
    have RR := Lib.hid hR
    clear hT hO hR Z0 RB0 B0
    by_cases hil : i < ks.length
    · have hd : decide ((i : Int) < (ks.length : Int)) = true := by simpa using hil
      obtain ⟨b1, o1, rfl, hkn⟩ := C.out i hil
      have i1 : (0 : Int) ≤ (i : Int) := by omega
      have i2 : (i : Int) < (ks.length : Int) := by omega
      obtain ⟨hft, va, vc, na, nc, ca, cc, y0, z0, z1, z2, z3, p10, p2, p30⟩ := hkn
      have p1 := intsIn_below p10 hB
      have p3 := intsIn_below p30 hB
      have d0 := (hB.cell (p := ⟨b1, o1 + i * 4, none⟩) y0).trans z0
      have d1 := (hB.cell (p := ⟨b1, o1 + i * 4 + 1, none⟩) y0).trans z1
      have d2 := (hB.cell (p := ⟨b1, o1 + i * 4 + 2, none⟩) y0).trans z2
      have d3 := (hB.cell (p := ⟨b1, o1 + i * 4 + 3, none⟩) y0).trans z3
      have y1 : b1 < wr.heap.size := Nat.lt_of_lt_of_le y0 hB.size
      have SMK := SM.out i hil
      have nsl := SMK.2.1
      have NZ := Lib.hid (nxt_zero ks i)
      have NA := Lib.hid (nxt_all hil)
      have NS := Lib.hid fun t h => nxt_next (ks := ks) (i := i) (t := t) h
      have TN := Lib.hid fun t h1 h2 => tree_nxt (ks := ks) (i := i) (t := t) hil h1 h2
      have TW := Lib.hid fun t h1 h2 h3 => tree_twice (ks := ks) (i := i) (t := t) hil h1 h2 h3
      have IN := Lib.hid fun t h => inN_nxt (ks := ks) (i := i) (t := t) hil TT.out h
      have TX := Lib.hid fun h => trTo_next (ks := ks) (i := i) TT.out h
      have N0 := Lib.hid p2
      clear hB p2 p10 p30 z0 z1 z2 z3 y0
      generalize hk : knAt ks i = k at *
      by_cases hkf : k.f = -1
      · skip
        have KV := fun W (h : Below wr.heap.size wr W) => iLeafValid_any k va na ca vc nc cc W SMK (intsIn_below p3 h)
        have KK := fun W => iKind_any k.f (.slice va k.vs.length vc) (.slice na k.ns.length nc) (.slice ca k.cs.length cc) W ⟨_, _, _, rfl⟩ ⟨_, _, _, rfl⟩ ⟨_, _, _, rfl⟩
        rw [if_pos hkf] at KK
        have loc : leafB k = true → LocOk k := fun h => by unfold LocOk; rw [if_pos hkf]; simpa [leafB] using h
        have nol : leafB k = false → treeOk ks = false := fun h => tree_loc hil (by rw [hk]; unfold LocOk; rw [if_pos hkf]; simpa [leafB] using h)
        have KK := Lib.hid KK
        have LOC := Lib.hid loc
        have NOL := Lib.hid nol
        clear loc nol p1 p3 hkf
        cases hb : leafB k
        · rw [hb] at KV
          have KV := Lib.hid KV
          have T := Lib.hid (NOL.out hb)
          clear hb
          go_wp2_with (first
            | (go_at_call 75; refine (KK.out _).mono ?_; rintro e w1 ⟨rfl, hB1⟩; have A1 := Lib.hid (Ab.trans (below_new (Below.refl wr.heap.size wr) _) hB1); clear hB1)
            | (go_invoke; go_simp; go_at_call 195; refine (KV.out _ A1.out).mono ?_; rintro e w2 ⟨rfl, hB2⟩; have A2 := Lib.hid (Ab.trans A1.out hB2); clear hB2))
          all_goals go_returns
          all_goals exact ⟨kretB T.out, BB.out.trans (Below.mono A2.out BB.out.size)⟩
        · rw [hb] at KV
          have KV := Lib.hid KV
          have T := Lib.hid (LOC.out hb)
          clear hb
          have KB := Lib.hid (block_alloc wr (.cells #[.int .i16 k.f, .slice va k.vs.length vc, .slice na k.ns.length nc, .slice ca k.cs.length cc] 73))
          go_wp2_with (first
            | (go_at_call 75; refine (KK.out _).mono ?_; rintro e w1 ⟨rfl, hB1⟩; have A1 := Lib.hid (Ab.trans (below_new (Below.refl wr.heap.size wr) _) hB1); have kb1 := Lib.hid (Ab.block hB1 KB.out); clear hB1)
            | (go_invoke; go_simp; go_at_call 195; refine (KV.out _ A1.out).mono ?_; rintro e w2 ⟨rfl, hB2⟩; have A2 := Lib.hid (Ab.trans A1.out hB2); have kb2 := cell_of_block (Ab.block hB2 kb1.out); have yb2 := lt_of_block (Ab.block hB2 kb1.out); clear hB2))
          have R2 := Lib.hid (show RbAt w2 w.heap.size (nx ks i) from Ab.block A2.out RR.out)
          have B2 := Lib.hid (BB.out.trans (Below.mono A2.out BB.out.size))
          clear kb2 yb2
          go_loopw [4, 31] (fun ct ix wr2 => ∃ t : Nat, t ≤ k.ns.length ∧ ix = .int .i64 t ∧ ct = .int .i64 (((nxt ks i t).length : Int) + 1) ∧ NxTo ks.length i k t ∧ Once (nxt ks i t) ∧ RbAt wr2 w.heap.size (nxt ks i t) ∧ Below w.heap.size w wr2) (fun _ ix _ => k.ns.length - (intOf ix).toNat)
          case atStart => exact ⟨0, Nat.zero_le _, rfl, by rw [NZ.out], fun s hs => absurd hs (Nat.not_lt_zero _), by rw [NZ.out]; exact OO.out, by rw [NZ.out]; exact R2.out, B2.out⟩
          case round =>
            obtain ⟨t, ht, rfl, rfl, hN, hO, hR, hA⟩ := hrel
            have NN := Lib.hid hN
            have O3 := Lib.hid hO
            have R3 := Lib.hid hR
            have A3 := Lib.hid hA
            have ll : (nxt ks i t).length ≤ ks.length := once_len (IN.out t hN) hO
            by_cases htl : t < k.ns.length
            · have hd2 : decide ((t : Int) < (k.ns.length : Int)) = true := by simpa using htl
              obtain ⟨b2, o2, rfl, hb2, q0⟩ := N0.out t htl
              have q1 := (hA.cell (p := ⟨b2, o2 + t, none⟩) hb2).trans q0
              have y2 : b2 < wr.heap.size := Nat.lt_of_lt_of_le hb2 hA.size
              have x16 := hft.2.2.1 t htl
              have S1 := Lib.hid (NS.out t htl)
              have TN1 := Lib.hid (TN.out t htl)
              have TW1 := Lib.hid (TW.out t htl)
              have NX := Lib.hid fun h => nxTo_next (n := ks.length) (i := i) (k := k) (m := t) hN h
              have i3 : (0 : Int) ≤ (t : Int) := by omega
              have i4 : (t : Int) < (k.ns.length : Int) := by omega
              generalize k.ns.getD t 0 = x at *
              unfold I16 at x16
              clear hN hO hA q0
              by_cases g1 : x ≤ (i : Int)
              · have e3 : decide (x ≤ (i : Int)) = true := decide_eq_true g1
                have U := Lib.hid (TN1.out (by omega))
                clear hR
                go_wp2
                all_goals go_returns
                all_goals exact ⟨kretB U.out, A3.out⟩
              have e3 : decide (x ≤ (i : Int)) = false := decide_eq_false g1
              by_cases g2 : (ks.length : Int) ≤ x
              · have e4 : decide ((ks.length : Int) ≤ x) = true := decide_eq_true g2
                have U := Lib.hid (TN1.out (by omega))
                clear hR
                go_wp2
                all_goals go_returns
                all_goals exact ⟨kretB U.out, A3.out⟩
              have e4 : decide ((ks.length : Int) ≤ x) = false := decide_eq_false g2
              obtain ⟨xn, rfl⟩ := Int.eq_ofNat_of_zero_le (show 0 ≤ x by omega)
              have xl : xn < 120 := by omega
              have i5 : (0 : Int) ≤ (xn : Int) := by omega
              have i6 : (xn : Int) < 120 := by omega
              have r0 := rbAt_cell hR xn xl
              have fz := free_of_block (show wr.heap[w.heap.size]? = some (.cells (rbV (nxt ks i t)).toArray 109 (0, 0)) from hR) xn
              have gl := lt_of_block (show wr.heap[w.heap.size]? = some (.cells (rbV (nxt ks i t)).toArray 109 (0, 0)) from hR)
              by_cases g3 : 0 < (nxt ks i t).count (xn : Int)
              · rw [decide_eq_true g3] at r0
                have U := Lib.hid (TW1.out ⟨by omega, by omega⟩ g3)
                clear hR
                go_wp2
                all_goals go_returns
                all_goals exact ⟨kretB U.out, A3.out⟩
              · rw [decide_eq_false g3] at r0
                have O4 := Lib.hid (once_next O3.out (show (nxt ks i t).count (xn : Int) = 0 by omega))
                have N4 := Lib.hid (NX.out ⟨by omega, by omega⟩)
                have R4 := Lib.hid (show RbAt (wr.setCell ⟨w.heap.size, xn, none⟩ (.bool true)) w.heap.size (nxt ks i t ++ [(xn : Int)]) by unfold RbAt; rw [← rbA_next _ _ xl]; exact block_setCell _ hR)
                have L4 := Lib.hid (show ((nxt ks i t ++ [(xn : Int)]).length : Int) + 1 = ((nxt ks i t).length : Int) + 1 + 1 by rw [List.length_append]; simp)
                clear hR g3
                generalize (nxt ks i t).length = Lt at *
                go_wp2
                exact ⟨⟨t + 1, htl, by rw [Int.natCast_succ], by rw [S1.out, L4.out], N4.out, by rw [S1.out]; exact O4.out, by rw [S1.out]; exact R4.out, A3.out.setCell (Nat.le_refl _) _⟩, by (simp [intOf]) <;> omega⟩
            · have e : t = k.ns.length := by omega
              subst e
              have hd2 : decide ((k.ns.length : Int) < (k.ns.length : Int)) = false := by simp
              have NX := Lib.hid (TX.out ⟨T.out, hN⟩)
              rw [NA.out] at ll
              have OX := Lib.hid (show Once (nx ks (i + 1)) by rw [← NA.out]; exact hO)
              have RX := Lib.hid (show RbAt wr w.heap.size (nx ks (i + 1)) by rw [← NA.out]; exact hR)
              have LX := Lib.hid (show ((nxt ks i k.ns.length).length : Int) + 1 = ((nx ks (i + 1)).length : Int) + 1 by rw [NA.out])
              clear hN hO hR hA ll
              generalize (nxt ks i k.ns.length).length = Lt at *
              go_wp2
              exact ⟨⟨i + 1, hil, by rw [Int.natCast_succ], by rw [LX.out], NX.out, OX.out, RX.out, A3.out⟩, by (simp [intOf]) <;> omega⟩
      · skip
        have KV := fun W (h : Below wr.heap.size wr W) => iAskValid_any k va na ca vc nc cc W SMK hft.1 (intsIn_below p1 h)
        have KK := fun W => iKind_any k.f (.slice va k.vs.length vc) (.slice na k.ns.length nc) (.slice ca k.cs.length cc) W ⟨_, _, _, rfl⟩ ⟨_, _, _, rfl⟩ ⟨_, _, _, rfl⟩
        rw [if_neg hkf] at KK
        have loc : askB k = true → LocOk k := fun h => by unfold LocOk; rw [if_neg hkf]; simpa [askB] using h
        have nol : askB k = false → treeOk ks = false := fun h => tree_loc hil (by rw [hk]; unfold LocOk; rw [if_neg hkf]; simpa [askB] using h)
        have KK := Lib.hid KK
        have LOC := Lib.hid loc
        have NOL := Lib.hid nol
        clear loc nol p1 p3 hkf
        cases hb : askB k
        · rw [hb] at KV
          have KV := Lib.hid KV
          have T := Lib.hid (NOL.out hb)
          clear hb
          go_wp2_with (first
            | (go_at_call 75; refine (KK.out _).mono ?_; rintro e w1 ⟨rfl, hB1⟩; have A1 := Lib.hid (Ab.trans (below_new (Below.refl wr.heap.size wr) _) hB1); clear hB1)
            | (go_invoke; go_simp; go_at_call 188; refine (KV.out _ A1.out).mono ?_; rintro e w2 ⟨rfl, hB2⟩; have A2 := Lib.hid (Ab.trans A1.out hB2); clear hB2))
          all_goals go_returns
          all_goals exact ⟨kretB T.out, BB.out.trans (Below.mono A2.out BB.out.size)⟩
        · rw [hb] at KV
          have KV := Lib.hid KV
          have T := Lib.hid (LOC.out hb)
          clear hb
          have KB := Lib.hid (block_alloc wr (.cells #[.int .i16 k.f, .slice va k.vs.length vc, .slice na k.ns.length nc, .slice ca k.cs.length cc] 73))
          go_wp2_with (first
            | (go_at_call 75; refine (KK.out _).mono ?_; rintro e w1 ⟨rfl, hB1⟩; have A1 := Lib.hid (Ab.trans (below_new (Below.refl wr.heap.size wr) _) hB1); have kb1 := Lib.hid (Ab.block hB1 KB.out); clear hB1)
            | (go_invoke; go_simp; go_at_call 188; refine (KV.out _ A1.out).mono ?_; rintro e w2 ⟨rfl, hB2⟩; have A2 := Lib.hid (Ab.trans A1.out hB2); have kb2 := cell_of_block (Ab.block hB2 kb1.out); have yb2 := lt_of_block (Ab.block hB2 kb1.out); clear hB2))
          have R2 := Lib.hid (show RbAt w2 w.heap.size (nx ks i) from Ab.block A2.out RR.out)
          have B2 := Lib.hid (BB.out.trans (Below.mono A2.out BB.out.size))
          clear kb2 yb2
          go_loopw [4, 31] (fun ct ix wr2 => ∃ t : Nat, t ≤ k.ns.length ∧ ix = .int .i64 t ∧ ct = .int .i64 (((nxt ks i t).length : Int) + 1) ∧ NxTo ks.length i k t ∧ Once (nxt ks i t) ∧ RbAt wr2 w.heap.size (nxt ks i t) ∧ Below w.heap.size w wr2) (fun _ ix _ => k.ns.length - (intOf ix).toNat)
          case atStart => exact ⟨0, Nat.zero_le _, rfl, by rw [NZ.out], fun s hs => absurd hs (Nat.not_lt_zero _), by rw [NZ.out]; exact OO.out, by rw [NZ.out]; exact R2.out, B2.out⟩
          case round =>
            obtain ⟨t, ht, rfl, rfl, hN, hO, hR, hA⟩ := hrel
            have NN := Lib.hid hN
            have O3 := Lib.hid hO
            have R3 := Lib.hid hR
            have A3 := Lib.hid hA
            have ll : (nxt ks i t).length ≤ ks.length := once_len (IN.out t hN) hO
            by_cases htl : t < k.ns.length
            · have hd2 : decide ((t : Int) < (k.ns.length : Int)) = true := by simpa using htl
              obtain ⟨b2, o2, rfl, hb2, q0⟩ := N0.out t htl
              have q1 := (hA.cell (p := ⟨b2, o2 + t, none⟩) hb2).trans q0
              have y2 : b2 < wr.heap.size := Nat.lt_of_lt_of_le hb2 hA.size
              have x16 := hft.2.2.1 t htl
              have S1 := Lib.hid (NS.out t htl)
              have TN1 := Lib.hid (TN.out t htl)
              have TW1 := Lib.hid (TW.out t htl)
              have NX := Lib.hid fun h => nxTo_next (n := ks.length) (i := i) (k := k) (m := t) hN h
              have i3 : (0 : Int) ≤ (t : Int) := by omega
              have i4 : (t : Int) < (k.ns.length : Int) := by omega
              generalize k.ns.getD t 0 = x at *
              unfold I16 at x16
              clear hN hO hA q0
              by_cases g1 : x ≤ (i : Int)
              · have e3 : decide (x ≤ (i : Int)) = true := decide_eq_true g1
                have U := Lib.hid (TN1.out (by omega))
                clear hR
                go_wp2
                all_goals go_returns
                all_goals exact ⟨kretB U.out, A3.out⟩
              have e3 : decide (x ≤ (i : Int)) = false := decide_eq_false g1
              by_cases g2 : (ks.length : Int) ≤ x
              · have e4 : decide ((ks.length : Int) ≤ x) = true := decide_eq_true g2
                have U := Lib.hid (TN1.out (by omega))
                clear hR
                go_wp2
                all_goals go_returns
                all_goals exact ⟨kretB U.out, A3.out⟩
              have e4 : decide ((ks.length : Int) ≤ x) = false := decide_eq_false g2
              obtain ⟨xn, rfl⟩ := Int.eq_ofNat_of_zero_le (show 0 ≤ x by omega)
              have xl : xn < 120 := by omega
              have i5 : (0 : Int) ≤ (xn : Int) := by omega
              have i6 : (xn : Int) < 120 := by omega
              have r0 := rbAt_cell hR xn xl
              have fz := free_of_block (show wr.heap[w.heap.size]? = some (.cells (rbV (nxt ks i t)).toArray 109 (0, 0)) from hR) xn
              have gl := lt_of_block (show wr.heap[w.heap.size]? = some (.cells (rbV (nxt ks i t)).toArray 109 (0, 0)) from hR)
              by_cases g3 : 0 < (nxt ks i t).count (xn : Int)
              · rw [decide_eq_true g3] at r0
                have U := Lib.hid (TW1.out ⟨by omega, by omega⟩ g3)
                clear hR
                go_wp2
                all_goals go_returns
                all_goals exact ⟨kretB U.out, A3.out⟩
              · rw [decide_eq_false g3] at r0
                have O4 := Lib.hid (once_next O3.out (show (nxt ks i t).count (xn : Int) = 0 by omega))
                have N4 := Lib.hid (NX.out ⟨by omega, by omega⟩)
                have R4 := Lib.hid (show RbAt (wr.setCell ⟨w.heap.size, xn, none⟩ (.bool true)) w.heap.size (nxt ks i t ++ [(xn : Int)]) by unfold RbAt; rw [← rbA_next _ _ xl]; exact block_setCell _ hR)
                have L4 := Lib.hid (show ((nxt ks i t ++ [(xn : Int)]).length : Int) + 1 = ((nxt ks i t).length : Int) + 1 + 1 by rw [List.length_append]; simp)
                clear hR g3
                generalize (nxt ks i t).length = Lt at *
                go_wp2
                exact ⟨⟨t + 1, htl, by rw [Int.natCast_succ], by rw [S1.out, L4.out], N4.out, by rw [S1.out]; exact O4.out, by rw [S1.out]; exact R4.out, A3.out.setCell (Nat.le_refl _) _⟩, by (simp [intOf]) <;> omega⟩
            · have e : t = k.ns.length := by omega
              subst e
              have hd2 : decide ((k.ns.length : Int) < (k.ns.length : Int)) = false := by simp
              have NX := Lib.hid (TX.out ⟨T.out, hN⟩)
              rw [NA.out] at ll
              have OX := Lib.hid (show Once (nx ks (i + 1)) by rw [← NA.out]; exact hO)
              have RX := Lib.hid (show RbAt wr w.heap.size (nx ks (i + 1)) by rw [← NA.out]; exact hR)
              have LX := Lib.hid (show ((nxt ks i k.ns.length).length : Int) + 1 = ((nx ks (i + 1)).length : Int) + 1 by rw [NA.out])
              clear hN hO hR hA ll
              generalize (nxt ks i k.ns.length).length = Lt at *
              go_wp2
              exact ⟨⟨i + 1, hil, by rw [Int.natCast_succ], by rw [LX.out], NX.out, OX.out, RX.out, A3.out⟩, by (simp [intOf]) <;> omega⟩
    · have e : i = ks.length := by omega
      subst e
      have hd : decide ((ks.length : Int) < (ks.length : Int)) = false := by simp
      have HE : treeOk ks = ((((nx ks ks.length).length : Int) + 1) == (ks.length : Int)) := by
        rw [tree_end (by omega) (by omega) TT.out OO.out]
        by_cases h : (nx ks ks.length).length + 1 = ks.length
        · rw [decide_eq_true h]; symm; simp; omega
        · rw [decide_eq_false h]; symm; simp; omega
      have HE := Lib.hid HE
      have ll := once_len (inN_nx (Nat.le_refl _) TT.out) OO.out
      clear hB
      generalize (nx ks ks.length).length = L at *
      go_wp2
      all_goals go_returns
      all_goals exact ⟨kretB HE.out, BB.out⟩
end Go.Proofs.YtppjmngnjdeigaaDoor
