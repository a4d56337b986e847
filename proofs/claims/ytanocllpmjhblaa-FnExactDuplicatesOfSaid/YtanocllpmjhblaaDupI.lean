/- Groups of cards with equal notches: the program's contract. -/
import Derived.Test.YtanocllpmjhblaaDupM
import Derived.Deep.DeepCutAuto
namespace Go.Proofs.Ytanocllpmjhblaa
open Go.ChangeShapes Go.WideShapes Go.ChangeAt Go.RowKit

theorem run_makeMapD {P : Program} {t k e : TypeId} (ht : P.underlying t = some (.map k e)) (n : Int) (w : World) : (Instr.makeMap t (some (.int .i64 n))).run P w = .ok (.map (some w.heap.size)) (w.alloc (.map #[] 0)) := by
  unfold Instr.makeMap
  simp [go_sem, run_underlying ht]
  try rfl
theorem info_ssT : (Try.prog.info? 56).map (fun i => (i.zero, i.size, i.bytes)) = some (some (.slice none 0 0), 1, 24) := by kernel_rfl
theorem info_i64D : (Try.prog.info? 2).map (fun i => (i.zero, i.size, i.bytes)) = some (some (.int .i64 0), 1, 8) := by kernel_rfl
theorem deck_80 {cs : List Cd} (h : deckOk cs = true) : cs.length ≤ 80 := by
  unfold deckOk at h
  rw [Bool.and_eq_true, decide_eq_true_eq] at h
  exact h.1
theorem lit_i64 {k : Nat} (h : k ≤ 1000000) : (Lit.int .i64 (k : Int)).wf = true := by
  simp [Lit.wf, IntKind.min, IntKind.max, IntKind.signed, IntKind.bits]; omega

set_option maxRecDepth 100000 in
set_option maxHeartbeats 6400000 in
theorem iDup_any (ad : Option Addr) (cs : List Cd) (c : Nat) (w : World) (hc : CardsIn w ad cs) :
    Calls Try.prog 22 #[.slice ad cs.length c] w (DuR (duC cs) (duL cs) w) := by
  have D := Lib.hid (iDeckOk_any ad cs c w hc)
  have C := Lib.hid hc
  clear hc
  cases h0 : deckOk cs
  · rw [h0] at D
    rw [show duC cs = 1 from by unfold duC; rw [h0]; rfl, show duL cs = [] from by unfold duL; rw [h0]; rfl]
    clear h0
    go_enter Try.func22, Try.ntmps22
    go_wp2_with (go_at_call 62; refine D.out.mono ?_; rintro e w1 ⟨rfl, hB⟩; have B1 := Lib.hid hB; clear hB)
    go_ret2
    exact ⟨_, rfl, ownSS_nil _ _, B1.out⟩
  · rw [h0] at D
    rw [show duC cs = 0 from by unfold duC; rw [h0]; rfl, show duL cs = dups cs from by unfold duL; rw [h0]; rfl]
    have hn := deck_80 h0
    clear h0
    obtain ⟨h0, hh0⟩ : ∃ h0 : Nat → Int, h0 = fun i => (cdAt cs i).a := ⟨_, rfl⟩
    obtain ⟨h1, hh1⟩ : ∃ h1 : Nat → Int, h1 = fun i => (cdAt cs i).b := ⟨_, rfl⟩
    have UU : Hid (∀ i, U64 (h0 i) ∧ U64 (h1 i)) := Lib.hid fun i => by
      rw [hh0, hh1]
      by_cases hi : i < cs.length
      · exact (C.out i hi).1.2
      · have : cdAt cs i = default := by unfold cdAt; simp [List.getD, List.getElem?_eq_none (by omega : cs.length ≤ i)]
        simp only [this]
        exact ⟨⟨by decide, by decide⟩, ⟨by decide, by decide⟩⟩
    have CC : Hid (∀ i, i < cs.length → ∃ s b off, ad = some ⟨b, off, none⟩ ∧ b < w.heap.size ∧ w.cell? ⟨b, off + i * 3, none⟩ = some (.string s) ∧ w.cell? ⟨b, off + i * 3 + 1, none⟩ = some (.int .u64 (h0 i)) ∧ w.cell? ⟨b, off + i * 3 + 2, none⟩ = some (.int .u64 (h1 i))) := Lib.hid fun i hi => by
      rw [hh0, hh1]
      obtain ⟨_, b, off, e, hlt, p0, p1, p2⟩ := C.out i hi
      exact ⟨_, b, off, e, hlt, p0, p1, p2⟩
    have DD : Hid (dups cs = dupTo h0 h1 cs.length cs.length) := Lib.hid (by unfold dups; rw [hh0, hh1])
    rw [DD.out]
    clear hh0 hh1 DD
    obtain ⟨i0, hi, hz0, hz1, hz2⟩ := info_parts info_i64D
    obtain ⟨s0, hs, hs0, hs1, hs2⟩ := info_parts info_ssT
    have hmm := fun n W => run_makeMapD Try.underlying98 n W
    go_enter Try.func22, Try.ntmps22
    go_wp2_with (go_at_call 62; refine D.out.mono ?_; rintro e w4 ⟨rfl, hB⟩; have B4 := Lib.hid hB; clear hB)
    go_loopw [19] (fun i wr => ∃ j : Nat, j ≤ cs.length ∧ i = .int .i64 j ∧ GrpM wr (w4.heap.size + 1) w4.heap.size j (grI h0 h1 j) ∧ w4.heap.size + 1 ≤ wr.heap.size ∧ Below w4.heap.size w4 wr) (fun i _ => cs.length - (intOf i).toNat)
    case atStart => exact ⟨0, Nat.zero_le _, rfl, grpM_made w4, by simp, ab_new _ _⟩
    case round =>
      obtain ⟨j, hj, rfl, G, hsz, hB⟩ := hrel
      have GG := Lib.hid G
      have HS := Lib.hid hsz
      have BB := Lib.hid hB
      clear hmm
      by_cases hjl : j < cs.length
      · have hd : decide ((j : Int) < (cs.length : Int)) = true := by simpa using hjl
        obtain ⟨s, b1, o1, rfl, hb1, p0, p1, p2⟩ := CC.out j hjl
        have hBx := B4.out.trans (Below.mono hB B4.out.size)
        have d0 := (hBx.cell (p := ⟨b1, o1 + j * 3, none⟩) hb1).trans p0
        have d1 := (hBx.cell (p := ⟨b1, o1 + j * 3 + 1, none⟩) hb1).trans p1
        have d2 := (hBx.cell (p := ⟨b1, o1 + j * 3 + 2, none⟩) hb1).trans p2
        have y1 : b1 < wr.heap.size := Nat.lt_of_lt_of_le hb1 hBx.size
        have i3 : (0 : Int) ≤ (j : Int) := by omega
        have i4 : (j : Int) < (cs.length : Int) := by omega
        have nxG := Lib.hid (grI_add h0 h1 j)
        have UJ := Lib.hid (UU.out j)
        have G1 := Lib.hid (G.below (below_new (Below.refl wr.heap.size wr) (.cells #[.string s, .int .u64 (h0 j), .int .u64 (h1 j)] 89)))
        have B1 := Lib.hid (hB.alloc hB.size (.cells #[.string s, .int .u64 (h0 j), .int .u64 (h1 j)] 89))
        have RB := Lib.hid (block_alloc wr (.cells #[.string s, .int .u64 (h0 j), .int .u64 (h1 j)] 89))
        have H1 : Hid (w4.heap.size + 1 ≤ (wr.alloc (.cells #[.string s, .int .u64 (h0 j), .int .u64 (h1 j)] 89)).heap.size) := Lib.hid (by simp; omega)
        clear p0 p1 p2 hBx hb1 G hsz hB
        go_upto_region 7 with fail
        clear d0 d1 d2 y1
        generalize wr.alloc (.cells #[.string s, .int .u64 (h0 j), .int .u64 (h1 j)] 89) = wy at *
        have e0 := cell_of_block RB.out
        have l5 := lt_of_block RB.out
        obtain ⟨v, st, wq, hrun, hown, hlen, hnews, hsz, hback⟩ := grp_step G1.out (by unfold maxLen; omega) H1.out (h0 j) (h1 j) UJ.out.1 UJ.out.2 (j : Int) (lit_i64 (by omega))
        rw [nxG.out] at hback
        have HW := Lib.hid hown
        have HN := Lib.hid hnews
        have HK := Lib.hid hback
        have LL := hlen
        have HZ := Lib.hid hsz
        clear hown hnews hback hlen hsz
        generalize grI h0 h1 j (h0 j) (h1 j) = gs at *
        go_wp2_with (at_builtin; refine wpList_append_own_at _ rfl _ _ 56 rfl (w4.heap.size + 1) 2 i0 (.int .i64 0) 1 8 Try.underlying56 hi hz0 hz1 hz2 rfl (by decide) _ _ _ rfl HW.out.1 ⟨wy.heap.size, 0, none⟩ 1 1 [.int .i64 (j : Int)] rfl rfl HN.out (fun x hx => by simp at hx; subst hx; rfl) (by unfold maxLen; omega) (by omega) HZ.out ?_; intro v' w7 hown hgrow _ hloc; obtain ⟨w8, hst, G8, B8⟩ := HK.out v' w7 hown hgrow hloc; clear hown hgrow hloc)
        exact ⟨⟨j + 1, hjl, by rw [Int.natCast_succ], G8, Nat.le_trans H1.out B8.size, B1.out.trans B8⟩, by (simp [intOf]) <;> omega⟩
      · have e : j = cs.length := by omega
        subst e
        have hd : decide ((cs.length : Int) < (cs.length : Int)) = false := by simp
        obtain ⟨g, hv, hap⟩ := G.vals
        have HV := Lib.hid hv
        have HA := Lib.hid hap
        have BL := Lib.hid G.blt
        clear G GG hsz hB hv hap
        generalize wr = W2 at *
        go_wp2_with fail
        go_loopw [7, 36] (fun v i wr => ∃ j : Nat, j ≤ cs.length ∧ i = .int .i64 j ∧ wr.ownsRow W2.heap.size 56 1 v (dupTo h0 h1 cs.length j).length (dvTo h0 h1 cs.length g j) ∧ Below W2.heap.size W2 wr) (fun _ i _ => cs.length - (intOf i).toNat)
        case atStart => exact ⟨0, Nat.zero_le _, rfl, World.ownsRow_nil _ _ _ _, Below.refl _ _⟩
        case round =>
          obtain ⟨j, hj, rfl, O, hB⟩ := hrel
          have OO := Lib.hid O
          have B2 := Lib.hid hB
          have al := dup_len (h0 := h0) (h1 := h1) (n := cs.length) j
          by_cases hjl : j < cs.length
          · have hd : decide ((j : Int) < (cs.length : Int)) = true := by simpa using hjl
            obtain ⟨s, b1, o1, rfl, hb1, p0, p1, p2⟩ := CC.out j hjl
            have hBx := B4.out.trans (Below.mono (BB.out.trans (Below.mono hB BB.out.size)) B4.out.size)
            have d0 := (hBx.cell (p := ⟨b1, o1 + j * 3, none⟩) hb1).trans p0
            have d1 := (hBx.cell (p := ⟨b1, o1 + j * 3 + 1, none⟩) hb1).trans p1
            have d2 := (hBx.cell (p := ⟨b1, o1 + j * 3 + 2, none⟩) hb1).trans p2
            have y1 : b1 < wr.heap.size := Nat.lt_of_lt_of_le hb1 hBx.size
            have i3 : (0 : Int) ≤ (j : Int) := by omega
            have i4 : (j : Int) < (cs.length : Int) := by omega
            have sz := hB.size
            have UJ := UU.out j
            obtain ⟨own, look⟩ := HV.out (h0 j) (h1 j) UJ.1 UJ.2
            have own1 : OwnInts (w4.heap.size + 1) (grI h0 h1 cs.length (h0 j) (h1 j)) (g (h0 j) (h1 j)) W2 := own.1
            obtain ⟨ag, cg, hgv, hgi⟩ := ownInts_in own1
            have self : hasM h0 h1 (h0 j) (h1 j) j = true := by unfold hasM; simp
            have hpos := (rG_head (hasM h0 h1 (h0 j) (h1 j)) j 0 cs.length j (by omega) hjl self).1
            have hpos : 0 < (grI h0 h1 cs.length (h0 j) (h1 j)).length := hpos
            obtain ⟨bg, og, rfl, hbg, hcg⟩ := hgi 0 hpos
            have c1 := (hB.cell (p := ⟨bg, og + 0, none⟩) hbg).trans hcg
            have c2 : ∀ (o : Obj), (wr.alloc o).cell? ⟨bg, og, none⟩ = some (.int .i64 ((grI h0 h1 cs.length (h0 j) (h1 j)).getD 0 0)) := fun o => by
              rw [World.cell?_alloc_past (hn := Nat.lt_of_lt_of_le hbg sz)]; exact c1
            have LQ := look (wr.alloc (.cells #[.string s, .int .u64 (h0 j), .int .u64 (h1 j)] 89)) (((below_new (Below.refl wr.heap.size wr) _).block _ (Nat.lt_of_lt_of_le BL.out.1 sz)).trans (hB.block _ BL.out.1))
            have C2 := c2 (.cells #[.string s, .int .u64 (h0 j), .int .u64 (h1 j)] 89)
            have RB := block_alloc wr (.cells #[.string s, .int .u64 (h0 j), .int .u64 (h1 j)] 89)
            have e0 := cell_of_block RB
            have l5 := lt_of_block RB
            have lg : bg < (wr.alloc (.cells #[.string s, .int .u64 (h0 j), .int .u64 (h1 j)] 89)).heap.size := by simp; omega
            have B3 := Lib.hid (hB.alloc sz (.cells #[.string s, .int .u64 (h0 j), .int .u64 (h1 j)] 89))
            have O3 := Lib.hid (World.ownsRow.alloc O (.cells #[.string s, .int .u64 (h0 j), .int .u64 (h1 j)] 89))
            have DB : Hid (dupB h0 h1 cs.length j = (decide (1 < (grI h0 h1 cs.length (h0 j) (h1 j)).length) && ((grI h0 h1 cs.length (h0 j) (h1 j)).getD 0 0 == (j : Int)))) := Lib.hid rfl
            have YE := Lib.hid fun h => dup_yes (h0 := h0) (h1 := h1) (n := cs.length) (i := j) h
            have NO := Lib.hid fun h => dup_no (h0 := h0) (h1 := h1) (n := cs.length) (i := j) h
            have YV := Lib.hid fun h => dv_yes (h0 := h0) (h1 := h1) (n := cs.length) (g := g) (i := j) h
            have NV := Lib.hid fun h => dv_no (h0 := h0) (h1 := h1) (n := cs.length) (g := g) (i := j) h
            rw [hgv] at LQ YV
            clear p0 p1 p2 hBx hb1 O hB own look own1 hgi hcg c1 c2 RB self hbg
            generalize (grI h0 h1 cs.length (h0 j) (h1 j)).getD 0 0 = head at *
            generalize (grI h0 h1 cs.length (h0 j) (h1 j)).length = L at *
            generalize dupTo h0 h1 cs.length j = ys at *
            generalize dvTo h0 h1 cs.length g j = vs at *
            go_upto_region 13 with fail
            clear d0 d1 d2 y1
            generalize wr.alloc (.cells #[.string s, .int .u64 (h0 j), .int .u64 (h1 j)] 89) = wy at *
            by_cases hL : 1 < L
            · have dL : decide ((1 : Int) < (L : Int)) = true := by simp; omega
              have dN : decide (1 < L) = true := decide_eq_true hL
              have i6 : (0 : Int) < (L : Int) := by omega
              cases hh : (head == (j : Int))
              · have NN := Lib.hid (NO.out (by rw [DB.out, dN, hh]; rfl))
                have NW := Lib.hid (NV.out (by rw [DB.out, dN, hh]; rfl))
                clear YE NO YV NV DB dN
                go_wp2_with fail
                exact ⟨⟨j + 1, hjl, by rw [Int.natCast_succ], by rw [NN.out, NW.out]; exact O3.out, B3.out⟩, by (simp [intOf]) <;> omega⟩
              · have NN := Lib.hid (YE.out (by rw [DB.out, dN, hh]; rfl))
                have NW := Lib.hid (YV.out (by rw [DB.out, dN, hh]; rfl))
                clear YE NO YV NV DB dN
                have sz3 := B3.out.size
                have O4 := Lib.hid (World.ownsRow.alloc O3.out (.cells #[.slice (some ⟨bg, og, none⟩) L cg] 56))
                go_wp2_with (at_builtin; refine wpList_append_own _ rfl _ _ 39 rfl W2.heap.size 56 s0 (.slice none 0 0) 1 24 Try.underlying39 hs hs0 hs1 hs2 rfl (by decide) _ _ _ rfl O4.out ⟨wy.heap.size, 0, none⟩ 1 1 [.slice (some ⟨bg, og, none⟩) L cg] rfl rfl (cell_one_new _ _ _) (fun x hx => by simp at hx; subst hx; rfl) (by unfold maxLen; omega) (by omega) (by simp; omega) ?_; intro v' w9 hown hgrow _; have P := Lib.hid hown; have Gr := Lib.hid hgrow; clear hown hgrow)
                exact ⟨⟨j + 1, hjl, by rw [Int.natCast_succ], by rw [NN.out, NW.out, List.length_append]; exact P.out, Below.grown (B3.out.alloc sz3 _) Gr.out (by simp; omega) (fun k hk => (World.ownsRow.lt O3.out k hk).1)⟩, by (simp [intOf]) <;> omega⟩
            · have dL : decide ((1 : Int) < (L : Int)) = false := by simp; omega
              have dN : decide (1 < L) = false := decide_eq_false hL
              have NN := Lib.hid (NO.out (by rw [DB.out, dN]; rfl))
              have NW := Lib.hid (NV.out (by rw [DB.out, dN]; rfl))
              clear YE NO YV NV DB dN
              go_wp2_with fail
              exact ⟨⟨j + 1, hjl, by rw [Int.natCast_succ], by rw [NN.out, NW.out]; exact O3.out, B3.out⟩, by (simp [intOf]) <;> omega⟩
          · have e : j = cs.length := by omega
            subst e
            have hd : decide ((cs.length : Int) < (cs.length : Int)) = false := by simp
            have BB2 := BB.out
            have B42 := B4.out
            have RES : OwnSS w.heap.size (dupTo h0 h1 cs.length cs.length) u7 wr := by
              have key := dv_rows (h0 := h0) (h1 := h1) (n := cs.length) (g := g) (B := w.heap.size) (w := wr) (fun j => by
                have UJ := UU.out j
                have own : OwnInts (w4.heap.size + 1) (grI h0 h1 cs.length (h0 j) (h1 j)) (g (h0 j) (h1 j)) W2 := (HV.out (h0 j) (h1 j) UJ.1 UJ.2).1.1
                exact ints_weaken (ownInts_kept own hB) (Nat.le_succ_of_le B42.size)) cs.length
              have ap := dv_apart (h0 := h0) (h1 := h1) (n := cs.length) (g := g) (fun i j hne => by
                have UI := UU.out i
                have UJ := UU.out j
                exact HA.out _ _ _ _ UI.1 UI.2 UJ.1 UJ.2 hne) cs.length
              refine ⟨_, ?_, dv_len _ _, key, ap⟩
              obtain ⟨a1, a2⟩ := O
              refine ⟨a1, ?_⟩
              rcases a2 with hn | ⟨b, cp, cur, hv, hB9, rest⟩
              · exact .inl hn
              · exact .inr ⟨b, cp, cur, hv, Nat.le_trans (Nat.le_trans B42.size BB2.size) hB9, rest⟩
            have RES := Lib.hid RES
            clear O hB OO
            go_wp2
            go_ret2
            exact ⟨_, rfl, RES.out, B4.out.trans (Below.mono (BB.out.trans (Below.mono B2.out BB.out.size)) B4.out.size)⟩
end Go.Proofs.Ytanocllpmjhblaa
