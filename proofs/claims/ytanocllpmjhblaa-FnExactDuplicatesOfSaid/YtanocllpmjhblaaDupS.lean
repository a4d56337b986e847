/- Groups of cards with equal notches: the model's contract. -/
import Derived.Test.YtanocllpmjhblaaDupI
import Derived.Test.YtanocllpmjhblaaArr
namespace Go.Proofs.Ytanocllpmjhblaa
open Go.ChangeShapes Go.WideShapes Go.ChangeAt Go.RowKit

theorem ints_none {w : World} {n B : Nat} (hn : n = w.heap.size) (hB : B ≤ w.heap.size) : OwnInts B [] (.slice (some ⟨n, 0, none⟩) 0 0) (w.alloc (.cells #[] 2)) := by
  subst hn; exact World.ownsRow_made w #[] 0 hB (Nat.zero_le _) rfl
theorem ints_push {B : Nat} {ms : List Int} {x : Int} {v : Value} {w : World} (h : w.ownsRow B 2 1 v (ms.length + 1) (ms.map (Value.int .i64) ++ [.int .i64 x])) : OwnInts B (ms ++ [x]) v w := by
  unfold OwnInts; rw [List.map_append, List.length_append]; exact h
theorem row_keptD {w w' : World} {B e k n : Nat} {v : Value} {xs : List Value} (h : w.ownsRow B e k v n xs) (hb : Below w.heap.size w w') : w'.ownsRow B e k v n xs := by
  obtain ⟨h1, h2⟩ := h
  refine ⟨h1, ?_⟩
  rcases h2 with hn | ⟨b, cap, cur, rfl, hB, hh, rest⟩
  · exact .inl hn
  · exact .inr ⟨b, cap, cur, rfl, hB, (hb.block b (Array.getElem?_eq_some_iff.1 hh).1).trans hh, rest⟩
theorem rG_zero_yes {p : Nat → Bool} {l : Nat} (h : p l = true) : rG p 0 (l + 1) = rG p 0 l ++ [(l : Int)] := by rw [rG_zero, if_pos h]
theorem rG_zero_no {p : Nat → Bool} {l : Nat} (h : p l = false) : rG p 0 (l + 1) = rG p 0 l := by rw [rG_zero, if_neg (by rw [h]; decide)]

set_option maxRecDepth 100000 in
set_option maxHeartbeats 6400000 in
theorem sDup_any (ad : Option Addr) (cs : List Cd) (c : Nat) (w : World) (hc : CardsIn w ad cs) :
    Calls Try.prog 20 #[.slice ad cs.length c] w (DuR (duC cs) (duL cs) w) := by
  have D := Lib.hid (sDeckOk_any ad cs c w hc)
  have C := Lib.hid hc
  clear hc
  cases h0 : deckOk cs
  · rw [h0] at D
    rw [show duC cs = 1 from by unfold duC; rw [h0]; rfl, show duL cs = [] from by unfold duL; rw [h0]; rfl]
    clear h0
    go_enter Try.func20, Try.ntmps20
    go_wp2_with (go_at_call 60; refine D.out.mono ?_; rintro e w1 ⟨rfl, hB⟩; have B1 := Lib.hid hB; clear hB)
    go_ret2
    exact ⟨_, rfl, ownSS_none rfl B1.out.size, Ab.trans B1.out (ab_new _ _)⟩
  · rw [h0] at D
    rw [show duC cs = 0 from by unfold duC; rw [h0]; rfl, show duL cs = dups cs from by unfold duL; rw [h0]; rfl]
    have hn := deck_80 h0
    clear h0
    obtain ⟨h0, hh0⟩ : ∃ h0 : Nat → Int, h0 = fun i => (cdAt cs i).a := ⟨_, rfl⟩
    obtain ⟨h1, hh1⟩ : ∃ h1 : Nat → Int, h1 = fun i => (cdAt cs i).b := ⟨_, rfl⟩
    have CC : Hid (∀ i, i < cs.length → ∃ b off, ad = some ⟨b, off, none⟩ ∧ b < w.heap.size ∧ w.cell? ⟨b, off + i * 3 + 1, none⟩ = some (.int .u64 (h0 i)) ∧ w.cell? ⟨b, off + i * 3 + 2, none⟩ = some (.int .u64 (h1 i))) := Lib.hid fun i hi => by
      rw [hh0, hh1]
      obtain ⟨_, b, off, e, hlt, p0, p1, p2⟩ := C.out i hi
      exact ⟨b, off, e, hlt, p1, p2⟩
    have DD : Hid (dups cs = dupTo h0 h1 cs.length cs.length) := Lib.hid (by unfold dups; rw [hh0, hh1])
    rw [DD.out]
    clear hh0 hh1 DD
    obtain ⟨i0, hi, hz0, hz1, hz2⟩ := info_parts info_i64D
    obtain ⟨s0, hs, hs0, hs1, hs2⟩ := info_parts info_ssT
    have hbw := cell_bw
    have HX := Lib.hid fun a b c d W => eq_mask a b c d W
    go_enter Try.func20, Try.ntmps20
    go_wp2_with (go_at_call 60; refine D.out.mono ?_; rintro e w1 ⟨rfl, hB⟩; have B1 := Lib.hid hB; clear hB)
    go_loopw [4, 5] (fun v i wr => ∃ j : Nat, j ≤ cs.length ∧ i = .int .i64 j ∧ OwnSS w1.heap.size (dupTo h0 h1 cs.length j) v wr ∧ Below w1.heap.size w1 wr) (fun _ i _ => cs.length - (intOf i).toNat)
    case atStart => exact ⟨0, Nat.zero_le _, rfl, ownSS_none rfl (Nat.le_refl _), ab_new _ _⟩
    case round =>
      obtain ⟨j, hj, rfl, O, hB⟩ := hrel
      have OO := Lib.hid O
      have BB := Lib.hid hB
      have al := dup_len (h0 := h0) (h1 := h1) (n := cs.length) j
      by_cases hjl : j < cs.length
      · have hd : decide ((j : Int) < (cs.length : Int)) = true := by simpa using hjl
        have DI := Lib.hid (dup_is (h0 := h0) (h1 := h1) hjl)
        have YE := Lib.hid fun h => dup_yes (h0 := h0) (h1 := h1) (n := cs.length) (i := j) h
        have NO := Lib.hid fun h => dup_no (h0 := h0) (h1 := h1) (n := cs.length) (i := j) h
        clear O
        generalize dupTo h0 h1 cs.length j = ys at *
        generalize wr = W3 at *
        go_wp2_with fail
        go_loopw [6, 7, 8] (fun v f i wl => ∃ k : Nat, k ≤ cs.length ∧ i = .int .i64 k ∧ f = .bool (fstB h0 h1 j k) ∧ OwnInts W3.heap.size (rG (hasM h0 h1 (h0 j) (h1 j)) 0 k) v wl ∧ Below W3.heap.size W3 wl) (fun _ _ i _ => cs.length - (intOf i).toNat)
        case atStart => exact ⟨0, Nat.zero_le _, rfl, rfl, ints_none rfl (Nat.le_refl _), ab_new _ _⟩
        case round =>
          obtain ⟨k, hk, rfl, rfl, Og, hBl⟩ := hrel
          have OG := Lib.hid Og
          have BL := Lib.hid hBl
          have gl := rG_len (hasM h0 h1 (h0 j) (h1 j)) 0 k
          by_cases hkl : k < cs.length
          · have hd2 : decide ((k : Int) < (cs.length : Int)) = true := by simpa using hkl
            obtain ⟨b1, o1, rfl, hb1, p1, p2⟩ := CC.out j hjl
            obtain ⟨b2, o2, e2, hb2, q1, q2⟩ := CC.out k hkl
            cases e2
            have hBx := B1.out.trans (Below.mono (hB.trans (Below.mono hBl hB.size)) B1.out.size)
            have d1 := (hBx.cell (p := ⟨b1, o1 + j * 3 + 1, none⟩) hb1).trans p1
            have d2 := (hBx.cell (p := ⟨b1, o1 + j * 3 + 2, none⟩) hb1).trans p2
            have f1 := (hBx.cell (p := ⟨b1, o1 + k * 3 + 1, none⟩) hb1).trans q1
            have f2 := (hBx.cell (p := ⟨b1, o1 + k * 3 + 2, none⟩) hb1).trans q2
            have y1 := Nat.lt_of_lt_of_le hb1 hBx.size
            have i3 : (0 : Int) ≤ (j : Int) := by omega
            have i4 : (j : Int) < (cs.length : Int) := by omega
            have i5 : (0 : Int) ≤ (k : Int) := by omega
            have i6 : (k : Int) < (cs.length : Int) := by omega
            have ME : Hid (hasM h0 h1 (h0 j) (h1 j) k = (h0 k == h0 j && h1 k == h1 j)) := Lib.hid rfl
            have FY := Lib.hid fun h => fst_yes (h0 := h0) (h1 := h1) (i := j) (k := k) h
            have FN := Lib.hid fun h => fst_no (h0 := h0) (h1 := h1) (i := j) (k := k) h
            have GY := Lib.hid fun h => rG_zero_yes (p := hasM h0 h1 (h0 j) (h1 j)) (l := k) h
            have GN := Lib.hid fun h => rG_zero_no (p := hasM h0 h1 (h0 j) (h1 j)) (l := k) h
            have sl := hBl.size
            clear hBx p1 p2 q1 q2 hb1 hb2 Og hBl
            generalize rG (hasM h0 h1 (h0 j) (h1 j)) 0 k = gs at *
            generalize fstB h0 h1 j k = fb at *
            generalize hm : hasM h0 h1 (h0 j) (h1 j) k = m at *
            have hm := Lib.hid hm
            generalize h0 j = A at *
            generalize h1 j = B at *
            generalize h0 k = A2 at *
            generalize h1 k = B2 at *
            have he : ∀ v : World, (Op.equalIn 10000 53 (.agg #[.int .u64 A2, .int .u64 B2]) (.agg #[.int .u64 A, .int .u64 B])).run Try.prog v = .ok m v := fun v => by rw [HX.out, ME.out]
            go_upto_region 12 with fail
            refine region_bw (by kernel_rfl) (by kernel_rfl) ?_
            repeat (go_big_quiet_step (fail))
            refine wpQuiet_nil ?_; intro wq hq; replace hq := below_of_bw hq; obtain ⟨qc, qf, qz⟩ := bcell hq
            have O2 := Lib.hid (ownInts_kept OG.out hq)
            have L2 := Lib.hid (Ab.trans BL.out hq)
            have sq := L2.out.size
            clear d1 d2 f1 f2 y1 he qc qf qz hq
            cases m
            · have N1 := Lib.hid (FN.out rfl)
              have N2 := Lib.hid (GN.out rfl)
              clear FY FN GY GN
              go_wp2_with fail
              exact ⟨⟨k + 1, hkl, by rw [Int.natCast_succ], by rw [N1.out], by rw [N2.out]; exact O2.out, L2.out⟩, by (simp [intOf]) <;> omega⟩
            · have N1 := Lib.hid (FY.out rfl)
              have N2 := Lib.hid (GY.out rfl)
              have dg : decide ((j : Int) ≤ (k : Int)) = decide (j ≤ k) := by simp
              clear FY FN GY GN
              cases fb
              all_goals
                go_wp2_with (at_builtin; refine wpList_append_own _ rfl _ _ 56 rfl W3.heap.size 2 i0 (.int .i64 0) 1 8 Try.underlying56 hi hz0 hz1 hz2 rfl (by decide) _ _ _ rfl (World.ownsRow.alloc O2.out _) ⟨wq.heap.size, 0, none⟩ 1 1 [.int .i64 (k : Int)] rfl rfl (cell_one_new _ _ _) (fun x hx => by simp at hx; subst hx; rfl) (by unfold maxLen; omega) (by omega) (by simp; omega) ?_; intro v' w4 hown hgrow _; have P := Lib.hid (ints_push hown); have G := Lib.hid hgrow; clear hown hgrow)
              · exact ⟨⟨k + 1, hkl, by rw [Int.natCast_succ], by rw [N1.out]; rfl, by rw [N2.out]; exact P.out, Below.grown (L2.out.alloc sq _) G.out (by simp; omega) (fun j hj => (World.ownsRow.lt O2.out j hj).1)⟩, by (simp [intOf]) <;> omega⟩
              · exact ⟨⟨k + 1, hkl, by rw [Int.natCast_succ], by rw [N1.out]; simp, by rw [N2.out]; exact P.out, Below.grown (L2.out.alloc sq _) G.out (by simp; omega) (fun j hj => (World.ownsRow.lt O2.out j hj).1)⟩, by (simp [intOf]) <;> omega⟩
          · have e : k = cs.length := by omega
            subst e
            have hd2 : decide ((cs.length : Int) < (cs.length : Int)) = false := by simp
            have O4 := Lib.hid (OO.out.kept hBl)
            have BX := Lib.hid (Ab.trans BB.out hBl)
            have sx := BX.out.size
            have sw := hB.size
            have sy := hBl.size
            have OG2 : Hid (OwnInts W3.heap.size (grp h0 h1 cs.length j) u6 wr) := Lib.hid Og
            have GL : Hid ((grp h0 h1 cs.length j).length = (rG (hasM h0 h1 (h0 j) (h1 j)) 0 cs.length).length) := Lib.hid rfl
            have BK := Lib.hid hBl
            clear Og hBl hB
            obtain ⟨ga, gc, rfl, _⟩ := ownInts_in OG2.out
            have DI2 := Lib.hid DI.out
            generalize hgr : grp h0 h1 cs.length j = gr at *
            have hgr := Lib.hid hgr
            generalize hL : gr.length = L at *
            have hL := Lib.hid hL
            clear OG GL
            cases hf : fstB h0 h1 j cs.length
            · have NN := Lib.hid (NO.out (by rw [DI.out, hf]; rfl))
              clear YE NO
              go_wp2_with fail
              exact ⟨⟨j + 1, hjl, by rw [Int.natCast_succ], by rw [NN.out]; exact O4.out, BX.out⟩, by (simp [intOf]) <;> omega⟩
            · by_cases h2 : 1 < L
              · have dL : decide ((1 : Int) < (L : Int)) = true := by simp; omega
                have NN := Lib.hid (YE.out (by rw [DI.out, hf, decide_eq_true h2]; rfl))
                clear YE NO
                obtain ⟨xs, y1, x2, y3, x4⟩ := OO.out
                have x1 := row_keptD y1 BK.out
                have x3 : ∀ i, i < ys.length → ∃ u, xs[i]? = some u ∧ OwnInts w1.heap.size (ys.getD i []) u wr := fun i hi => (y3 i hi).imp fun u hu => ⟨hu.1, ownInts_kept hu.2 BK.out⟩
                have X1 := Lib.hid x1
                have X2 := Lib.hid x2
                have X3 := Lib.hid x3
                have X4 := Lib.hid x4
                have XL : Hid (∀ (i : Nat) (u' : Value), xs[i]? = some u' → Ap (.slice ga L gc) u' ∧ Ap u' (.slice ga L gc)) := Lib.hid fun i u' hu => by
                  have hi : i < ys.length := by rw [← x2]; exact (List.getElem?_eq_some_iff.1 hu).1
                  obtain ⟨u2, hu2, ho2⟩ := y3 i hi
                  rw [hu] at hu2
                  cases hu2
                  have key : ∀ j k, (Value.slice ga L gc).ownBlock = some j → u'.ownBlock = some k → j ≠ k := fun j k h1 h2 => by
                    have a1 := (World.ownsRow.lt OG2.out j h1).1
                    have a2 := (World.ownsRow.lt ho2 k h2).2
                    omega
                  constructor
                  · cases h1 : (Value.slice ga L gc).ownBlock with
                    | none => exact .inl h1
                    | some j => exact .inr fun e => key j j h1 (by rw [← e]; exact h1) rfl
                  · cases h2 : u'.ownBlock with
                    | none => exact .inl h2
                    | some k => exact .inr fun e => key k k (by rw [← e]; exact h2) h2 rfl
                clear y1 y3
                clear x1 x2 x3 x4
                go_wp2_with (at_builtin; refine wpList_append_own _ rfl _ _ 39 rfl w1.heap.size 56 s0 (.slice none 0 0) 1 24 Try.underlying39 hs hs0 hs1 hs2 rfl (by decide) _ _ _ rfl (World.ownsRow.alloc X1.out _) ⟨wr.heap.size, 0, none⟩ 1 1 [.slice ga L gc] rfl rfl (cell_one_new _ _ _) (fun x hx => by simp at hx; subst hx; rfl) (by unfold maxLen; omega) (by omega) (by simp; omega) ?_; intro v' w9 hown hgrow _; have P := Lib.hid hown; have Gr := Lib.hid hgrow; clear hown hgrow)
                have E0 := below_new (Below.refl wr.heap.size wr) (.cells #[.slice ga L gc] 56)
                refine ⟨⟨j + 1, hjl, by rw [Int.natCast_succ], ?_, Below.grown (BX.out.alloc sx _) Gr.out (by simp; omega) (fun k hk => (World.ownsRow.lt X1.out k hk).1)⟩, by (simp [intOf]) <;> omega⟩
                rw [NN.out]
                exact ownSS_push X2.out (fun i hi => (X3.out i hi).imp fun u hu => ⟨hu.1, ownInts_kept hu.2 E0⟩) X4.out (World.ownsRow.alloc X1.out _) (ownInts_kept (ints_weaken OG2.out sw) E0) Gr.out XL.out P.out
              · have dL : decide ((1 : Int) < (L : Int)) = false := by simp; omega
                have NN := Lib.hid (NO.out (by rw [DI.out, hf, decide_eq_false h2]; rfl))
                clear YE NO
                go_wp2_with fail
                exact ⟨⟨j + 1, hjl, by rw [Int.natCast_succ], by rw [NN.out]; exact O4.out, BX.out⟩, by (simp [intOf]) <;> omega⟩
      · have e : j = cs.length := by omega
        subst e
        have hd : decide ((cs.length : Int) < (cs.length : Int)) = false := by simp
        clear O hB hbw
        go_wp2
        go_ret2
        exact ⟨_, rfl, OO.out.weaken B1.out.size, Ab.trans B1.out BB.out⟩
end Go.Proofs.Ytanocllpmjhblaa
