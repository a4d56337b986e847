/- The model's beginning of a cover: a box with the masks of some words, and whether they are enough. -/
import Derived.Test.YtoippchkhknhpaaSuI
import Derived.Test.YtoippchkhknhpaaMayW
import Derived.Deep.RegionLaw
import Derived.Deep.RegionWith
import Derived.Deep.AppendLies
namespace Go.Proofs.Ytoippchkhknhpaa
open Go.ChangeShapes Go.WideShapes Go.ChangeAt Go.RowKit

theorem sMeetM_bS (a b c d : Int) (w : World) : Calls Try.prog 123 #[.agg #[.int .u64 a, .int .u64 b], .agg #[.int .u64 c, .int .u64 d]] w fun e w' => e = .returned (.agg #[.int .u64 (bits .and .u64 a c), .int .u64 (bits .and .u64 b d)]) ∧ Below w.heap.size w w' :=
  (sMeetMasks_any a b c d w).mono fun e w' ⟨he, hw⟩ => ⟨he, by subst hw; exact (by repeat' (first | (with_reducible exact Below.refl _ _) | (with_reducible assumption) | (with_reducible refine below_drewN ?_ _) | (with_reducible refine Below.drew ?_) | (with_reducible refine below_new ?_ _) | (with_reducible refine below_next ?_ (by with_reducible assumption)) | (with_reducible refine Below.setCell ?_ ?_ _) | go_size))⟩
/-- The box that is begun, and an answer. -/
def BgR (T0 T1 : Int) (ms : List (Int × Int)) (w : World) (e : Ending) (w' : World) : Prop := ∃ (C : Nat) (au : Option Addr) (cu : Nat), e = .returned (.tuple #[.pointer (some ⟨C, 0, none⟩), .bool (jn0 ms ms.length == T0 && jn1 ms ms.length == T1)]) ∧ w.heap.size ≤ C ∧ w'.heap[C]? = some (.cells #[.slice au ms.length cu, .int .u64 T0, .int .u64 T1, .int .i64 0, .bool false] 114 (0, 0)) ∧ MasksIn w' au ms ∧ Below w.heap.size w w'

theorem take_snoc {ms : List (Int × Int)} {j : Nat} (h : j < ms.length) : ms.take (j + 1) = ms.take j ++ [ms.getD j (0, 0)] := by
  rw [List.take_succ_eq_append_getElem h]; simp [List.getD, h]
/-- The loop's boxes: the one that is begun, with its masks, and the one of all of them together; behind a world. -/
def Bg (u wr : World) (T0 T1 : Int) (ms : List (Int × Int)) (j : Nat) : Prop := ∃ v, wr.heap[u.heap.size]? = some (.cells #[v, .int .u64 T0, .int .u64 T1, .int .i64 0, .bool false] 114 (0, 0)) ∧ wr.heap[u.heap.size + 1]? = some (.cells #[.int .u64 (jn0 ms j), .int .u64 (jn1 ms j)] 51 (0, 0)) ∧ OwnMs (u.heap.size + 2) (ms.take j) v wr ∧ Below u.heap.size u wr
theorem bg_start (u : World) (T0 T1 : Int) (ms : List (Int × Int)) : Bg u ((u.alloc (.cells #[.slice none 0 0, .int .u64 T0, .int .u64 T1, .int .i64 0, .bool false] 114)).alloc (.cells #[.int .u64 0, .int .u64 0] 51)) T0 T1 ms 0 := by
  refine ⟨.slice none 0 0, (block_alloc2 _ _ _).1, (block_alloc2 _ _ _).2, ?_, below_new (below_new (Below.refl _ _) _) _⟩
  rw [List.take_zero]; exact ownMs_nil _ _

set_option maxHeartbeats 1600000 in
theorem sBegin_any (t z p : Int) (F : Int → Nat) (hF : StopF t z p F) (t0 : 0 ≤ t) (z0 : 4 ≤ z) (tz : t + z ≤ 96) (p1 : 1 ≤ p) (p8 : p ≤ 8) (a b : Int) (ad : Option Addr) (zs : List ByteArray) (cap : Nat) (g o : Nat) (w : World) (h : StrsIn w ad zs) (hf : Fit zs) (h1 : w.cell? ⟨g, o, none⟩ = some (.int .i16 t)) (h2 : w.cell? ⟨g, o + 1, none⟩ = some (.int .i16 z)) (h3 : w.cell? ⟨g, o + 2, none⟩ = some (.int .i16 p))
    (am : Option Addr) (xs : List Int) (cm : Nat) (hx : IntsIn w am xs) (ms : List (Int × Int)) (hn : ms.length = xs.length) (hl : xs.length ≤ 40) (hat : ∀ i, i < xs.length → ∃ j, j < zs.length ∧ xs.getD i 0 = (j : Int) ∧ ms.getD i (0, 0) = hwP t z F (zs.getD j ⟨#[]⟩)) :
    Calls Try.prog 94 #[.pointer (some ⟨g, o, none⟩), .agg #[.int .u64 a, .int .u64 b], .slice ad zs.length cap, .slice am xs.length cm] w (BgR (bits .and .u64 a (mp0 t z)) (bits .and .u64 b (mp1 t z)) ms w) := by
  obtain ⟨i0, hi, hz0, hz1, hz2⟩ := info_parts info_maskW
  have hg := World.block_lt_of_cell? _ _ h1
  have H := Lib.hid h
  have FT := Lib.hid hf
  have HC := Lib.hid fun s hs W c1 c2 c3 => sHoles_any t z p s hs t0 z0 tz p1 p8 (F (ck s s.size)) (hF _ (ck_in s _).1 (ck_in s _).2) g o W c1 c2 c3
  have PA : ∀ W : World, W.cell? ⟨g, o, none⟩ = some (.int .i16 t) → W.cell? ⟨g, o + 1, none⟩ = some (.int .i16 z) → Calls Try.prog 124 #[.pointer (some ⟨g, o, none⟩)] W fun e w' => e = .returned (.agg #[.int .u64 (mp0 t z), .int .u64 (mp1 t z)]) ∧ Below W.heap.size W w' := fun W c0 c1 => by
    obtain ⟨n, rfl⟩ := Int.eq_ofNat_of_zero_le (show 0 ≤ z by omega)
    have e := part_is t n t0 (by omega) tz
    have h := sMPart_any t n n rfl t0 tz g o W c0 c1
    rw [e.1, e.2] at h
    exact h
  have PA := Lib.hid PA
  have G1 := Lib.hid h1
  have G2 := Lib.hid h2
  have G3 := Lib.hid h3
  have XI := Lib.hid hx
  have AT := Lib.hid hat
  have HN := Lib.hid hn
  clear h hf hF h1 h2 h3 hx hat hn
  generalize hT0 : bits .and .u64 a (mp0 t z) = T0
  generalize hT1 : bits .and .u64 b (mp1 t z) = T1
  have MT := Lib.hid fun W => sMeetM_bS a b (mp0 t z) (mp1 t z) W
  rw [hT0, hT1] at MT
  clear hT0 hT1
  generalize mp0 t z = M0 at *
  generalize mp1 t z = M1 at *
  have K0 := Lib.hid (below_new (Below.refl w.heap.size w) (.cells #[.int .u64 a, .int .u64 b] 51))
  have c0 := (K0.out.cell (p := ⟨g, o, none⟩) hg).trans G1.out
  have c1 := (K0.out.cell (p := ⟨g, o + 1, none⟩) hg).trans G2.out
  go_enter Try.func94, Try.ntmps94
  go_wp2
  go_region_with (first
    | (go_at_call 124; refine (PA.out _ (by simpa using c0) (by simpa using c1)).mono ?_; rintro e w1 ⟨rfl, hB⟩; have K1 := Lib.hid (K0.out.drew.trans (hB.mono (by simp))); have m0 : w1.cell? ⟨w.heap.size, 0, none⟩ = some (.int .u64 a) := (hB.cell (p := ⟨w.heap.size, 0, none⟩) (by simp)).trans (by simp); have m1 : w1.cell? ⟨w.heap.size, 1, none⟩ = some (.int .u64 b) := (hB.cell (p := ⟨w.heap.size, 1, none⟩) (by simp)).trans (by simp); clear hB)
    | (go_at_call 123; refine (MT.out _).mono ?_; rintro e w2 ⟨rfl, hB⟩; have K2 := Lib.hid (K1.out.trans (hB.mono K1.out.size)); clear hB))
  all_goals go_wp2
  all_goals
    have SB := Lib.hid (bg_start w2 T0 T1 ms)
    clear c0 c1 m0 m1
    go_loopw [12] (fun i wr => ∃ j : Nat, j ≤ xs.length ∧ i = .int .i64 j ∧ Bg w2 wr T0 T1 ms j) (fun i _ => xs.length - (intOf i).toNat)
  all_goals try (case atStart => exact ⟨0, Nat.zero_le _, rfl, SB.out⟩)
  all_goals
    obtain ⟨j, hj, rfl, hS⟩ := hrel
    obtain ⟨v, hb, ha, O, hB⟩ := hS
    have HN2 := HN.out
    have OL : (ms.take j).length = j := by rw [List.length_take]; omega
    have OO := Lib.hid O
    have BB := Lib.hid hB
    have CB := Lib.hid hb
    have AB := Lib.hid ha
    have KK := Lib.hid (K2.out.trans (hB.mono K2.out.size))
    have s2 := K2.out.size
    clear O
    by_cases hjl : j < xs.length
    · have hd : decide ((j : Int) < (xs.length : Int)) = true := by simpa using hjl
      obtain ⟨b1, o1, rfl, hb1, q0⟩ := XI.out j hjl
      obtain ⟨n, hnz, en, em⟩ := AT.out j hjl
      obtain ⟨b2, o2, rfl, hb2, r0⟩ := H.out n hnz
      rw [en] at q0
      have d0 := (KK.out.cell (p := ⟨b1, o1 + j, none⟩) hb1).trans q0
      have d1 := (KK.out.cell (p := ⟨b2, o2 + n, none⟩) hb2).trans r0
      have y1 : b1 < wr.heap.size := Nat.lt_of_lt_of_le hb1 KK.out.size
      have y2 : b2 < wr.heap.size := Nat.lt_of_lt_of_le hb2 KK.out.size
      have i3 : (0 : Int) ≤ (j : Int) := by omega
      have i4 : (j : Int) < (xs.length : Int) := by omega
      have i5 : (0 : Int) ≤ (n : Int) := by omega
      have i6 : (n : Int) < (zs.length : Int) := by omega
      have g1 := (KK.out.cell (p := ⟨g, o, none⟩) hg).trans G1.out
      have g2 := (KK.out.cell (p := ⟨g, o + 1, none⟩) hg).trans G2.out
      have g3 := (KK.out.cell (p := ⟨g, o + 2, none⟩) hg).trans G3.out
      have C := HC.out (zs.getD n ⟨#[]⟩) (FT.out n hnz) wr g1 g2 g3
      change Calls _ _ _ wr (fun e w' => e = .returned (.agg #[.int .u64 (hw0 t z F (zs.getD n ⟨#[]⟩) : Int), .int .u64 (hw1 t z F (zs.getD n ⟨#[]⟩) : Int)]) ∧ Below wr.heap.size wr w') at C
      have C := Lib.hid C
      have EM := Lib.hid (show ms.getD j (0, 0) = ((hw0 t z F (zs.getD n ⟨#[]⟩) : Int), (hw1 t z F (zs.getD n ⟨#[]⟩) : Int)) from em)
      generalize (hw0 t z F (zs.getD n ⟨#[]⟩) : Int) = U at *
      generalize (hw1 t z F (zs.getD n ⟨#[]⟩) : Int) = V at *
      generalize zs.getD n ⟨#[]⟩ = sx at *
      clear q0 r0 en em hb1 hb2 hb ha hB g1 g2 g3
      go_wp2_with (go_at_call 98; refine C.out.mono ?_; rintro e w5 ⟨rfl, hB⟩; have B5 := Lib.hid hB; clear hB)
      have B6 := Lib.hid (below_new B5.out (.cells #[.int .u64 U, .int .u64 V] 51))
      have HB6 := Lib.hid (block_alloc w5 (.cells #[.int .u64 U, .int .u64 V] 51))
      clear d0 d1 y1 y2
      generalize w5.alloc (.cells #[.int .u64 U, .int .u64 V] 51) = W6 at B6 HB6 ⊢
      have B5s := B5.out.size
      generalize w5.heap.size = hx at *
      have CB6 := Lib.hid (Ab.block B6.out CB.out)
      have AB6 := Lib.hid (Ab.block B6.out AB.out)
      have O6 := Lib.hid (ownMs_kept OO.out B6.out)
      have BB6 := Lib.hid (BB.out.trans (B6.out.mono BB.out.size))
      obtain ⟨av, cv, rfl, _⟩ := ownMs_in OO.out
      have c6 := cell_of_block CB6.out
      have l6 := lt_of_block CB6.out
      have e6 := cell_of_block HB6.out
      have k6 := lt_of_block HB6.out
      have ln : ∀ k, (Value.slice av (ms.take j).length cv).ownBlock = some k → w2.heap.size + 2 ≤ k := ownMs_lt O6.out
      rw [OL] at ln
      have h7 : ∀ k, (Value.slice av (ms.take j).length cv).ownBlock = some k → k ≠ hx := fun k hk => Nat.ne_of_lt (Nat.lt_of_lt_of_le (World.ownsRow.lt OO.out k hk).2 B5s)
      rw [OL] at h7
      have E7 := Lib.hid h7
      clear h7
      have hO7 := O6.out
      unfold OwnMs at hO7
      rw [OL] at hO7
      have O7 := Lib.hid hO7
      have OLH := Lib.hid OL
      clear hO7
      go_region_law (refine step_append_lies _ (by rfl) _ _ 27 (by rfl) (w2.heap.size + 2) 51 i0 (.agg #[.int .u64 0, .int .u64 0]) 2 16 Try.underlying27 hi hz0 hz1 hz2 rfl (by decide) _ _ _ (by rfl) (World.ownsRow.drew (World.ownsRow.alloc O7.out _)) ⟨W6.heap.size, 0, none⟩ 1 1 [.int .u64 U, .int .u64 V] (by rfl) rfl (fun j u h => m_new W6 _ _ _ j u h) (fun x hx => by simp at hx; rcases hx with rfl | rfl <;> rfl) (by omega) (by unfold maxLen; omega) (by omega) (by simp; omega) _ rfl ?_; intro gg cap2 w7 hown hgrow _ _; have P := Lib.hid (ownMs_push (by rw [OLH.out]; exact hown)); have G := Lib.hid hgrow; have C7 := Lib.hid ((hgrow.block w2.heap.size (by simp; omega) (fun e => by have := ln _ e.symm; omega)).trans ((block_old W6 _ l6).trans CB6.out)); have c7 := cell_of_block C7.out; have f7 := free_of_block C7.out; clear hown hgrow)
      all_goals
        have A7 := Lib.hid ((G.out.block (w2.heap.size + 1) (by simp; omega) (fun e => by have := ln _ e.symm; omega)).trans ((block_old W6 _ (lt_of_block AB6.out)).trans AB6.out))
        have H7 := Lib.hid ((G.out.block hx (by simp; omega) (fun e => E7.out _ e.symm rfl)).trans ((block_old W6 _ k6).trans HB6.out))
        have hb3 := Below.grown (Below.refl (w2.heap.size + 2) _) G.out (by simp; omega) (fun k hk => ln k hk)
        have B7 : Below w2.heap.size w2 w7 := (show Below w2.heap.size w2 (W6.alloc _) from BB6.out.alloc BB6.out.size _).drew.trans (hb3.mono (by omega))
        have C8 : Hid ((w7.setCell ⟨w2.heap.size, 0, none⟩ (.slice (some ⟨gg, 0, none⟩) (j + 1) cap2)).heap[w2.heap.size]? = some (.cells #[.slice (some ⟨gg, 0, none⟩) (j + 1) cap2, .int .u64 T0, .int .u64 T1, .int .i64 0, .bool false] 114 (0, 0))) := Lib.hid (block_setCell (j := 0) _ C7.out)
        have A8 := Lib.hid ((Below.heap_setCell w7 ⟨w2.heap.size, 0, none⟩ (.slice (some ⟨gg, 0, none⟩) (j + 1) cap2) (w2.heap.size + 1) (show w2.heap.size + 1 ≠ w2.heap.size by omega)).trans A7.out)
        have H8 := Lib.hid ((Below.heap_setCell w7 ⟨w2.heap.size, 0, none⟩ (.slice (some ⟨gg, 0, none⟩) (j + 1) cap2) hx (show hx ≠ w2.heap.size by have := BB.out.size; have := lt_of_block CB.out; omega)).trans H7.out)
        have O8 : Hid (OwnMs (w2.heap.size + 2) (ms.take j ++ [(U, V)]) _ _) := Lib.hid (ownsRow_setCell_below P.out (a := ⟨w2.heap.size, 0, none⟩) (show w2.heap.size < w2.heap.size + 2 by omega) (.slice (some ⟨gg, 0, none⟩) (j + 1) cap2))
        have B8 : Hid (Below w2.heap.size w2 (w7.setCell ⟨w2.heap.size, 0, none⟩ (.slice (some ⟨gg, 0, none⟩) (j + 1) cap2))) := Lib.hid (B7.setCell (Nat.le_refl _) _)
        have T7 := Lib.hid (show ms.take (j + 1) = ms.take j ++ [(U, V)] by rw [take_snoc (by omega), EM.out])
        have X7 := Lib.hid (show jn0 ms (j + 1) = bits .or .u64 (jn0 ms j) U by rw [show jn0 ms (j + 1) = bits .or .u64 (jn0 ms j) (ms.getD j (0, 0)).1 from rfl, EM.out])
        have Y7 := Lib.hid (show jn1 ms (j + 1) = bits .or .u64 (jn1 ms j) V by rw [show jn1 ms (j + 1) = bits .or .u64 (jn1 ms j) (ms.getD j (0, 0)).2 from rfl, EM.out])
        clear c6 l6 e6 k6 c7 f7 hb3 B7 A7 H7 C7 G P ln OL
        generalize w7.setCell ⟨w2.heap.size, 0, none⟩ (.slice (some ⟨gg, 0, none⟩) (j + 1) cap2) = w8 at *
        have a8 := cell_of_block A8.out
        have h8 := cell_of_block H8.out
        have la := lt_of_block A8.out
        have lh := lt_of_block H8.out
        go_wp2_with (go_at_call 60; refine (sJoinM_below _ _ _ _ _).mono ?_; rintro e w9 ⟨rfl, hB⟩; have A9 := Lib.hid (Ab.block hB A8.out); have C9 := Lib.hid (Ab.block hB C8.out); have O9 := Lib.hid (ownMs_kept O8.out hB); have B9 := Lib.hid (B8.out.trans (hB.mono B8.out.size)); have a9 := cell_of_block A9.out; have f9 := free_of_block A9.out; clear hB)
        refine ⟨⟨j + 1, hjl, by rw [Int.natCast_succ], _, (Below.heap_setCell _ _ _ _ (show w2.heap.size ≠ w2.heap.size + 1 by omega)).trans ((Below.heap_setCell _ _ _ _ (show w2.heap.size ≠ w2.heap.size + 1 by omega)).trans C9.out), by rw [X7.out, Y7.out]; exact block_setCell _ (block_setCell _ A9.out), by rw [T7.out]; exact ownsRow_setCell_below (ownsRow_setCell_below O9.out (show w2.heap.size + 1 < w2.heap.size + 2 by omega) _) (show w2.heap.size + 1 < w2.heap.size + 2 by omega) _, (B9.out.setCell (Nat.le_succ _) _).setCell (Nat.le_succ _) _⟩, by (simp [intOf]) <;> omega⟩
    · have e : j = ms.length := by omega
      subst e
      have hd : decide ((ms.length : Int) < (xs.length : Int)) = false := by simp; omega
      have e2 : ms.take ms.length = ms := List.take_of_length_le (Nat.le_refl _)
      have O1 := OO.out
      rw [e2] at O1
      obtain ⟨av, cv, rfl, hMs⟩ := ownMs_in O1
      have MM := Lib.hid hMs
      have c6 := cell_of_block hb
      have a6 := cell_of_block ha
      have lc := lt_of_block hb
      have la := lt_of_block ha
      have he := eq_mask
      have hbw := cell_bw
      clear hb ha hB O1 hMs e2 OL OO
      go_wp2_with fail
      refine region_bw (by kernel_rfl) (by kernel_rfl) ?_
      repeat (go_big_quiet_step (fail))
      refine wpQuiet_nil ?_; intro wq hq; replace hq := below_of_bw hq; obtain ⟨qc, qf, qz⟩ := bcell hq
      go_wp2_with fail
      go_ret2
      exact ⟨w2.heap.size, av, cv, by rw [HN.out]; rfl, K2.out.size, Ab.block hq CB.out, masksIn_below MM.out hq, KK.out.trans (hq.mono KK.out.size)⟩
end Go.Proofs.Ytoippchkhknhpaa
