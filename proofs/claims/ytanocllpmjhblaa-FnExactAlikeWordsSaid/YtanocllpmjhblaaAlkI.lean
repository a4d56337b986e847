/- The pairs of words with the same holes: the program's contract. -/
import Derived.Test.YtanocllpmjhblaaGrpR
import Derived.Test.YtanocllpmjhblaaMkM
import Derived.Test.YtanocllpmjhblaaMkP
import Derived.Deep.DeepCutAuto
namespace Go.Proofs.Ytanocllpmjhblaa
open Go.ChangeShapes Go.WideShapes Go.ChangeAt Go.RowKit

theorem run_makeMapA {P : Program} {t k e : TypeId} (ht : P.underlying t = some (.map k e)) (n : Int) (w : World) : (Instr.makeMap t (some (.int .i64 n))).run P w = .ok (.map (some w.heap.size)) (w.alloc (.map #[] 0)) := by
  unfold Instr.makeMap
  simp [go_sem, run_underlying ht]
  try rfl
theorem ask_e (zs : List ByteArray) (m : Nat) : askC true [] zs m = wordsC zs m := ask_4 zs m rfl (by simp)
/-- The masks of the words: the first j, the others still empty. -/
def hsTo (h0 h1 : Nat → Int) (n j : Nat) : List (Int × Int) := (List.range n).map fun i => if i < j then (h0 i, h1 i) else (0, 0)
theorem hsTo_len (h0 h1 : Nat → Int) (n j : Nat) : (hsTo h0 h1 n j).length = n := by unfold hsTo; simp
theorem hsTo_at {h0 h1 : Nat → Int} {n j i : Nat} (hi : i < n) (hj : i < j) : (hsTo h0 h1 n j).getD i (0, 0) = (h0 i, h1 i) := by unfold hsTo; simp [List.getD, hi, hj]
theorem hsTo_zero (h0 h1 : Nat → Int) (n : Nat) : flatM (hsTo h0 h1 n 0) = List.replicate (n * 2) (.int .u64 0) := by
  have e : hsTo h0 h1 n 0 = List.replicate n (0, 0) := by
    unfold hsTo
    apply List.ext_getElem?
    intro i
    by_cases h : i < n <;> simp [h]
  rw [e]
  clear e
  induction n with
  | zero => rfl
  | succ n ih => rw [List.replicate_succ, show (n + 1) * 2 = n * 2 + 1 + 1 by omega, List.replicate_succ, List.replicate_succ, ← ih]; rfl
theorem hsTo_made (h0 h1 : Nat → Int) (n : Nat) : (madeCells #[.int .u64 0, .int .u64 0] (n * 2)).toList = flatM (hsTo h0 h1 n 0) := by
  rw [hsTo_zero]
  apply List.ext_getElem?
  intro i
  by_cases h : i < n * 2
  · rcases (show i % 2 = 0 ∨ i % 2 = 1 by omega) with e | e <;> simp [madeCells, h, e]
  · simp [madeCells, h]
theorem hsTo_next (h0 h1 : Nat → Int) (n j : Nat) : (hsTo h0 h1 n j).set j (h0 j, h1 j) = hsTo h0 h1 n (j + 1) := by
  unfold hsTo
  apply List.ext_getElem?
  intro i
  rw [List.getElem?_set]
  by_cases e : j = i
  · subst e; by_cases h : j < n <;> simp [h]
  · rw [if_neg e]
    by_cases hi : i < n
    · by_cases h1 : i < j
      · simp [hi, h1, show i < j + 1 by omega]
      · simp [hi, h1, show ¬ i < j + 1 by omega]
    · simp [hi]
/-- The pairs of one index. -/
def prM (j : Nat) (zs : List Int) : List (Int × Int) := zs.map fun k => ((j : Int), k)
theorem prI_rG (e : Nat → Bool) (j : Nat) : ∀ l, prI e j l = prM j (rG e (j + 1) l)
  | 0 => rfl
  | l + 1 => by
    show (if _ then _ else _) = prM j (if _ then _ else _)
    by_cases h : j < l ∧ e l = true
    · rw [if_pos h, if_pos ⟨h.1, h.2⟩, prI_rG e j l]
      unfold prM; rw [List.map_append]; rfl
    · rw [if_neg h, if_neg (fun x => h ⟨x.1, x.2⟩), prI_rG e j l]
theorem rG_congr {p q : Nat → Bool} (h : ∀ i, p i = q i) (j l : Nat) : rG p j l = rG q j l := by rw [show p = q from funext h]
theorem pr_grO (h0 h1 : Nat → Int) (n j : Nat) (e : Nat → Bool) (he : ∀ k, e k = ((h0 j == h0 k) && (h1 j == h1 k))) : prI e j n = prM j (grO h0 h1 n (j + 1) (h0 j) (h1 j)) := by
  rw [prI_rG]
  congr 1
  refine rG_congr (fun i => ?_) _ _
  rw [he]
  unfold hasM
  rw [Bool.eq_iff_iff]
  simp only [Bool.and_eq_true, beq_iff_eq]
  exact ⟨fun h => ⟨h.1.symm, h.2.symm⟩, fun h => ⟨h.1.symm, h.2.symm⟩⟩
theorem prM_take (j : Nat) (zs : List Int) (q : Nat) (hq : q < zs.length) : prM j (zs.take (q + 1)) = prM j (zs.take q) ++ [((j : Int), zs.getD q 0)] := by
  unfold prM
  rw [List.take_add_one, List.map_append, List.getElem?_eq_getElem hq]
  simp [List.getD, hq]
theorem prM_all (j : Nat) (zs : List Int) : prM j (zs.take zs.length) = prM j zs := by rw [List.take_length]
/-- The blocks of a world stand in another one, but for one. -/
def Std (b : Nat) (W w : World) : Prop := W.heap.size ≤ w.heap.size ∧ ∀ i, i < W.heap.size → i ≠ b → w.heap[i]? = W.heap[i]?
theorem Std.refl (b : Nat) (W : World) : Std b W W := ⟨Nat.le_refl _, fun _ _ _ => rfl⟩
theorem Std.ints {b : Nat} {W w : World} {a : Option Addr} {zs : List Int} (h : Std b W w) (hi : IntsIn W a zs) (hb : ∃ es c, W.heap[b]? = some (.map es c)) : IntsIn w a zs := fun i hl => by
  obtain ⟨g, off, ha, hlt, hc⟩ := hi i hl
  refine ⟨g, off, ha, Nat.lt_of_lt_of_le hlt h.1, ?_⟩
  have hne : g ≠ b := fun e => by
    subst e
    obtain ⟨es, c, hm⟩ := hb
    simp [World.cell?, hm] at hc
  rw [← hc]
  unfold World.cell?
  simp only [h.2 g hlt hne]
theorem Std.below {b : Nat} {W w w2 : World} (h : Std b W w) (hb : Below W.heap.size w w2) : Std b W w2 := ⟨Nat.le_trans h.1 hb.size, fun i hi hn => (hb.block i hi).trans (h.2 i hi hn)⟩
theorem Std.put {b : Nat} {W w w2 : World} (h : Std b W w) (hg : w.grownBy w2 (some b)) : Std b W w2 := ⟨Nat.le_trans h.1 hg.size, fun i hi hn => (hg.block i (Nat.lt_of_lt_of_le hi h.1) (fun e => hn (by injection e))).trans (h.2 i hi hn)⟩

set_option maxRecDepth 100000 in
set_option maxHeartbeats 6400000 in
theorem iAlike_any (t z p : Int) (ht : I16 t) (hz : I16 z) (F : Int → Nat) (hF : mixOk t z p = true → StopF t z p F) (ad : Option Addr) (zs : List ByteArray) (cap : Nat) (w : World) (h : StrsIn w ad zs) (hf : Fit zs) (hl : zs.length ≤ 9223372036854775807) :
    Calls Try.prog 13 #[.agg #[.int .i16 t, .int .i16 z, .int .i16 p], .slice ad zs.length cap] w (AkR (askC (mixOk t z p) [] zs 40) (akL (askC (mixOk t z p) [] zs 40) (prO (eqh t z F zs) zs.length zs.length)) w) := by
  have V := Lib.hid fun W => iValidMix_any t z p ht hz W
  have M0 := Lib.hid (block_alloc w (.cells #[.int .i16 t, .int .i16 z, .int .i16 p] 30))
  have B0 := Lib.hid (ab_new w (.cells #[.int .i16 t, .int .i16 z, .int .i16 p] 30))
  have S := Lib.hid fun W hb => iAreWords_any ad zs cap 40 W (strsIn_below h hb) hf hl
  have H := Lib.hid h
  have FT := Lib.hid hf
  clear h hf ht hz
  cases hv : mixOk t z p
  · rw [hv] at V
    rw [ask_1, akL_no (by decide)]
    clear hv hF
    go_enter Try.func13, Try.ntmps13
    go_wp2_with (first | (go_at_call 54; refine (V.out _).mono ?_; rintro e w1 ⟨rfl, hB⟩; have r1 := Lib.hid (Ab.trans B0.out hB); clear hB))
    go_ret2
    exact ⟨_, rfl, ownPs_nil _ _, r1.out⟩
  · rw [hv] at V
    have hF := hF hv
    obtain ⟨t0, z0, tz, p1, p8, pz⟩ := mix_inv hv
    clear hv
    rw [ask_e]
    cases hw : wordsOk zs 40
    · rw [hw] at S
      rw [wordsC_no hw, akL_no (by decide)]
      clear hw hF
      go_enter Try.func13, Try.ntmps13
      go_wp2_with (first | (go_at_call 54; refine (V.out _).mono ?_; rintro e w1 ⟨rfl, hB⟩; have r1 := Lib.hid (Ab.trans B0.out hB); clear hB) | (go_at_call 55; refine (S.out _ r1.out).mono ?_; rintro e w3 ⟨rfl, rfl⟩))
      go_ret2
      exact ⟨_, rfl, ownPs_nil _ _, r1.out⟩
    · rw [hw] at S
      rw [wordsC_yes hw, akL_yes]
      have hn : zs.length ≤ 40 := Nat.le_of_not_lt fun e => by rw [words_long e] at hw; cases hw
      clear hw
      have A := fun s hs W => iAll_any t z p F hF t0 z0 tz p1 p8 (some ⟨W.heap.size, 0, none⟩) [s] 1 (W.alloc (.cells #[.string s] 9)) (strs_one W s _) (fit_one hs) (by simp)
      simp only [List.length_cons, List.length_nil, Nat.zero_add, A0_one, A1_one] at A
      have A := Lib.hid A
      have UU : Hid (∀ i, U64 (hw0 t z F (zs.getD i ⟨#[]⟩) : Int) ∧ U64 (hw1 t z F (zs.getD i ⟨#[]⟩) : Int)) := Lib.hid fun i => by
        obtain ⟨l0, l1⟩ := N_lt (a := ck (zs.getD i ⟨#[]⟩) (zs.getD i ⟨#[]⟩).size) t0 (show 0 < z by omega) tz (F (ck (zs.getD i ⟨#[]⟩) (zs.getD i ⟨#[]⟩).size))
        exact ⟨⟨by omega, by unfold hw0; omega⟩, ⟨by omega, by unfold hw1; omega⟩⟩
      have EQ := Lib.hid (show ∀ i k, eqh t z F zs i k = (((hw0 t z F (zs.getD i ⟨#[]⟩) : Int) == (hw0 t z F (zs.getD k ⟨#[]⟩) : Int)) && ((hw1 t z F (zs.getD i ⟨#[]⟩) : Int) == (hw1 t z F (zs.getD k ⟨#[]⟩) : Int))) from fun _ _ => rfl)
      have HD : ∃ h0 h1 : Nat → Int, (∀ i, (hw0 t z F (zs.getD i ⟨#[]⟩) : Int) = h0 i) ∧ ∀ i, (hw1 t z F (zs.getD i ⟨#[]⟩) : Int) = h1 i := ⟨_, _, fun _ => rfl, fun _ => rfl⟩
      obtain ⟨h0, h1, E0, E1⟩ := HD
      have E0 := Lib.hid E0
      have E1 := Lib.hid E1
      have U2 : Hid (∀ i, U64 (h0 i) ∧ U64 (h1 i)) := Lib.hid fun i => by rw [← E0.out, ← E1.out]; exact UU.out i
      have EQ2 : Hid (∀ i k, eqh t z F zs i k = ((h0 i == h0 k) && (h1 i == h1 k))) := Lib.hid fun i k => by rw [← E0.out, ← E1.out, ← E0.out, ← E1.out]; exact EQ.out i k
      have A2 : Hid (∀ i, i < zs.length → ∀ W : World, Calls Try.prog 56 #[.agg #[.int .i16 t, .int .i16 z, .int .i16 p], .slice (some ⟨W.heap.size, 0, none⟩) 1 1] (W.alloc (.cells #[.string (zs.getD i ⟨#[]⟩)] 9)) fun e w' => e = .returned (.agg #[.int .u64 (h0 i), .int .u64 (h1 i)]) ∧ Below (W.alloc (.cells #[.string (zs.getD i ⟨#[]⟩)] 9)).heap.size (W.alloc (.cells #[.string (zs.getD i ⟨#[]⟩)] 9)) w') := Lib.hid fun i hi W => by
        rw [← E0.out, ← E1.out]; exact A.out _ (FT.out i hi) W
      clear A UU EQ E0 E1 hF t0 z0 tz p1 p8 pz FT
      generalize eqh t z F zs = E at *
      obtain ⟨k0, hk, hk0, hk1, hk2⟩ := info_parts info_maskW
      obtain ⟨i0, hi, hz0, hz1, hz2⟩ := info_parts info_i64
      obtain ⟨jj0, hjj, hjj0, hjj1, hjj2⟩ := info_parts info_pair
      have hmm := fun n W => run_makeMapA Try.underlying98 n W
      go_enter Try.func13, Try.ntmps13
      go_wp2_with (first | (go_at_call 54; refine (V.out _).mono ?_; rintro e w1 ⟨rfl, hB⟩; have r1 := Lib.hid (Ab.trans B0.out hB); have m1 := Lib.hid (Ab.block hB M0.out); have s1 := hB.size; clear hB) | (go_at_call 55; refine (S.out _ r1.out).mono ?_; rintro e w3 ⟨rfl, rfl⟩) | (at_make; refine wpList_make_full _ rfl _ _ 93 rfl w1.heap.size 53 k0 (.agg #[.int .u64 0, .int .u64 0]) 2 Try.underlying93 hk hk0 hk1 _ _ _ _ zs.length rfl rfl rfl rfl (by rw [hk2]; omega) (by unfold maxLen; omega) (Nat.le_refl _) ?_; intro w4 hown hgrow; have O4 := Lib.hid hown; have G4 := Lib.hid hgrow; clear hown hgrow))
      have s4 := G4.out.size
      have O0 : Hid (w4.ownsRow w1.heap.size 53 2 (.slice (some ⟨w1.heap.size, 0, none⟩) zs.length zs.length) zs.length (flatM (hsTo h0 h1 zs.length 0))) := Lib.hid (by have := O4.out; rwa [show (Value.agg #[.int .u64 0, .int .u64 0]).cells = #[.int .u64 0, .int .u64 0] from rfl, hsTo_made h0 h1] at this)
      have l4 := Lib.hid (World.ownsRow.lt O0.out w1.heap.size rfl).2
      have M4 := Lib.hid ((G4.out.block w.heap.size (lt_of_block m1.out) (fun e => by cases e)).trans m1.out)
      have B4 := Lib.hid (Below.grown r1.out G4.out r1.out.size (fun k hk => by cases hk))
      have S1 : Hid (w.heap.size + 1 ≤ w1.heap.size) := Lib.hid (by simpa using s1)
      clear O4 G4 hmm r1 m1 s1 s4 M0 B0 S V
      go_loopw [29] (fun i wr => ∃ j : Nat, j ≤ zs.length ∧ i = .int .i64 j ∧ wr.ownsRow w1.heap.size 53 2 (.slice (some ⟨w1.heap.size, 0, none⟩) zs.length zs.length) zs.length (flatM (hsTo h0 h1 zs.length j)) ∧ GrpM wr (w4.heap.size + 1) w4.heap.size j (grI h0 h1 j) ∧ wr.heap[w.heap.size]? = some (.cells #[.int .i16 t, .int .i16 z, .int .i16 p] 30 (0, 0)) ∧ w4.heap.size + 1 ≤ wr.heap.size ∧ Below w.heap.size w wr) (fun i _ => zs.length - (intOf i).toNat)
      case atStart => exact ⟨0, Nat.zero_le _, rfl, O0.out.alloc _, grpM_made w4, (block_old _ _ (lt_of_block M4.out)).trans M4.out, by simp, B4.out.alloc B4.out.size _⟩
      case round =>
        obtain ⟨j, hj, rfl, O, G, M, hs, hB⟩ := hrel
        have OO := Lib.hid O
        have GG := Lib.hid G
        have MM := Lib.hid M
        have HS := Lib.hid hs
        have BB := Lib.hid hB
        clear O0 M4 B4
        by_cases hjl : j < zs.length
        · have hd : decide ((j : Int) < (zs.length : Int)) = true := by simpa using hjl
          obtain ⟨b1, o1, rfl, hb1, q1⟩ := H.out j hjl
          have d1 := (hB.cell (p := ⟨b1, o1 + j, none⟩) hb1).trans q1
          have c0 := cell_of_block M
          have i3 : (0 : Int) ≤ (j : Int) := by omega
          have i4 : (j : Int) < (zs.length : Int) := by omega
          have A3 := Lib.hid (A2.out j hjl wr)
          have nxG := Lib.hid (grI_add h0 h1 j)
          have nxH := Lib.hid (hsTo_next h0 h1 zs.length j)
          have atH := Lib.hid (hsTo_at (h0 := h0) (h1 := h1) (n := zs.length) (j := j + 1) (i := j) hjl (Nat.lt_succ_self j))
          have UJ := Lib.hid (U2.out j)
          have LH := Lib.hid (hsTo_len h0 h1 zs.length j)
          have LH2 := Lib.hid (hsTo_len h0 h1 zs.length (j + 1))
          have FG := Lib.hid (flatM_get (hsTo h0 h1 zs.length (j + 1)) j (by rw [hsTo_len]; exact hjl))
          have F1 := Lib.hid (flatM_get (hsTo h0 h1 zs.length j) j (by rw [hsTo_len]; exact hjl))
          have FS := Lib.hid (flatM_set (hsTo h0 h1 zs.length j) j (h0 j, h1 j))
          clear q1 hb1 O G M hs hB
          generalize zs.getD j ⟨#[]⟩ = s at *
          go_upto_region 11 with (go_at_call 56; refine A3.out.mono ?_; rintro e wx ⟨rfl, hB⟩; have C1 := Lib.hid (Ab.trans (ab_new wr _) hB); have O1 := Lib.hid (row_kept OO.out C1.out); have r0 := (World.ownsRow.cellAt O1.out (j * 2) (by omega)).trans F1.out.1; have r1 := (World.ownsRow.cellAt O1.out (j * 2 + 1) (by omega)).trans F1.out.2; have z0 := World.ownsRow.frozenAt O1.out (j * 2); have z1 := World.ownsRow.frozenAt O1.out (j * 2 + 1); clear hB)
          have S2 := (World.ownsRow.stored O1.out (j * 2) (.int .u64 (h0 j))).1
          have S3 := (World.ownsRow.stored S2 (j * 2 + 1) (.int .u64 (h1 j))).1
          rw [FS.out, nxH.out] at S3
          have O5 := Lib.hid S3
          have G5 := Lib.hid (GrpM.kept (GG.out.below C1.out) (w2 := (wx.setCell ⟨w1.heap.size, j * 2, none⟩ (.int .u64 (h0 j))).setCell ⟨w1.heap.size, j * 2 + 1, none⟩ (.int .u64 (h1 j))) (by simp) (fun i hi _ => by have := l4.out; rw [Below.heap_setCell _ _ _ _ (show i ≠ w1.heap.size by omega), Below.heap_setCell _ _ _ _ (show i ≠ w1.heap.size by omega)]))
          have M5 : Hid (((wx.setCell ⟨w1.heap.size, j * 2, none⟩ (.int .u64 (h0 j))).setCell ⟨w1.heap.size, j * 2 + 1, none⟩ (.int .u64 (h1 j))).heap[w.heap.size]? = some (.cells #[.int .i16 t, .int .i16 z, .int .i16 p] 30 (0, 0))) := Lib.hid (by have := S1.out; rw [Below.heap_setCell _ _ _ _ (show w.heap.size ≠ w1.heap.size by omega), Below.heap_setCell _ _ _ _ (show w.heap.size ≠ w1.heap.size by omega)]; exact Ab.block C1.out MM.out)
          have B5 : Hid (Below w.heap.size w ((wx.setCell ⟨w1.heap.size, j * 2, none⟩ (.int .u64 (h0 j))).setCell ⟨w1.heap.size, j * 2 + 1, none⟩ (.int .u64 (h1 j)))) := Lib.hid (((BB.out.trans (Below.mono C1.out BB.out.size)).setCell (by have := S1.out; show w.heap.size ≤ w1.heap.size; omega) _).setCell (by have := S1.out; show w.heap.size ≤ w1.heap.size; omega) _)
          have H5 : Hid (w4.heap.size + 1 ≤ ((wx.setCell ⟨w1.heap.size, j * 2, none⟩ (.int .u64 (h0 j))).setCell ⟨w1.heap.size, j * 2 + 1, none⟩ (.int .u64 (h1 j))).heap.size) := Lib.hid (by rw [World.size_setCell, World.size_setCell]; exact Nat.le_trans HS.out C1.out.size)
          clear S2 S3 r0 r1 z0 z1 d1 c0 O1 GG MM BB HS OO C1 A3
          generalize (wx.setCell ⟨w1.heap.size, j * 2, none⟩ (.int .u64 (h0 j))).setCell ⟨w1.heap.size, j * 2 + 1, none⟩ (.int .u64 (h1 j)) = wy at *
          have e0 := (World.ownsRow.cellAt O5.out (j * 2) (by omega)).trans FG.out.1
          have e1 := (World.ownsRow.cellAt O5.out (j * 2 + 1) (by omega)).trans FG.out.2
          rw [atH.out] at e0 e1
          simp only at e0 e1
          have l5 := (World.ownsRow.lt O5.out w1.heap.size rfl).2
          obtain ⟨v, st, wq, hrun, hown, hlen, hnews, hsz, hback⟩ := grp_step G5.out (by unfold maxLen; omega) H5.out (h0 j) (h1 j) UJ.out.1 UJ.out.2 (j : Int) (by simp [Lit.wf, IntKind.min, IntKind.max, IntKind.signed, IntKind.bits]; omega)
          rw [nxG.out] at hback
          have HW := Lib.hid hown
          have HN := Lib.hid hnews
          have HK := Lib.hid hback
          have LL := hlen
          have HZ := Lib.hid hsz
          clear hown hnews hback hlen hsz
          generalize grI h0 h1 j (h0 j) (h1 j) = gs at *
          go_wp2_with (at_builtin; refine wpList_append_own_at _ rfl _ _ 56 rfl (w4.heap.size + 1) 2 i0 (.int .i64 0) 1 8 Try.underlying56 hi hz0 hz1 hz2 rfl (by decide) _ _ _ rfl HW.out.1 ⟨wy.heap.size, 0, none⟩ 1 1 [.int .i64 (j : Int)] rfl rfl HN.out (fun x hx => by simp at hx; subst hx; rfl) (by unfold maxLen; omega) (by omega) HZ.out ?_; intro v' w7 hown hgrow _ hloc; obtain ⟨w8, hst, G8, B8⟩ := HK.out v' w7 hown hgrow hloc; clear hown hgrow hloc)
          have L4 := l4.out
          have BB8 := Lib.hid B8
          refine ⟨⟨j + 1, hjl, by rw [Int.natCast_succ], ?_, G8, ?_, Nat.le_trans H5.out B8.size, ?_⟩, by (simp [intOf]) <;> omega⟩
          · obtain ⟨a1, a2⟩ := O5.out
            refine ⟨a1, ?_⟩
            rcases a2 with hn | ⟨b, cp, cur, hv, hB, hh, rest⟩
            · exact .inl hn
            · injection hv with hv1 hv2 hv3
              injection hv1 with hv1
              injection hv1 with hv1
              subst hv1
              subst hv3
              exact .inr ⟨_, _, cur, rfl, hB, (B8.block _ L4).trans hh, rest⟩
          · exact (B8.block _ (by have := S1.out; omega)).trans M5.out
          · exact B5.out.trans (Below.mono B8 (by have := S1.out; omega))
        · have e : j = zs.length := by omega
          subst e
          have hd : decide ((zs.length : Int) < (zs.length : Int)) = false := by simp
          have XX := Lib.hid (GrpM.rows G (by unfold maxLen; omega))
          have OB := Lib.hid G.obj
          have BL := Lib.hid G.blt
          clear O G M hs hB GG MM HS A2 H
          generalize wr = W2 at *
          rw [grI_grO] at XX
          go_wp2_with fail
          go_loopw [10, 55] (fun v i wl => ∃ j : Nat, j ≤ zs.length ∧ i = .int .i64 j ∧ OwnPs W2.heap.size (prO E zs.length j) v wl ∧ GrpR W2 wl w4.heap.size (zs.length + j) (grO h0 h1 zs.length j) ∧ Std w4.heap.size W2 wl ∧ Below w.heap.size w wl) (fun _ i _ => zs.length - (intOf i).toNat)
          case atStart => exact ⟨0, Nat.zero_le _, rfl, ownPs_nil _ _, XX.out, Std.refl _ _, BB.out⟩
          case round =>
            obtain ⟨j, hj, rfl, O, G, hS, hB⟩ := hrel
            have OP := Lib.hid O
            have GG := Lib.hid G
            have SS := Lib.hid hS
            have BW := Lib.hid hB
            have al := prO_len E zs.length j
            by_cases hjl : j < zs.length
            · have hd : decide ((j : Int) < (zs.length : Int)) = true := by simpa using hjl
              have i3 : (0 : Int) ≤ (j : Int) := by omega
              have i4 : (j : Int) < (zs.length : Int) := by omega
              have F1 := flatM_get (hsTo h0 h1 zs.length zs.length) j (by rw [hsTo_len]; exact hjl)
              rw [hsTo_at hjl hjl] at F1
              have F1 := Lib.hid F1
              have l4' := l4.out
              have l6 := (World.ownsRow.lt OO.out w1.heap.size rfl).2
              have sb : wr.heap[w1.heap.size]? = W2.heap[w1.heap.size]? := hS.2 _ l6 (by omega)
              have e0 := (World.ownsRow.cellAt OO.out (j * 2) (by omega)).trans F1.out.1
              have e1 := (World.ownsRow.cellAt OO.out (j * 2 + 1) (by omega)).trans F1.out.2
              have e0 : wr.cell? ⟨w1.heap.size, j * 2, none⟩ = some (.int .u64 (h0 j)) := by rw [← e0]; unfold World.cell?; simp only [sb]
              have e1 : wr.cell? ⟨w1.heap.size, j * 2 + 1, none⟩ = some (.int .u64 (h1 j)) := by rw [← e1]; unfold World.cell?; simp only [sb]
              have l7 : w1.heap.size < wr.heap.size := Nat.lt_of_lt_of_le l6 hS.1
              have HD0 := Lib.hid (grO_head h0 h1 zs.length j hjl)
              have TL0 := Lib.hid (grO_tail h0 h1 zs.length j)
              have PR0 := Lib.hid (pr_grO h0 h1 zs.length j (E j) (EQ2.out j))
              have PN0 := Lib.hid (show prO E zs.length (j + 1) = prO E zs.length j ++ prI (E j) j zs.length from rfl)
              have UJ := Lib.hid (U2.out j)
              have LR : (grO h0 h1 zs.length (j + 1) (h0 j) (h1 j)).length ≤ zs.length := rG_len _ _ _
              have RB := Lib.hid (block_alloc wr (.cells #[.int .u64 (h0 j), .int .u64 (h1 j)] 53))
              have G1 := Lib.hid (GrpR.kept G (World.grownBy_alloc wr (.cells #[.int .u64 (h0 j), .int .u64 (h1 j)] 53) none) (by simp))
              have S1' := Lib.hid (Std.below hS (Below.mono (below_new (Below.refl wr.heap.size wr) (.cells #[.int .u64 (h0 j), .int .u64 (h1 j)] 53)) hS.1))
              have B1' := Lib.hid (hB.alloc hB.size (.cells #[.int .u64 (h0 j), .int .u64 (h1 j)] 53))
              have O1' := Lib.hid (ownPs_kept O (ab_new wr (.cells #[.int .u64 (h0 j), .int .u64 (h1 j)] 53)))
              have ml : (prO E zs.length j).length ≤ 1600 := Nat.le_trans al (Nat.le_trans (Nat.mul_le_mul (Nat.le_trans hj hn) hn) (by omega))
              have bl0 := G.lt
              clear O G hS hB sb l6 al OP GG SS BW
              generalize prO E zs.length j = ys at *
              go_upto_region 17 with fail
              generalize wr.alloc (.cells #[.int .u64 (h0 j), .int .u64 (h1 j)] 53) = wa at *
              obtain ⟨a, c, hlc, hi1, LK⟩ := G1.out.lookA (h0 j) (h1 j) UJ.out.1 UJ.out.2
              rw [HD0.out] at hlc hi1 LK
              obtain ⟨g, o, rfl, _, _⟩ := hi1 0 (by simp)
              have IT := Lib.hid (intsIn_tail hi1)
              have LK := Lib.hid LK
              have HL : Hid (((j : Int) :: grO h0 h1 zs.length (j + 1) (h0 j) (h1 j)).length = (grO h0 h1 zs.length (j + 1) (h0 j) (h1 j)).length + 1) := Lib.hid rfl
              clear hi1
              generalize hrest : grO h0 h1 zs.length (j + 1) (h0 j) (h1 j) = rest at *
              have hrest := Lib.hid hrest
              generalize ((j : Int) :: rest).length = L at *
              have L1 : 1 ≤ L := by rw [HL.out]; omega
              refine wp_region_last 6 (by kernel_rfl) rfl rfl (by kernel_rfl) (by kernel_rfl) rfl ?_
              simp only [List.take_succ_cons, List.take_zero]
              intro wb hb9
              have c0 := cell_of_block (hb9.block RB.out)
              have s0 := lt_of_block (hb9.block RB.out)
              have hbw := cell_bw
              have bl4 := G1.out.lt
              have LQ : ∀ p : Regrown, (Instr.lookup 98 (.map (some w4.heap.size)) (.agg #[.int .u64 (h0 j), .int .u64 (h1 j)]) false).run Try.prog (bw wb p) = .ok (.slice (some ⟨g, o, none⟩) L c) (bw wb p) := fun p => LK.out _ (((below_bw wb p).block _ (Nat.lt_of_lt_of_le bl4 hb9.size)).trans ((show Below wa.heap.size wa wb from hb9).block _ bl4))
              repeat (go_big_quiet_step (fail))
              refine wpQuiet_nil ?_
              intro w3 h3
              have RD : RdsAt W2 (.slice (if c = 1 then some ⟨g, o, none⟩ else some ⟨g, o + 1, none⟩) (L - 1) (c - 1)) rest := by
                have e := HL.out
                refine ⟨_, c - 1, by rw [show L - 1 = rest.length by omega], by omega, ?_⟩
                by_cases q : c = 1
                · exact fun i hi => by omega
                · rw [if_neg q]; exact IT.out
              obtain ⟨w5, hput, G5, gr5⟩ := (G1.out.same ((show Below wa.heap.size wa w3 from h3).block _ bl4)).put (by unfold maxLen; omega) (h0 j) (h1 j) UJ.out.1 UJ.out.2 _ rest RD
              rw [TL0.out] at G5
              have h3' : Below wa.heap.size wa w3 := h3
              have RB5 := Lib.hid ((gr5.block wr.heap.size (lt_of_block (h3.block RB.out)) (fun e => by injection e with e; omega)).trans (h3.block RB.out))
              have O5 := Lib.hid (row_grown (ownPs_kept O1'.out h3') gr5 (fun k hk e => by have := ownPs_lt O1'.out k hk; injection e with e; have := BL.out.1; omega))
              have S5 := Lib.hid ((S1'.out.below (Below.mono h3' S1'.out.1)).put gr5)
              have B5 := Lib.hid (Below.grown (B1'.out.trans (Below.mono h3' B1'.out.size)) gr5 (Nat.le_trans B1'.out.size h3'.size) (fun k hk => by injection hk with hk; have := S1.out; have := l4.out; omega))
              have G5 := Lib.hid G5
              clear RD
              generalize (if c = 1 then some (⟨g, o, none⟩ : Addr) else some ⟨g, o + 1, none⟩) = av at *
              go_simp
              simp only [Yld]
              clear LQ c0 s0 hbw h3 h3' hb9 RB O1' S1' B1' G1 gr5 hput IT LK TL0 e0 e1
              have c0 := cell_of_block RB5.out
              have s0 := lt_of_block RB5.out
              obtain ⟨a2, c2, hlc2, hi2, LK2⟩ := G5.out.lookA (h0 j) (h1 j) UJ.out.1 UJ.out.2
              rw [hrest.out] at hi2 LK2
              have LQ := LK2 w5 rfl
              have I2 := Lib.hid hi2
              have LR2 : rest.length ≤ zs.length := LR
              clear hlc2 hi2 LK2
              go_wp2_with fail
              have PN : Hid (prO E zs.length (j + 1) = ys ++ prM j rest) := Lib.hid (by rw [PN0.out, PR0.out])
              clear c0 s0 LQ PN0 PR0 EQ2 HL L1 hlc
              go_loopw [10, 70] (fun v i wr => ∃ q : Nat, q ≤ rest.length ∧ i = .int .i64 q ∧ OwnPs W2.heap.size (ys ++ prM j (rest.take q)) v wr ∧ GrpR W2 wr w4.heap.size (zs.length + j + 1) (grO h0 h1 zs.length (j + 1)) ∧ Std w4.heap.size W2 wr ∧ Below w.heap.size w wr) (fun _ i _ => rest.length - (intOf i).toNat)
              case atStart => exact ⟨0, Nat.zero_le _, rfl, by rw [List.take_zero]; show OwnPs _ (ys ++ []) _ _; rw [List.append_nil]; exact O5.out, G5.out, S5.out, B5.out⟩
              case round =>
                obtain ⟨q, hq, rfl, O, G, hS, hB⟩ := hrel
                have OP := Lib.hid O
                have GG := Lib.hid G
                have SS := Lib.hid hS
                have BW := Lib.hid hB
                have zs1 := hB.size
                have zs2 := hS.1
                clear O5 G5 S5 B5 RB5
                by_cases hql : q < rest.length
                · have hd2 : decide ((q : Int) < (rest.length : Int)) = true := by simpa using hql
                  obtain ⟨g2, o2, rfl, hg2, hc2⟩ := SS.out.ints I2.out OB.out q hql
                  have TK := Lib.hid (prM_take j rest q hql)
                  have tl : (prM j (rest.take q)).length ≤ 40 := by unfold prM; rw [List.length_map, List.length_take]; omega
                  have i5 : (0 : Int) ≤ (q : Int) := by omega
                  have i6 : (q : Int) < (rest.length : Int) := by omega
                  have bl2 := BL.out.1
                  clear O G hS hB
                  generalize hps : ys ++ prM j (rest.take q) = ps at *
                  have pl : ps.length ≤ 1640 := by rw [← hps, List.length_append]; omega
                  have HP := Lib.hid hps
                  clear hps tl
                  generalize rest.getD q 0 = x at *
                  have O6 := Lib.hid (World.ownsRow.alloc OP.out (.cells #[.int .i64 (j : Int), .int .i64 x] 95))
                  go_wp2_with (at_builtin; refine wpList_append_own _ rfl _ _ 27 rfl W2.heap.size 95 jj0 (.agg #[.int .i64 0, .int .i64 0]) 2 16 Try.underlying27 hjj hjj0 hjj1 hjj2 rfl (by decide) _ _ _ rfl O6.out ⟨wr.heap.size, 0, none⟩ 1 1 [.int .i64 (j : Int), .int .i64 x] rfl rfl (m_new _ _ _ _) (fun x hx => by simp at hx; rcases hx with rfl | rfl <;> rfl) (by unfold maxLen; omega) (by omega) (by simp; omega) ?_; intro v' w7 hown hgrow _; have P := Lib.hid (ownPs_push hown); have Gr := Lib.hid hgrow; clear hown hgrow)
                  have ow := ownPs_lt OP.out
                  refine ⟨⟨q + 1, hql, by rw [Int.natCast_succ], by rw [TK.out, ← List.append_assoc, HP.out]; exact P.out, ?_, ?_, ?_⟩, by (simp [intOf]) <;> omega⟩
                  · exact (GG.out.kept (World.grownBy_alloc wr (.cells #[.int .i64 (j : Int), .int .i64 x] 95) none) (by simp)).kept Gr.out (fun e => by have := ow _ e.symm; omega)
                  · exact SS.out.below (Below.grown (Below.mono (below_new (Below.refl wr.heap.size wr) _) zs2) Gr.out (by simp; omega) (fun k hk => ow k hk))
                  · exact Below.grown (BW.out.alloc zs1 _) Gr.out (by simp; omega) (fun k hk => by have := ow k hk; have := BB.out.size; omega)
                · have e : q = rest.length := by omega
                  subst e
                  have hd2 : decide ((rest.length : Int) < (rest.length : Int)) = false := by simp
                  clear O G hS hB
                  rw [prM_all] at OP
                  go_wp2_with fail
                  exact ⟨⟨j + 1, hjl, by rw [Int.natCast_succ], by rw [PN.out]; exact OP.out, GG.out, SS.out, BW.out⟩, by (simp [intOf]) <;> omega⟩
            · have e : j = zs.length := by omega
              subst e
              have hd : decide ((zs.length : Int) < (zs.length : Int)) = false := by simp
              clear O G hS hB
              go_wp2
              go_ret2
              exact ⟨_, rfl, ownPs_weaken OP.out BB.out.size, BW.out⟩
end Go.Proofs.Ytanocllpmjhblaa
