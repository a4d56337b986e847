/- What a mask says about words: the program's hint. -/
import Derived.Test.YtoippchkhknhpaaMay
import Derived.Test.YtoippchkhknhpaaMPart
import Derived.OneCell
import Derived.Below
namespace Go.Proofs.Ytoippchkhknhpaa
open Go.ChangeShapes Go.WideShapes Go.ChangeAt Go.RowKit

theorem info_maskW : (Try.prog.info? 51).map (fun i => (i.zero, i.size, i.bytes)) = some (some (.agg #[.int .u64 0, .int .u64 0]), 2, 16) := by kernel_rfl
/-- Masks of the call's own, n of them. -/
def OwnM (B : Nat) (u : Value) (n : Nat) (w : World) : Prop := ∃ ms, w.ownsRow B 51 2 u n ms
theorem ownM_in {B n : Nat} {u : Value} {w : World} (h : OwnM B u n w) : ∃ a c, u = .slice a n c := by
  obtain ⟨ms, _, h2⟩ := h
  rcases h2 with ⟨rfl, hn⟩ | ⟨g, cap, _, rfl, _⟩
  · exact ⟨none, 0, by rw [hn]⟩
  · exact ⟨_, _, rfl⟩
theorem row_slice {w : World} {B e k n : Nat} {v : Value} {xs : List Value} (h : w.ownsRow B e k v n xs) : ∃ a c, v = .slice a n c := by
  obtain ⟨_, h2⟩ := h
  rcases h2 with ⟨rfl, hn⟩ | ⟨g, cap, _, rfl, _⟩
  · exact ⟨none, 0, by rw [hn]⟩
  · exact ⟨_, _, rfl⟩
theorem rows_ne {w : World} {B e f k l n m : Nat} {u v : Value} {xs ys : List Value} (h : w.ownsRow B e k v n xs) (g : w.ownsRow B f l u m ys) (hne : e ≠ f) : ∀ j, v.ownBlock = some j → u.ownBlock ≠ some j := by
  obtain ⟨_, h2⟩ := h
  obtain ⟨_, g2⟩ := g
  intro j hj hk
  rcases h2 with ⟨rfl, _⟩ | ⟨b, _, _, rfl, _, hb, _⟩
  · cases hj
  rcases g2 with ⟨rfl, _⟩ | ⟨b2, _, _, rfl, _, hb2, _⟩
  · cases hk
  cases hj
  cases hk
  have e2 := hb.symm.trans hb2
  injection e2 with e2
  injection e2 with _ e2 _
  exact hne e2
theorem row_grown {w w' : World} {B e k n : Nat} {v : Value} {r : Option Nat} {xs : List Value} (h : w.ownsRow B e k v n xs) (hg : w.grownBy w' r) (hne : ∀ j, v.ownBlock = some j → r ≠ some j) : w'.ownsRow B e k v n xs := by
  obtain ⟨h1, h2⟩ := h
  refine ⟨h1, ?_⟩
  rcases h2 with hn | ⟨b, cap, cur, rfl, hB, hb, rest⟩
  · exact .inl hn
  · exact .inr ⟨b, cap, cur, rfl, hB, (hg.block b (Array.getElem?_eq_some_iff.1 hb).1 (fun e => hne b rfl e.symm)).trans hb, rest⟩
theorem row_kept {w w' : World} {B e k n : Nat} {v : Value} {xs : List Value} (h : w.ownsRow B e k v n xs) (hb : Below w.heap.size w w') : w'.ownsRow B e k v n xs := by
  obtain ⟨h1, h2⟩ := h
  refine ⟨h1, ?_⟩
  rcases h2 with hn | ⟨b, cap, cur, rfl, hB, hh, rest⟩
  · exact .inl hn
  · exact .inr ⟨b, cap, cur, rfl, hB, (hb.block b (Array.getElem?_eq_some_iff.1 hh).1).trans hh, rest⟩
theorem m_nil (B : Nat) (w : World) : OwnM B (.slice none 0 0) 0 w := ⟨[], by simp, .inl ⟨rfl, rfl⟩⟩
theorem m_new (w : World) (x y : Value) (t : TypeId) : ∀ j u, [x, y][j]? = some u → (w.alloc (.cells #[x, y] t)).cell? ((⟨w.heap.size, 0, none⟩ : Addr).add j) = some u := by
  intro j u h
  match j, h with
  | 0, h => simp at h; subst h; simp [Addr.add]
  | 1, h => simp at h; subst h; simp [Addr.add]
theorem strs_one (w : World) (s : ByteArray) (t : TypeId) : StrsIn (w.alloc (.cells #[.string s] t)) (some ⟨w.heap.size, 0, none⟩) [s] := fun i hi => by
  have hi0 : i = 0 := by simp at hi; omega
  subst hi0
  exact ⟨w.heap.size, 0, rfl, by simp, by simp⟩
theorem fit_one {s : ByteArray} (hs : s.size ≤ maxLen) : Fit [s] := fun i hi => by
  have hi0 : i = 0 := by simp at hi; omega
  subst hi0
  exact hs
theorem A0_one (t z : Int) (F : Int → Nat) (s : ByteArray) : A0 t z F [s] 1 = hw0 t z F s := Nat.zero_or _
theorem A1_one (t z : Int) (F : Int → Nat) (s : ByteArray) : A1 t z F [s] 1 = hw1 t z F s := Nat.zero_or _

/-- Three boxes: a mix, a mask, a hint, still empty. -/
def Rh (w wr : World) (t z p a b : Int) : Prop :=
  wr.heap[w.heap.size]? = some (.cells #[.int .i16 t, .int .i16 z, .int .i16 p] 30 (0, 0)) ∧ wr.heap[w.heap.size + 1]? = some (.cells #[.int .u64 a, .int .u64 b] 51 (0, 0)) ∧ wr.heap[w.heap.size + 2]? = some (.cells #[.int .u64 0, .int .u64 0, .slice none 0 0, .slice none 0 0] 116 (0, 0)) ∧ Below w.heap.size w wr
theorem rh_ab {w wr w' : World} {t z p a b : Int} (h : Rh w wr t z p a b) (k : Below wr.heap.size wr w') : Rh w w' t z p a b :=
  ⟨Ab.block k h.1, Ab.block k h.2.1, Ab.block k h.2.2.1, h.2.2.2.trans (Below.mono k h.2.2.2.size)⟩
theorem rh_start (w : World) (t z p a b : Int) : Rh w (((w.alloc (.cells #[.int .i16 t, .int .i16 z, .int .i16 p] 30)).alloc (.cells #[.int .u64 a, .int .u64 b] 51)).alloc (.cells #[.int .u64 0, .int .u64 0, .slice none 0 0, .slice none 0 0] 116)) t z p a b :=
  ⟨(block_alloc3 _ _ _ _).1, (block_alloc3 _ _ _ _).2.1, (block_alloc3 _ _ _ _).2.2, (by repeat' (first | (with_reducible exact Below.refl _ _) | (with_reducible assumption) | (with_reducible refine below_drewN ?_ _) | (with_reducible refine Below.drew ?_) | (with_reducible refine below_new ?_ _) | (with_reducible refine below_next ?_ (by with_reducible assumption)) | (with_reducible refine Below.setCell ?_ ?_ _) | go_size))⟩

/-- A hint and a code: the indices are the call's own. -/
def HintR (c : Int) (xs : List Int) (w : World) (e : Ending) (w' : World) : Prop := ∃ (x y : Int) (v : Value) (au : Option Addr) (n cu : Nat), e = .returned (.tuple #[.agg #[.int .u64 x, .int .u64 y, v, .slice au n cu], .int .i64 c]) ∧ OwnInts w.heap.size xs v w' ∧ Below w.heap.size w w'
theorem HintR.no {c : Int} {w w' : World} (hb : Below w.heap.size w w') : HintR c [] w (.returned (.tuple #[.agg #[.int .u64 0, .int .u64 0, .slice none 0 0, .slice none 0 0], .int .i64 c])) w' := ⟨_, _, _, _, _, _, rfl, u_nil _ _, hb⟩
/-- What is due: the code, and the indices. -/
def mayL (c : Int) (xs : List Int) : List Int := if c = 0 then xs else []
theorem mayL_no {c : Int} {xs : List Int} (h : c ≠ 0) : mayL c xs = [] := if_neg h
theorem mayL_yes (xs : List Int) : mayL 0 xs = xs := rfl

/-- The loop's boxes: the hint with its two slices, and the three boxes. -/
def HInv (w : World) (h : Nat) (t z p a b T0 T1 : Int) (xs : List Int) (j : Nat) (wr : World) : Prop := ∃ v u n, wr.heap[h]? = some (.cells #[.int .u64 T0, .int .u64 T1, v, u] 116 (0, 0)) ∧ OwnInts (h + 1) xs v wr ∧ OwnM (h + 1) u n wr ∧ n ≤ j ∧ Rh w wr t z p a b
theorem rh_grown {w wr w' : World} {t z p a b : Int} {r : Option Nat} (h : Rh w wr t z p a b) (hg : wr.grownBy w' r) (hne : ∀ k, r = some k → w.heap.size + 2 < k) : Rh w w' t z p a b := by
  obtain ⟨h0, h1, h2, hB⟩ := h
  exact ⟨(hg.block _ (lt_of_block h0) (fun e => by have := hne _ e.symm; omega)).trans h0, (hg.block _ (lt_of_block h1) (fun e => by have := hne _ e.symm; omega)).trans h1, (hg.block _ (lt_of_block h2) (fun e => by have := hne _ e.symm; omega)).trans h2, Below.grown hB hg hB.size (fun k hk => by have := hne _ hk; omega)⟩
theorem rh_set {w wr : World} {t z p a b : Int} {g k : Nat} (x : Value) (h : Rh w wr t z p a b) (hg : w.heap.size + 2 < g) : Rh w (wr.setCell ⟨g, k, none⟩ x) t z p a b := by
  obtain ⟨h0, h1, h2, hB⟩ := h
  exact ⟨(Below.heap_setCell _ _ _ _ (show w.heap.size ≠ g by omega)).trans h0, (Below.heap_setCell _ _ _ _ (show w.heap.size + 1 ≠ g by omega)).trans h1, (Below.heap_setCell _ _ _ _ (show w.heap.size + 2 ≠ g by omega)).trans h2, hB.setCell (show w.heap.size ≤ g by omega) _⟩
theorem own_below {w : World} {B k : Nat} {xs : List Int} {v : Value} (h : OwnInts (B + 3) xs v w) (x : Value) : OwnInts (B + 3) xs v (w.setCell ⟨B + 2, k, none⟩ x) := ownsRow_setCell_below h (show B + 2 < B + 3 by omega) x
theorem ab_new (w : World) (o : Obj) : Ab w (w.alloc o) := below_new (Below.refl _ _) _

set_option maxRecDepth 100000 in
set_option maxHeartbeats 3200000 in
theorem iHint_any (t z p : Int) (ht : I16 t) (hz : I16 z) (F : Int → Nat) (hF : mixOk t z p = true → StopF t z p F) (a b : Int) (ad : Option Addr) (zs : List ByteArray) (cap : Nat) (w : World) (h : StrsIn w ad zs) (hf : Fit zs) (hl : zs.length ≤ 9223372036854775807) :
    Calls Try.prog 95 #[.agg #[.int .i16 t, .int .i16 z, .int .i16 p], .agg #[.int .u64 a, .int .u64 b], .slice ad zs.length cap] w (HintR (askC (mixOk t z p) [(a, b)] zs 40) (mayL (askC (mixOk t z p) [(a, b)] zs 40) (may (wi t z F a b) zs zs.length)) w) := by
  have V := Lib.hid fun W => iValidMix_any t z p ht hz W
  have R := Lib.hid (rh_start w t z p a b)
  have K := Lib.hid fun W => iMaskOk_any a b W
  have S := Lib.hid fun W hb => iAreWords_any ad zs cap 40 W (strsIn_below h hb) hf hl
  have H := Lib.hid h
  have FT := Lib.hid hf
  clear h hf ht hz
  cases hv : mixOk t z p
  · rw [hv] at V
    rw [add_1, mayL_no (by decide)]
    clear hv hF
    go_enter Try.func95, Try.ntmps95
    go_wp2_with (first | (go_at_call 72; refine (V.out _).mono ?_; rintro e w1 ⟨rfl, hB⟩; have r1 := Lib.hid (rh_ab R.out hB); clear hB; have k2 := cell_of_block r1.out.2.2.1; have j2 := free_of_block r1.out.2.2.1))
    refine bodyPost_ret (by simp [results, Try.results95, go_sem, k2]; try rfl) rfl ?_
    exact HintR.no ((((r1.out.2.2.2.setCell (by first | omega | (simp; done) | (simp; omega)) _).setCell (by first | omega | (simp; done) | (simp; omega)) _).setCell (by first | omega | (simp; done) | (simp; omega)) _).setCell (by first | omega | (simp; done) | (simp; omega)) _)
  · rw [hv] at V
    have hF := hF hv
    obtain ⟨t0, z0, tz, p1, p8, pz⟩ := mix_inv hv
    clear hv
    cases hm : mOk b
    · rw [hm] at K
      rw [add_2 a zs 40 hm, mayL_no (by decide)]
      clear hm hF
      go_enter Try.func95, Try.ntmps95
      go_wp2_with (first | (go_at_call 72; refine (V.out _).mono ?_; rintro e w1 ⟨rfl, hB⟩; have r1 := Lib.hid (rh_ab R.out hB); clear hB; have k1 := cell_of_block r1.out.2.1) | (go_at_call 57; refine (K.out _).mono ?_; rintro e w2 ⟨rfl, hB⟩; have r2 := Lib.hid (rh_ab r1.out hB); clear hB; have k2 := cell_of_block r2.out.2.2.1; have j2 := free_of_block r2.out.2.2.1))
      refine bodyPost_ret (by simp [results, Try.results95, go_sem, k2]; try rfl) rfl ?_
      exact HintR.no ((((r2.out.2.2.2.setCell (by first | omega | (simp; done) | (simp; omega)) _).setCell (by first | omega | (simp; done) | (simp; omega)) _).setCell (by first | omega | (simp; done) | (simp; omega)) _).setCell (by first | omega | (simp; done) | (simp; omega)) _)
    · rw [hm] at K
      rw [add_3 a zs 40 hm]
      clear hm
      cases hw : wordsOk zs 40
      · rw [hw] at S
        rw [wordsC_no hw, mayL_no (by decide)]
        clear hw hF
        go_enter Try.func95, Try.ntmps95
        go_wp2_with (first | (go_at_call 72; refine (V.out _).mono ?_; rintro e w1 ⟨rfl, hB⟩; have r1 := Lib.hid (rh_ab R.out hB); clear hB; have k1 := cell_of_block r1.out.2.1) | (go_at_call 57; refine (K.out _).mono ?_; rintro e w2 ⟨rfl, hB⟩; have r2 := Lib.hid (rh_ab r1.out hB); clear hB; have k2 := cell_of_block r2.out.2.2.1; have j2 := free_of_block r2.out.2.2.1) | (go_at_call 78; refine (S.out _ r2.out.2.2.2).mono ?_; rintro e w3 ⟨rfl, rfl⟩))
        refine bodyPost_ret (by simp [results, Try.results95, go_sem, k2]; try rfl) rfl ?_
        exact HintR.no ((((r2.out.2.2.2.setCell (by first | omega | (simp; done) | (simp; omega)) _).setCell (by first | omega | (simp; done) | (simp; omega)) _).setCell (by first | omega | (simp; done) | (simp; omega)) _).setCell (by first | omega | (simp; done) | (simp; omega)) _)
      · rw [hw] at S
        rw [wordsC_yes hw, mayL_yes]
        have hn : zs.length ≤ 40 := Nat.le_of_not_lt fun e => by rw [words_long e] at hw; cases hw
        clear hw
        have PT := Lib.hid fun W => iPart_any t z p t0 z0 tz W
        have MT := Lib.hid fun W => (iMeet_any a b (mp0 t z) (mp1 t z) W).mono fun e w' hh => (⟨hh.1, by rw [← hh.2]; exact below_new (below_new (below_new (Below.refl _ _) _) _) _⟩ : e = .returned (.agg #[.int .u64 (bits .and .u64 a (mp0 t z)), .int .u64 (bits .and .u64 b (mp1 t z))]) ∧ Below W.heap.size W w')
        have A := fun s hs W => iAll_any t z p F hF t0 z0 tz p1 p8 (some ⟨W.heap.size, 0, none⟩) [s] 1 (W.alloc (.cells #[.string s] 9)) (strs_one W s _) (fit_one hs) (by simp)
        simp only [List.length_cons, List.length_nil, Nat.zero_add, A0_one, A1_one] at A
        have A := Lib.hid A
        have IW := Lib.hid fun s W => iWithin_any (hw0 t z F s : Int) (hw1 t z F s : Int) a b W
        clear hF
        generalize bits .and .u64 a (mp0 t z) = T0 at *
        generalize bits .and .u64 b (mp1 t z) = T1 at *
        generalize mp0 t z = M0 at *
        generalize mp1 t z = M1 at *
        obtain ⟨i0, hi, hz0, hz1, hz2⟩ := info_parts info_i64
        obtain ⟨k0, hk, hk0, hk1, hk2⟩ := info_parts info_maskW
        go_enter Try.func95, Try.ntmps95
        go_upto_region 5 with (first | (go_at_call 72; refine (V.out _).mono ?_; rintro e w1 ⟨rfl, hB⟩; have r1 := Lib.hid (rh_ab R.out hB); clear hB; have k1 := cell_of_block r1.out.2.1) | (go_at_call 57; refine (K.out _).mono ?_; rintro e w2 ⟨rfl, hB⟩; have r2 := Lib.hid (rh_ab r1.out hB); clear hB) | (go_at_call 78; refine (S.out _ r2.out.2.2.2).mono ?_; rintro e w3 ⟨rfl, rfl⟩))
        refine wp_region_at 5 0 (.cells #[.int .u64 0, .int .u64 0, .slice none 0 0, .slice none 0 0] 116) (.cells #[.int .u64 T0, .int .u64 T1, .slice none 0 0, .slice none 0 0] 116) (by kernel_rfl) rfl rfl rfl (by kernel_rfl) rfl rfl (fun _ _ => by kernel_rfl) ?_
        simp only [Nat.reduceAdd, List.take_succ_cons, List.take_zero, List.drop_succ_cons, List.drop_zero]
        intro w1 h1
        have e0 := cell_of_block (h1.block r2.out.1)
        have e1 := cell_of_block (h1.block r2.out.2.1)
        have y0 := lt_of_block (h1.block r2.out.1)
        have y1 := lt_of_block (h1.block r2.out.2.1)
        have hbw := cell_bw
        repeat (go_big_quiet_step (first | (go_at_call 125; exact calls_bw (PT.out _)) | (go_at_call 54; exact calls_bw (MT.out _))))
        refine wpQuiet_nil ?_
        intro h hh w2 h2
        refine wpQuiet_nil ?_
        refine ⟨?_, ?_⟩
        · intro w3 h3 hb3
          have f0 := cell_of_block hb3
          have f1 := free_of_block hb3
          go_simp
          exact ⟨(((h3.setCell _ hh).setCell _ hh).setCell _ hh).setCell _ hh, block_setCell _ (block_setCell _ (block_setCell _ (block_setCell _ hb3)))⟩
        intro w5 h5
        simp only [Act.put, List.setIfInBounds_toArray, List.set_cons_succ, List.set_cons_zero]
        repeat (go_big_quiet_step (fail))
        refine wpQuiet_nil ?_
        intro w9 h9 hb9
        have R9 := Lib.hid (rh_ab r2.out h9)
        have B9 := Lib.hid hb9
        have HX := Lib.hid (Nat.lt_of_lt_of_le (lt_of_block r2.out.2.2.1) hh)
        clear e0 e1 y0 y1 h1 h2 h5 h9 hb9 hh
        go_wp2
        go_loopw [32] (fun i wr => ∃ j : Nat, j ≤ zs.length ∧ i = .int .i64 j ∧ HInv w h t z p a b T0 T1 (may (wi t z F a b) zs j) j wr) (fun i _ => zs.length - (intOf i).toNat)
        case atStart => exact ⟨0, Nat.zero_le _, rfl, _, _, 0, B9.out, u_nil _ _, m_nil _ _, Nat.le_refl _, R9.out⟩
        case round =>
          obtain ⟨j, hj, rfl, v, u, n, hb, O, M, hnj, RR⟩ := hrel
          obtain ⟨av, cv, rfl, _⟩ := ownInts_in O
          obtain ⟨au, cu, rfl⟩ := ownM_in M
          have HB := Lib.hid hb
          have OO := Lib.hid O
          have MM := Lib.hid M
          have RH := Lib.hid RR
          have NJ := Lib.hid hnj
          clear O M hnj
          by_cases hjl : j < zs.length
          · have hd : decide ((j : Int) < (zs.length : Int)) = true := by simpa using hjl
            obtain ⟨b1, o1, rfl, hb1, p0⟩ := H.out j hjl
            have d0 := (RR.2.2.2.cell (p := ⟨b1, o1 + j, none⟩) hb1).trans p0
            have m0 := cell_of_block RR.1
            have i3 : (0 : Int) ≤ (j : Int) := by omega
            have i4 : (j : Int) < (zs.length : Int) := by omega
            have A1 := Lib.hid (A.out (zs.getD j ⟨#[]⟩) (FT.out j hjl))
            have I := IW.out (zs.getD j ⟨#[]⟩)
            change ∀ W : World, Calls _ _ _ W (fun e w' => e = .returned (.bool (wi t z F a b (zs.getD j ⟨#[]⟩))) ∧ Below W.heap.size W w') at I
            have yes := Lib.hid fun h => may_yes (f := wi t z F a b) (zs := zs) (k := j) h
            have no := Lib.hid fun h => may_no (f := wi t z F a b) (zs := zs) (k := j) h
            have al := may_len (wi t z F a b) zs j
            clear p0 hb RR
            generalize may (wi t z F a b) zs j = xs at *
            generalize wi t z F a b (zs.getD j ⟨#[]⟩) = x at *
            generalize hw0 t z F (zs.getD j ⟨#[]⟩) = U at *
            generalize hw1 t z F (zs.getD j ⟨#[]⟩) = V at *
            generalize zs.getD j ⟨#[]⟩ = s at *
            cases x
            · have NO := Lib.hid (no.out rfl)
              have I := Lib.hid I
              clear yes no
              go_wp2_with (first
                | (go_at_call 87; refine (A1.out _).mono ?_; rintro e wx ⟨rfl, hB⟩; have C1 := Lib.hid (Ab.trans (ab_new wr _) hB); have R2 := Lib.hid (rh_ab RH.out C1.out); have n1 := cell_of_block R2.out.2.1; have q1 := lt_of_block R2.out.2.1; clear hB)
                | (go_at_call 59; refine (I.out _).mono ?_; rintro e wz ⟨rfl, hB⟩; have D := Lib.hid (Ab.trans (Ab.trans C1.out (ab_new _ _)) hB); clear hB))
              exact ⟨⟨j + 1, hjl, by rw [Int.natCast_succ], by rw [NO.out]; exact ⟨_, _, n, Ab.block D.out HB.out, ownInts_kept OO.out D.out, MM.out.imp fun _ hm => row_kept hm D.out, Nat.le_succ_of_le NJ.out, rh_ab RH.out D.out⟩⟩, by (simp [intOf]) <;> omega⟩
            · have YE := Lib.hid (yes.out rfl)
              have I := Lib.hid I
              clear yes no
              go_upto_region 11 with (first
                | (go_at_call 87; refine (A1.out _).mono ?_; rintro e wx ⟨rfl, hB⟩; have C1 := Lib.hid (Ab.trans (ab_new wr _) hB); have R2 := Lib.hid (rh_ab RH.out C1.out); have n1 := cell_of_block R2.out.2.1; have q1 := lt_of_block R2.out.2.1; clear hB)
                | (go_at_call 59; refine (I.out _).mono ?_; rintro e wz ⟨rfl, hB⟩; have D := Lib.hid (Ab.trans (Ab.trans C1.out (ab_new _ _)) hB); have N3 := Lib.hid (Ab.block hB (block_alloc _ _)); clear hB))
              have q2 := Lib.hid (lt_of_block HB.out)
              have W3 := Lib.hid (Ab.block D.out HB.out)
              have R3 := Lib.hid (rh_ab RH.out D.out)
              have O3 := Lib.hid (ownInts_kept OO.out D.out)
              have M3 := Lib.hid (MM.out.imp fun _ hm => row_kept hm D.out)
              have E3 := Lib.hid (fun k hk => (Nat.ne_of_lt (Nat.lt_of_lt_of_le (World.ownsRow.lt OO.out k hk).2 C1.out.size) : k ≠ wx.heap.size))
              have X3 := Lib.hid (Nat.ne_of_lt (Nat.lt_of_lt_of_le q2.out C1.out.size) : h ≠ wx.heap.size)
              have c3 := cell_of_block W3.out
              have s3 := lt_of_block W3.out
              have s4 := lt_of_block N3.out
              clear d0 m0 n1 q1
              go_upto_region 12 with (at_builtin; refine wpList_append_own _ rfl _ _ 39 rfl (h + 1) 2 i0 (.int .i64 0) 1 8 Try.underlying39 hi hz0 hz1 hz2 rfl (by decide) _ _ _ rfl (O3.out.alloc _) ⟨wz.heap.size, 0, none⟩ 1 1 [.int .i64 (j : Int)] rfl rfl (u_one_new _ _ _) (fun x hx => by simp at hx; subst hx; rfl) (by unfold maxLen; omega) (by omega) (by simp; omega) ?_; intro v' w4 hown hgrow _; obtain ⟨av2, cv2, hv2⟩ := row_slice hown; subst hv2; have P := Lib.hid (u_push hown); have G := Lib.hid hgrow; have H4 := Lib.hid (((hgrow.block h (by simp; omega) (fun e => by have := u_lt O3.out _ e.symm; omega)).trans (block_old _ _ s3)).trans W3.out); have c4 := cell_of_block H4.out; have f4 := free_of_block H4.out; clear hown hgrow)
              have H5 : Hid ((w4.setCell ⟨h, 2, none⟩ (.slice av2 (xs.length + 1) cv2)).heap[h]? = some (.cells #[.int .u64 T0, .int .u64 T1, .slice av2 (xs.length + 1) cv2, .slice au n cu] 116 (0, 0))) := Lib.hid (block_setCell (j := 2) _ H4.out)
              have N5 := Lib.hid ((Below.heap_setCell w4 ⟨h, 2, none⟩ (.slice av2 (xs.length + 1) cv2) wx.heap.size (Ne.symm X3.out)).trans ((G.out.block wx.heap.size (Nat.lt_of_lt_of_le s4 (by simp)) (fun e => E3.out _ e.symm rfl)).trans ((block_old _ _ s4).trans N3.out)))
              have O5 := Lib.hid (ownsRow_setCell_below P.out (a := ⟨h, 2, none⟩) (Nat.lt_succ_self h) (.slice av2 (xs.length + 1) cv2))
              obtain ⟨ms, hm3⟩ := M3.out
              have M5 := Lib.hid (ownsRow_setCell_below (row_grown (hm3.alloc _) G.out (rows_ne hm3 O3.out (by decide))) (a := ⟨h, 2, none⟩) (Nat.lt_succ_self h) (.slice av2 (xs.length + 1) cv2))
              have R5 := Lib.hid (rh_set (g := h) (k := 2) (.slice av2 (xs.length + 1) cv2) (rh_grown (rh_ab R3.out (ab_new _ _)) G.out (fun k hk => by have := u_lt O3.out k hk; have := HX.out; omega)) HX.out)
              have hnn : n ≤ 40 := by have := NJ.out; omega
              clear c3 s3 s4 c4 f4 hm3 H4 G P E3
              generalize w4.setCell ⟨h, 2, none⟩ (.slice av2 (xs.length + 1) cv2) = w5 at *
              have c5 := cell_of_block H5.out
              have n5 := cell_of_block N5.out
              have s5 := lt_of_block H5.out
              go_wp2_with (at_builtin; refine wpList_append_own _ rfl _ _ 27 rfl (h + 1) 51 k0 (.agg #[.int .u64 0, .int .u64 0]) 2 16 Try.underlying27 hk hk0 hk1 hk2 rfl (by decide) _ _ _ rfl (M5.out.alloc _) ⟨w5.heap.size, 0, none⟩ 1 1 [.int .u64 (U : Int), .int .u64 (V : Int)] rfl rfl (m_new _ _ _ _) (fun x hx => by simp at hx; rcases hx with rfl | rfl <;> rfl) (by unfold maxLen; omega) (by omega) (by simp; omega) ?_; intro u' w6 hown hgrow _; obtain ⟨au2, cu2, hu2⟩ := row_slice hown; subst hu2; have P6 := Lib.hid hown; have G6 := Lib.hid hgrow; have H6 := Lib.hid (((hgrow.block h (by simp; omega) (fun e => by have := (World.ownsRow.lt M5.out _ e.symm).1; omega)).trans (block_old _ _ s5)).trans H5.out); have c6 := cell_of_block H6.out; have f6 := free_of_block H6.out; clear hown hgrow)
              exact ⟨⟨j + 1, hjl, by rw [Int.natCast_succ], by rw [YE.out]; exact ⟨_, _, n + 1, block_setCell _ H6.out, ownsRow_setCell_below (row_grown (World.ownsRow.alloc O5.out _) G6.out (rows_ne O5.out M5.out (by decide))) (Nat.lt_succ_self h) _, ⟨_, ownsRow_setCell_below P6.out (Nat.lt_succ_self h) _⟩, Nat.succ_le_succ NJ.out, rh_set _ (rh_grown (rh_ab R5.out (ab_new _ _)) G6.out (fun k hk => by have := (World.ownsRow.lt M5.out k hk).1; have := HX.out; omega)) HX.out⟩⟩, by (simp [intOf]) <;> omega⟩
          · have e : j = zs.length := by omega
            subst e
            have hd : decide ((zs.length : Int) < (zs.length : Int)) = false := by simp
            have k0 := cell_of_block hb
            have k2 := cell_of_block RR.2.2.1
            have j2 := free_of_block RR.2.2.1
            clear hb RR
            generalize may (wi t z F a b) zs zs.length = xs at *
            go_wp2
            refine bodyPost_ret (by simp [results, Try.results95, go_sem, k2]; try rfl) rfl ?_
            have o := own_below (own_below (own_below (own_below (u_weaken OO.out (show w.heap.size + 3 ≤ h + 1 by have := HX.out; omega)) (k := 0) (.int .u64 T0)) (k := 1) (.int .u64 T1)) (k := 2) (.slice av xs.length cv)) (k := 3) (.slice au n cu)
            exact ⟨T0, T1, _, _, _, _, rfl, u_weaken o (by omega), (((RH.out.2.2.2.setCell (by first | omega | (simp; done) | (simp; omega)) _).setCell (by first | omega | (simp; done) | (simp; omega)) _).setCell (by first | omega | (simp; done) | (simp; omega)) _).setCell (by first | omega | (simp; done) | (simp; omega)) _⟩
end Go.Proofs.Ytoippchkhknhpaa
