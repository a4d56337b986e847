/- The words that have to be in a mask: the model's list of them. -/
import Derived.Test.YtoippchkhknhpaaSuB
import Derived.Test.YtoippchkhknhpaaSuP
namespace Go.Proofs.Ytoippchkhknhpaa
open Go.ChangeShapes Go.WideShapes Go.ChangeAt Go.RowKit

/-- The masks together, of the first k but the one with an index. -/
def rs0 (ms : List (Int × Int)) (j : Nat) : Nat → Int
  | 0 => 0
  | l + 1 => if l = j then rs0 ms j l else bits .or .u64 (rs0 ms j l) (ms.getD l (0, 0)).1
def rs1 (ms : List (Int × Int)) (j : Nat) : Nat → Int
  | 0 => 0
  | l + 1 => if l = j then rs1 ms j l else bits .or .u64 (rs1 ms j l) (ms.getD l (0, 0)).2
theorem rs0_no {ms : List (Int × Int)} {j : Nat} : rs0 ms j (j + 1) = rs0 ms j j := if_pos rfl
theorem rs1_no {ms : List (Int × Int)} {j : Nat} : rs1 ms j (j + 1) = rs1 ms j j := if_pos rfl
theorem rs0_yes {ms : List (Int × Int)} {j l : Nat} (h : l ≠ j) : rs0 ms j (l + 1) = bits .or .u64 (rs0 ms j l) (ms.getD l (0, 0)).1 := if_neg h
theorem rs1_yes {ms : List (Int × Int)} {j l : Nat} (h : l ≠ j) : rs1 ms j (l + 1) = bits .or .u64 (rs1 ms j l) (ms.getD l (0, 0)).2 := if_neg h
theorem or_u64 {x y : Int} (hx : U64 x) (hy : U64 y) : ∃ a b : Nat, x = a ∧ y = b ∧ a < 18446744073709551616 ∧ b < 18446744073709551616 ∧ bits .or .u64 x y = ((a ||| b : Nat) : Int) ∧ U64 (bits .or .u64 x y) := by
  obtain ⟨a, rfl⟩ := Int.eq_ofNat_of_zero_le hx.1
  obtain ⟨b, rfl⟩ := Int.eq_ofNat_of_zero_le hy.1
  have ha : a < 18446744073709551616 := by have := hx.2; omega
  have hb : b < 18446744073709551616 := by have := hy.2; omega
  have e := Go.u64_or_nat a b ha hb
  have : a ||| b < 2 ^ 64 := Nat.or_lt_two_pow (by omega) (by omega)
  exact ⟨a, b, rfl, rfl, ha, hb, e, by rw [e]; exact ⟨by omega, by omega⟩⟩
theorem or_assoc64 {x y z : Int} (hx : U64 x) (hy : U64 y) (hz : U64 z) : bits .or .u64 (bits .or .u64 x y) z = bits .or .u64 x (bits .or .u64 y z) := by
  obtain ⟨a, b, rfl, rfl, ha, hb, e1, u1⟩ := or_u64 hx hy
  obtain ⟨_, c, e0, rfl, _, hc, e2, u2⟩ := or_u64 hy hz
  have l1 : a ||| b < 2 ^ 64 := Nat.or_lt_two_pow (by omega) (by omega)
  have l2 : b ||| c < 2 ^ 64 := Nat.or_lt_two_pow (by omega) (by omega)
  rw [e1, Go.u64_or_nat b c hb hc, Go.u64_or_nat _ c (by omega) hc, Go.u64_or_nat a _ ha (by omega), Nat.or_assoc]
theorem or_zero64 {x : Int} (hx : U64 x) : bits .or .u64 x 0 = x := by
  obtain ⟨a, b, rfl, e0, ha, hb, e1, _⟩ := or_u64 hx (show U64 0 by constructor <;> omega)
  have : b = 0 := by omega
  subst this
  rw [e1]; simp
theorem jn_u64 (ms : List (Int × Int)) : ∀ k, (∀ i, i < k → U64 (ms.getD i (0, 0)).1 ∧ U64 (ms.getD i (0, 0)).2) → U64 (jn0 ms k) ∧ U64 (jn1 ms k)
  | 0, _ => ⟨by constructor <;> simp [jn0], by constructor <;> simp [jn1]⟩
  | k + 1, h => by
    obtain ⟨a, b⟩ := jn_u64 ms k (fun i hi => h i (by omega))
    obtain ⟨c, d⟩ := h k (by omega)
    obtain ⟨_, _, _, _, _, _, _, u1⟩ := or_u64 a c
    obtain ⟨_, _, _, _, _, _, _, u2⟩ := or_u64 b d
    exact ⟨u1, u2⟩
theorem jn_take (ms : List (Int × Int)) (j : Nat) : ∀ k, k ≤ j → jn0 (ms.take j) k = jn0 ms k ∧ jn1 (ms.take j) k = jn1 ms k
  | 0, _ => ⟨rfl, rfl⟩
  | k + 1, h => by
    obtain ⟨a, b⟩ := jn_take ms j k (by omega)
    have e : (ms.take j).getD k (0, 0) = ms.getD k (0, 0) := by simp [List.getD, show k < j by omega]
    unfold jn0 jn1
    rw [a, b, e]; exact ⟨rfl, rfl⟩
theorem rs_low (ms : List (Int × Int)) (j : Nat) : ∀ k, k ≤ j → rs0 ms j k = jn0 ms k ∧ rs1 ms j k = jn1 ms k
  | 0, _ => ⟨rfl, rfl⟩
  | k + 1, h => by
    obtain ⟨a, b⟩ := rs_low ms j k (by omega)
    rw [rs0_yes (by omega), rs1_yes (by omega), a, b]; exact ⟨rfl, rfl⟩
theorem rs_high (ms : List (Int × Int)) (j : Nat) (hj : j < ms.length) (hU : ∀ i, i < ms.length → U64 (ms.getD i (0, 0)).1 ∧ U64 (ms.getD i (0, 0)).2) : ∀ d, j + 1 + d ≤ ms.length → rs0 ms j (j + 1 + d) = bits .or .u64 (jn0 ms j) (jn0 (ms.drop (j + 1)) d) ∧ rs1 ms j (j + 1 + d) = bits .or .u64 (jn1 ms j) (jn1 (ms.drop (j + 1)) d)
  | 0, _ => by
    obtain ⟨a, b⟩ := rs_low ms j j (Nat.le_refl _)
    obtain ⟨c, d⟩ := jn_u64 ms j (fun i hi => hU i (by omega))
    rw [Nat.add_zero, rs0_no, rs1_no, a, b]
    exact ⟨(or_zero64 c).symm, (or_zero64 d).symm⟩
  | d + 1, h => by
    obtain ⟨a, b⟩ := rs_high ms j hj hU d (by omega)
    obtain ⟨c, e⟩ := jn_u64 ms j (fun i hi => hU i (by omega))
    have g : ∀ i, i < d + 1 → (ms.drop (j + 1)).getD i (0, 0) = ms.getD (j + 1 + i) (0, 0) := fun i _ => by simp [List.getD, List.getElem?_drop]
    obtain ⟨f1, f2⟩ := jn_u64 (ms.drop (j + 1)) d (fun i hi => by rw [g i (by omega)]; exact hU _ (by omega))
    obtain ⟨u1, u2⟩ := hU (j + 1 + d) (by omega)
    rw [show j + 1 + (d + 1) = (j + 1 + d) + 1 from rfl, rs0_yes (by omega), rs1_yes (by omega), a, b, or_assoc64 c f1 u1, or_assoc64 e f2 u2, ← g d (by omega)]
    exact ⟨rfl, rfl⟩
theorem rs_is (ms : List (Int × Int)) (j : Nat) (hj : j < ms.length) (hU : ∀ i, i < ms.length → U64 (ms.getD i (0, 0)).1 ∧ U64 (ms.getD i (0, 0)).2) : rs0 ms j ms.length = ot0 ms j ∧ rs1 ms j ms.length = ot1 ms j := by
  obtain ⟨a, b⟩ := rs_high ms j hj hU (ms.length - (j + 1)) (by omega)
  obtain ⟨c, d⟩ := jn_take ms j j (Nat.le_refl _)
  rw [show j + 1 + (ms.length - (j + 1)) = ms.length by omega] at a b
  unfold ot0 ot1
  rw [c, d]; exact ⟨a, b⟩


theorem hwP_u64 {t z : Int} (F : Int → Nat) (s : ByteArray) (t0 : 0 ≤ t) (z0 : 0 < z) (tz : t + z ≤ 96) : U64 (hwP t z F s).1 ∧ U64 (hwP t z F s).2 := by
  obtain ⟨h1, h2⟩ := hw_lt F s t0 z0 tz
  unfold hwP
  generalize hw0 t z F s = x at *
  generalize hw1 t z F s = y at *
  exact ⟨show U64 (x : Int) from ⟨by omega, by omega⟩, show U64 (y : Int) from ⟨by omega, by omega⟩⟩

set_option maxRecDepth 100000 in
set_option maxHeartbeats 1600000 in
theorem sSure_any (t z p : Int) (ht : I16 t) (hz : I16 z) (hp : I16 p) (F : Int → Nat) (hF : mixOk t z p = true → StopF t z p F) (a b : Int) (ha : U64 a) (hb : U64 b) (ad : Option Addr) (zs : List ByteArray) (cap : Nat) (w : World) (h : StrsIn w ad zs) (hf : Fit zs) (hl : zs.length ≤ 9223372036854775807)
    (c : Int) (hc : askC (mixOk t z p) [(a, b)] zs 40 = c) (xs : List Int) (ms : List (Int × Int)) (T0 T1 : Int) (hx : may (wi t z F a b) zs zs.length = xs) (hm1 : hm (wi t z F a b) (hwP t z F) zs zs.length = ms) (hT0 : bits .and .u64 a (mp0 t z) = T0) (hT1 : bits .and .u64 b (mp1 t z) = T1) :
    Calls Try.prog 45 #[.agg #[.int .i16 t, .int .i16 z, .int .i16 p], .agg #[.int .u64 a, .int .u64 b], .slice ad zs.length cap] w (MwR (suC c (enB ms T0 T1)) (suL c (enB ms T0 T1) (su ms T0 T1 xs xs.length)) w) := by
  have R0 := rw_start w t z p a b
  have R1 := rw_ab R0 (ab_new _ (.cells #[.int .u64 a, .int .u64 b] 51))
  have MB := block_alloc ((w.alloc (.cells #[.int .i16 t, .int .i16 z, .int .i16 p] 30)).alloc (.cells #[.int .u64 a, .int .u64 b] 51)) (.cells #[.int .u64 a, .int .u64 b] 51)
  have hsz : ((w.alloc (.cells #[.int .i16 t, .int .i16 z, .int .i16 p] 30)).alloc (.cells #[.int .u64 a, .int .u64 b] 51)).heap.size = w.heap.size + 1 + 1 := by simp
  rw [hsz] at MB
  have Q := sAsk_any t z p ht hz hp w.heap.size 0 (some ⟨w.heap.size + 1 + 1, 0, none⟩) ad [(a, b)] zs 1 cap 40 _ (by simpa using cell_of_block R1.1 0) (by simpa using cell_of_block R1.1 1) (by simpa using cell_of_block R1.1 2) (masks_one MB) (strsIn_below h R1.2.2) hf (by simp) hl
  have R := Lib.hid R1
  have H := Lib.hid h
  have FT := Lib.hid hf
  rw [hc] at Q
  have Q := Lib.hid Q
  clear h hf ht hz hp R0 R1 MB hsz
  by_cases h0 : c = 0
  · subst h0
    have hv := ask_ok hc
    have hn := ask_words hc
    have hF := hF hv
    obtain ⟨t0, z0, tz, p1, p8, pz⟩ := mix_inv hv
    have hlen : ms.length = xs.length := by rw [← hm1, ← hx]; exact hm_len _ _ _ _
    have hl40 : xs.length ≤ 40 := by have := may_len (wi t z F a b) zs zs.length; rw [hx] at this; omega
    have hat : ∀ i, i < xs.length → ∃ j, j < zs.length ∧ xs.getD i 0 = (j : Int) ∧ ms.getD i (0, 0) = hwP t z F (zs.getD j ⟨#[]⟩) := by rw [← hx, ← hm1]; exact hm_at _ _ zs zs.length
    have hU : ∀ i, i < ms.length → U64 (ms.getD i (0, 0)).1 ∧ U64 (ms.getD i (0, 0)).2 := fun i hi => by
      obtain ⟨j, _, _, e⟩ := hat i (by omega)
      rw [e]
      exact hwP_u64 F _ t0 (show 0 < z by omega) tz
    have A := fun W hs c0 c1 c2 => sMay_any t z p F hF t0 z0 tz p1 p8 a b ha hb ad zs cap w.heap.size 0 W hs FT.out hn c0 c1 c2
    rw [hx] at A
    have A := Lib.hid A
    have BG := fun W hs c0 c1 c2 am cm hi => sBegin_any t z p F hF t0 z0 tz p1 p8 a b ad zs cap w.heap.size 0 W hs FT.out c0 c1 c2 am xs cm hi ms hlen hl40 hat
    rw [hT0, hT1] at BG
    have BG := Lib.hid BG
    have OT := Lib.hid fun j hj => rs_is ms j hj hU
    have HN := Lib.hid hlen
    clear hv hF hc ha hb hx hm1 hT0 hT1 hat hU hlen hn
    cases hen : enB ms T0 T1
    · have EN := hen
      unfold enB at EN
      have EN := Lib.hid EN
      clear hen
      go_enter Try.func45, Try.ntmps45
      go_wp2_with (first
        | (go_at_call 81; refine Q.out.mono ?_; rintro e w1 ⟨rfl, hB⟩; have r2 := Lib.hid (rw_ab R.out hB); have c1 := cell_of_block r2.out.2.1; clear hB)
        | (go_at_call 93; refine (A.out _ (strsIn_below H.out r2.out.2.2) (by simpa using cell_of_block r2.out.1 0) (by simpa using cell_of_block r2.out.1 1) (by simpa using cell_of_block r2.out.1 2)).mono ?_; rintro e w3 ⟨v, rfl, hO, hB⟩; obtain ⟨am, cm, rfl, hI⟩ := ownInts_in hO; have I3 := Lib.hid hI; have r3 := Lib.hid (rw_ab r2.out hB); have c3 := cell_of_block r3.out.2.1; clear hO hB hI)
        | (go_at_call 94; refine (BG.out _ (strsIn_below H.out r3.out.2.2) (by simpa using cell_of_block r3.out.1 0) (by simpa using cell_of_block r3.out.1 1) (by simpa using cell_of_block r3.out.1 2) am cm I3.out).mono ?_; rintro e w4 ⟨C, au, cu, rfl, _, hC, hM, hB⟩; have r4 := Lib.hid (rw_ab r3.out hB); have EN2 := EN.out; clear hC hM hB))
      go_ret2
      exact ⟨_, rfl, u_none rfl r4.out.2.2.size, r4.out.2.2.trans (Below.mono (ab_new _ _) r4.out.2.2.size)⟩
    · have EN := hen
      unfold enB at EN
      have EN := Lib.hid EN
      clear hen
      have hbw := cell_bw
      obtain ⟨i0, hi, hz0, hz1, hz2⟩ := info_parts info_i64
      go_enter Try.func45, Try.ntmps45
      go_wp2_with (first
        | (go_at_call 81; refine Q.out.mono ?_; rintro e w1 ⟨rfl, hB⟩; have r2 := Lib.hid (rw_ab R.out hB); have c1 := cell_of_block r2.out.2.1; clear hB)
        | (go_at_call 93; refine (A.out _ (strsIn_below H.out r2.out.2.2) (by simpa using cell_of_block r2.out.1 0) (by simpa using cell_of_block r2.out.1 1) (by simpa using cell_of_block r2.out.1 2)).mono ?_; rintro e w3 ⟨v, rfl, hO, hB⟩; obtain ⟨am, cm, rfl, hI⟩ := ownInts_in hO; have I3 := Lib.hid hI; have r3 := Lib.hid (rw_ab r2.out hB); have c3 := cell_of_block r3.out.2.1; clear hO hB hI)
        | (go_at_call 94; refine (BG.out _ (strsIn_below H.out r3.out.2.2) (by simpa using cell_of_block r3.out.1 0) (by simpa using cell_of_block r3.out.1 1) (by simpa using cell_of_block r3.out.1 2) am cm I3.out).mono ?_; rintro e w4 ⟨C, au, cu, rfl, _, hC, hM, hB⟩; have r4 := Lib.hid (rw_ab r3.out hB); have I4 := Lib.hid (intsIn_below I3.out hB); have C4 := Lib.hid hC; have M4 := Lib.hid hM; have EN2 := EN.out; clear hC hM hB))
      clear c1 c3
      go_loopw [12, 13] (fun v i wr => ∃ j : Nat, j ≤ xs.length ∧ i = .int .i64 j ∧ OwnInts w4.heap.size (su ms T0 T1 xs j) v wr ∧ Below w4.heap.size w4 wr) (fun _ i _ => xs.length - (intOf i).toNat)
      case atStart => exact ⟨0, Nat.zero_le _, rfl, u_none rfl (Nat.le_refl _), ab_new _ _⟩
      case round =>
        obtain ⟨j, hj, rfl, O, hB⟩ := hrel
        have BB := Lib.hid hB
        have OO := Lib.hid O
        have al := su_len ms T0 T1 xs j
        clear O
        by_cases hjl : j < xs.length
        · have hd : decide ((j : Int) < (xs.length : Int)) = true := by simpa using hjl
          have i5 : j < ms.length := by have := HN.out; omega
          obtain ⟨a10, c10, rfl, _⟩ := ownInts_in OO.out
          obtain ⟨ot0e, ot1e⟩ := OT.out j i5
          have OE0 := Lib.hid ot0e
          have OE1 := Lib.hid ot1e
          have YE := Lib.hid fun h => su_yes (ms := ms) (T0 := T0) (T1 := T1) (xs := xs) (k := j) h
          have NO := Lib.hid fun h => su_no (ms := ms) (T0 := T0) (T1 := T1) (xs := xs) (k := j) h
          clear ot0e ot1e
          generalize su ms T0 T1 xs j = ys at *
          go_wp2_with fail
          have Z0 := Lib.hid (block_alloc wr (.cells #[.int .u64 0, .int .u64 0] 51))
          have ZB := Lib.hid (ab_new wr (.cells #[.int .u64 0, .int .u64 0] 51))
          go_loopw [15] (fun i wl => ∃ l : Nat, l ≤ xs.length ∧ i = .int .i64 l ∧ wl.heap[wr.heap.size]? = some (.cells #[.int .u64 (rs0 ms j l), .int .u64 (rs1 ms j l)] 51 (0, 0)) ∧ Below wr.heap.size wr wl) (fun i _ => xs.length - (intOf i).toNat)
          case atStart => exact ⟨0, Nat.zero_le _, rfl, Z0.out, ZB.out⟩
          case round =>
            obtain ⟨l, hll, rfl, hz, hBl⟩ := hrel
            have ZZ := Lib.hid hz
            have BL := Lib.hid hBl
            have B4 := Lib.hid (Ab.trans BB.out hBl)
            have C5 := Lib.hid (Ab.block B4.out C4.out)
            by_cases hl2 : l < xs.length
            · have hd2 : decide ((l : Int) < (xs.length : Int)) = true := by simpa using hl2
              by_cases hlj : l = j
              · have ne : ((l : Int) != (j : Int)) = false := by simp [hlj]
                have N0 := Lib.hid (show rs0 ms j (l + 1) = rs0 ms j l by subst hlj; exact rs0_no)
                have N1 := Lib.hid (show rs1 ms j (l + 1) = rs1 ms j l by subst hlj; exact rs1_no)
                clear hlj hz hBl
                go_wp2_with fail
                exact ⟨⟨l + 1, hl2, by rw [Int.natCast_succ], by rw [N0.out, N1.out]; exact ZZ.out, BL.out⟩, by (simp [intOf]) <;> omega⟩
              · have ne : ((l : Int) != (j : Int)) = true := by simp; omega
                have N0 := Lib.hid (rs0_yes (ms := ms) hlj)
                have N1 := Lib.hid (rs1_yes (ms := ms) hlj)
                have i6 : l < ms.length := by have := HN.out; omega
                obtain ⟨b2, o2, rfl, hb2, q0, q1⟩ := M4.out l i6
                have d0 := Lib.hid ((B4.out.cell (p := ⟨b2, o2 + l * 2, none⟩) hb2).trans q0)
                have d1 := Lib.hid ((B4.out.cell (p := ⟨b2, o2 + l * 2 + 1, none⟩) hb2).trans q1)
                have y2 := Lib.hid (Nat.lt_of_lt_of_le hb2 B4.out.size)
                have i3 : (0 : Int) ≤ (l : Int) := by omega
                have i4 : (l : Int) < (ms.length : Int) := by omega
                generalize (ms.getD l (0, 0)).1 = U at *
                generalize (ms.getD l (0, 0)).2 = V at *
                generalize rs0 ms j l = X0 at *
                generalize rs1 ms j l = X1 at *
                clear q0 q1 hb2 hz hBl
                go_wp2_with fail
                refine wp_region_last 9 (by kernel_rfl) rfl rfl (by kernel_rfl) (by kernel_rfl) rfl ?_
                simp only [List.take_succ_cons, List.take_zero]
                intro w5 h5
                have c0 := cell_of_block (h5.block ZZ.out)
                have l0 := lt_of_block (h5.block ZZ.out)
                have c1 := cell_of_block (h5.block C5.out)
                have l1 := lt_of_block (h5.block C5.out)
                have e0 := (Below.cell (p := ⟨b2, o2 + l * 2, none⟩) h5 y2.out).trans d0.out
                have e1 := (Below.cell (p := ⟨b2, o2 + l * 2 + 1, none⟩) h5 y2.out).trans d1.out
                have l2 := Nat.lt_of_lt_of_le y2.out (Below.size h5)
                repeat (go_big_quiet_step (first | (go_at_call 60; exact calls_bw (sJoinM_below _ _ _ _ _))))
                refine wpQuiet_nil ?_
                intro w6 h6
                have Z6 := h6.block ZZ.out
                have f0 := cell_of_block Z6
                have f1 := free_of_block Z6
                have B6 := Lib.hid (Ab.trans BL.out h6)
                have Z7 := Lib.hid Z6
                clear c0 l0 c1 l1 e0 e1 l2 h5 h6 Z6
                go_simp
                simp only [Yld]
                go_wp2
                exact ⟨⟨l + 1, hl2, by rw [Int.natCast_succ], by rw [N0.out, N1.out]; exact block_setCell _ (block_setCell _ Z7.out), ((show Below _ _ w6 from B6.out).setCell (Nat.le_refl _) _).setCell (Nat.le_refl _) _⟩, by (simp [intOf]) <;> omega⟩
            · have e : l = ms.length := by have := HN.out; omega
              subst e
              have hd2 : decide ((ms.length : Int) < (xs.length : Int)) = false := by have := HN.out; simp; omega
              have Z1 := ZZ.out
              rw [OE0.out, OE1.out] at Z1
              obtain ⟨b1, o1, rfl, hb1, p0⟩ := I4.out j hjl
              have d5 := Lib.hid ((B4.out.cell (p := ⟨b1, o1 + j, none⟩) hb1).trans p0)
              have y5 := Lib.hid (Nat.lt_of_lt_of_le hb1 B4.out.size)
              have O5 := Lib.hid (ownInts_kept OO.out hBl)
              have c0 := cell_of_block Z1
              have l0 := lt_of_block Z1
              have c1 := cell_of_block C5.out
              have l1 := lt_of_block C5.out
              generalize xs.getD j 0 = q at *
              generalize ot0 ms j = P0 at *
              generalize ot1 ms j = P1 at *
              clear hz hBl p0 hb1 Z1
              cases hp : (P0 == T0 && P1 == T1)
              · have Y := Lib.hid (YE.out hp)
                have he3 : ∀ v : World, (Op.equalIn 10000 51 (.agg #[.int .u64 P0, .int .u64 P1]) (.agg #[.int .u64 T0, .int .u64 T1])).run Try.prog v = .ok false v := fun v => by rw [eq_mask, hp]
                clear hp YE NO
                go_wp2_with fail
                refine region_bw (by kernel_rfl) (by kernel_rfl) ?_
                repeat (go_big_quiet_step (fail))
                refine wpQuiet_nil ?_; intro wq hq; replace hq := below_of_bw hq; obtain ⟨qc, qf, qz⟩ := bcell hq
                have O6 := Lib.hid (ownInts_kept O5.out hq)
                have B6 := Lib.hid (Ab.trans B4.out hq)
                have d6 := (hq.cell (p := ⟨b1, o1 + j, none⟩) y5.out).trans d5.out
                have y6 := Nat.lt_of_lt_of_le y5.out hq.size
                have i3 : (0 : Int) ≤ (j : Int) := by omega
                have i4 : (j : Int) < (xs.length : Int) := by omega
                have s6 := B6.out.size
                clear c0 l0 c1 l1 qc qf qz hq he3
                go_wp2_with (at_builtin; refine wpList_append_own _ rfl _ _ 39 rfl w4.heap.size 2 i0 (.int .i64 0) 1 8 Try.underlying39 hi hz0 hz1 hz2 rfl (by decide) _ _ _ rfl (O6.out.alloc _) ⟨wq.heap.size, 0, none⟩ 1 1 [.int .i64 q] rfl rfl (u_one_new _ _ _) (fun x hx => by simp at hx; subst hx; rfl) (by unfold maxLen; omega) (by omega) (by simp; omega) ?_; intro v' w7 hown hgrow _; have P := Lib.hid (u_push hown); have G := Lib.hid hgrow; clear hown hgrow)
                refine ⟨⟨j + 1, hjl, by rw [Int.natCast_succ], by rw [Y.out]; exact P.out, ?_⟩, by (simp [intOf]) <;> omega⟩
                exact Below.grown ((show Below w4.heap.size w4 wq from B6.out).alloc s6 _) G.out (by simp; omega) (fun k hk => u_lt O6.out k hk)
              · have Y := Lib.hid (NO.out hp)
                have he3 : ∀ v : World, (Op.equalIn 10000 51 (.agg #[.int .u64 P0, .int .u64 P1]) (.agg #[.int .u64 T0, .int .u64 T1])).run Try.prog v = .ok true v := fun v => by rw [eq_mask, hp]
                clear hp YE NO
                go_wp2_with fail
                refine region_bw (by kernel_rfl) (by kernel_rfl) ?_
                repeat (go_big_quiet_step (fail))
                refine wpQuiet_nil ?_; intro wq hq; replace hq := below_of_bw hq; obtain ⟨qc, qf, qz⟩ := bcell hq
                have O6 := Lib.hid (ownInts_kept O5.out hq)
                have B6 := Lib.hid (Ab.trans B4.out hq)
                clear c0 l0 c1 l1 qc qf qz hq he3
                go_wp2_with fail
                exact ⟨⟨j + 1, hjl, by rw [Int.natCast_succ], by rw [Y.out]; exact O6.out, B6.out⟩, by (simp [intOf]) <;> omega⟩
        · have e : j = xs.length := by omega
          subst e
          have hd : decide ((xs.length : Int) < (xs.length : Int)) = false := by simp
          clear hB hbw
          go_wp2
          go_ret2
          exact ⟨_, rfl, u_weaken OO.out r4.out.2.2.size, Ab.trans r4.out.2.2 BB.out⟩
  · have d : (c == 0) = false := by simpa using h0
    have d2 : (c != 0) = true := by simp [h0]
    rw [suC_1 _ h0, suL_1 _ _ h0]
    clear hF hc ha hb
    go_enter Try.func45, Try.ntmps45
    go_wp2_with (go_at_call 81; refine Q.out.mono ?_; rintro e w1 ⟨rfl, hB⟩; have r2 := Lib.hid (rw_ab R.out hB); clear hB)
    go_ret2
    exact ⟨_, rfl, u_none rfl r2.out.2.2.size, r2.out.2.2.trans (Below.mono (ab_new _ _) r2.out.2.2.size)⟩

end Go.Proofs.Ytoippchkhknhpaa
