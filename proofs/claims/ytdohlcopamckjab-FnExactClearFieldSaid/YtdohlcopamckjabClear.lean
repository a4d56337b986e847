/- Contracts: ClearField, the program's and the model's. -/
import Derived.Test.YtdohlcopamckjabPartN
import Derived.Test.YtdohlcopamckjabCard
import Derived.Test.YtdohlcopamckjabWith
import Derived.Test.YtdohlcopamckjabFloat
import Derived.Deep.DeepCutAuto
namespace Go.Proofs.Ytdohlcopamckjab
open Go.ChangeShapes Go.WideShapes Go.ChangeAt Go.RowKit

/-- The two numbers of the mask of a field's holes. -/
def pt0 (k st sz : Int) : Int := mp0 st (widthZ k sz)
def pt1 (k st sz : Int) : Int := mp1 st (widthZ k sz)
theorem width_ok {s : ByteArray} {k st sz : Int} (h : fieldOk s k st sz = true) : (k = 0 ∨ k = 1 ∨ k = 2 ∨ k = 3) ∧ 0 ≤ st ∧ 1 ≤ sz ∧ sz ≤ 24 ∧ 1 ≤ widthZ k sz ∧ widthZ k sz ≤ 24 ∧ st + widthZ k sz ≤ 96 := by
  obtain ⟨_, k0, k3, t0, z0, zm, tw⟩ := field_inv h
  have hk : k = 0 ∨ k = 1 ∨ k = 2 ∨ k = 3 := by omega
  refine ⟨hk, t0, z0, ?_⟩
  rcases hk with rfl | rfl | rfl | rfl <;> simp [widthZ, mostZ] at * <;> omega

theorem iPartOk (s : ByteArray) (k st sz : Int) (h : fieldOk s k st sz = true) (w : World) :
    Calls Try.prog 67 #[.agg #[.string s, .int .i8 k, .int .i16 st, .int .i16 sz]] w fun e w' => e = .returned (.agg #[.int .u64 (pt0 k st sz), .int .u64 (pt1 k st sz)]) ∧ Below w.heap.size w w' := by
  obtain ⟨hk, t0, z0, zb, _, nb, tw⟩ := width_ok h
  clear h
  unfold pt0 pt1
  rcases hk with rfl | rfl | rfl | rfl
  · rw [widthZ_0] at *; exact iPartK_0 s st sz t0 z0 zb nb tw w
  · rw [widthZ_1] at *; exact iPartK_1 s st sz t0 z0 zb nb tw w
  · rw [widthZ_2] at *; exact iPartK_2 s st sz t0 z0 zb nb tw w
  · rw [widthZ_3] at *; exact iPartK_3 s st sz t0 z0 zb nb tw w

theorem pa_pt (k st sz : Int) (n : Nat) (hn : (n : Int) = widthZ k sz) (t0 : 0 ≤ st) (h1 : 1 ≤ widthZ k sz) (tw : st + widthZ k sz ≤ 96) : pa b0 st n = pt0 k st sz ∧ pa b1 st n = pt1 k st sz := by
  have h := part_is st n t0 (by omega) (by omega)
  rw [pa_ma, pa_ma, h.1, h.2, hn]
  exact ⟨rfl, rfl⟩

theorem sPartOk (s : ByteArray) (k st sz : Int) (h : fieldOk s k st sz = true) (g o : Nat) (w : World) (h1 : w.cell? ⟨g, o + 1, none⟩ = some (.int .i8 k)) (h2 : w.cell? ⟨g, o + 2, none⟩ = some (.int .i16 st)) (h3 : w.cell? ⟨g, o + 3, none⟩ = some (.int .i16 sz)) :
    Calls Try.prog 62 #[.pointer (some ⟨g, o, none⟩)] w fun e w' => e = .returned (.agg #[.int .u64 (pt0 k st sz), .int .u64 (pt1 k st sz)]) ∧ Below w.heap.size w w' := by
  obtain ⟨hk, t0, z0, zb, n1, _, tw⟩ := width_ok h
  clear h
  obtain ⟨n, hn⟩ := Int.eq_ofNat_of_zero_le (show 0 ≤ widthZ k sz by omega)
  have e := pa_pt k st sz n hn.symm t0 n1 tw
  rw [← e.1, ← e.2]
  have tn : st + (n : Int) ≤ 96 := by omega
  clear e n1 tw
  rcases hk with rfl | rfl | rfl | rfl
  · exact sPart_0 st sz n (hn.symm.trans (widthZ_0 sz)) t0 z0 zb tn g o w h1 h2 h3
  · exact sPart_1 st sz n (hn.symm.trans (widthZ_1 sz)) t0 z0 zb tn g o w h1 h2 h3
  · exact sPart_2 st sz n (hn.symm.trans (widthZ_2 sz)) t0 z0 zb tn g o w h1 h2 h3
  · exact sPart_3 st sz n (hn.symm.trans (widthZ_3 sz)) t0 z0 zb tn g o w h1 h2 h3

theorem block_three (w : World) (o p q : Obj) : (((w.alloc o).alloc p).alloc q).heap[w.heap.size]? = some o ∧ (((w.alloc o).alloc p).alloc q).heap[w.heap.size + 1]? = some p ∧ (((w.alloc o).alloc p).alloc q).heap[w.heap.size + 2]? = some q := by
  show (((w.heap.push o).push p).push q)[w.heap.size]? = some o ∧ (((w.heap.push o).push p).push q)[w.heap.size + 1]? = some p ∧ (((w.heap.push o).push p).push q)[w.heap.size + 2]? = some q
  refine ⟨?_, ?_, ?_⟩
  · rw [Array.getElem?_push, if_neg (by simp; omega), Array.getElem?_push, if_neg (by simp)]; simp
  · rw [Array.getElem?_push, if_neg (by simp), Array.getElem?_push, if_pos (by simp)]
  · rw [Array.getElem?_push, if_pos (by simp)]

def clR (s : ByteArray) (a b k st sz : Int) (ok : Bool) : Value := .tuple #[.agg #[.string (if ok then s else ByteArray.empty), .int .u64 (if ok then bits .andNot .u64 a (pt0 k st sz) else 0), .int .u64 (if ok then bits .andNot .u64 b (pt1 k st sz) else 0)], .int .i64 (if ok then 0 else 1)]
theorem clR_parts (s : ByteArray) (a b k st sz : Int) (ok : Bool) : ∃ (r : ByteArray) (x y c : Int), clR s a b k st sz ok = .tuple #[.agg #[.string r, .int .u64 x, .int .u64 y], .int .i64 c] := ⟨_, _, _, _, rfl⟩
theorem clR_no (s : ByteArray) (a b k st sz : Int) : .tuple #[.agg #[.string ByteArray.empty, .int .u64 0, .int .u64 0], .int .i64 1] = clR s a b k st sz false := rfl
theorem clR_yes (s : ByteArray) (a b k st sz : Int) : .tuple #[.agg #[.string s, .int .u64 (bits .andNot .u64 a (pt0 k st sz)), .int .u64 (bits .andNot .u64 b (pt1 k st sz))], .int .i64 0] = clR s a b k st sz true := rfl
theorem endRet {x y : Value} (h : x = y) : Ending.returned x = Ending.returned y := by rw [h]

set_option maxHeartbeats 1600000 in
theorem iClear_any (s : ByteArray) (a b : Int) (hs : s.size ≤ maxLen) (n : ByteArray) (k st sz : Int) (hn : n.size ≤ maxLen) (hk : I8 k) (ht : I16 st) (hz : I16 sz) (w : World) :
    Calls Try.prog 20 #[.agg #[.string s, .int .u64 a, .int .u64 b], .agg #[.string n, .int .i8 k, .int .i16 st, .int .i16 sz]] w fun e w' => e = .returned (clR s a b k st sz (cardOk s b && fieldOk n k st sz)) ∧ Below w.heap.size w w' := by
  have V0 := Lib.hid fun W => iValidCard_any s a b hs W
  have V1 := Lib.hid fun W => iVF_any n k st sz hn hk ht hz W
  have hbs := block_three w (.cells #[.string s, .int .u64 a, .int .u64 b] 34) (.cells #[.string n, .int .i8 k, .int .i16 st, .int .i16 sz] 38) (.cells #[.string ByteArray.empty, .int .u64 0, .int .u64 0] 34)
  have HB := Lib.hid hbs
  clear hbs hs hn hk ht hz
  cases h : cardOk s b
  · rw [h] at V0
    clear h V1
    go_enter Try.func20, Try.ntmps20
    go_wp2_with (go_at_call 64; refine (V0.out _).mono ?_; rintro e w1 ⟨rfl, hB⟩; have B0 := Ab.block hB HB.out.1; have B1 := Ab.block hB HB.out.2.1; have B2 := Ab.block hB HB.out.2.2; have c0 := cell_of_block B0; have c1 := cell_of_block B1; have c2 := cell_of_block B2; have g2 := free_of_block B2; have B0 := Lib.hid B0; have B1 := Lib.hid B1; have B2 := Lib.hid B2; have k3 : Below w.heap.size w w1 := (below_new (below_new (below_new (Below.refl _ _) _) _) _).trans (Below.mono hB (by simp; omega)))
    refine bodyPost_ret (by simp [results, Try.results20, go_sem, c2]; try rfl) rfl ?_
    exact ⟨endRet (clR_no ..), ((k3.setCell (by simp <;> omega) _).setCell (by simp <;> omega) _).setCell (by simp <;> omega) _⟩
  · rw [h] at V0
    clear h
    cases h2 : fieldOk n k st sz
    · rw [h2] at V1
      clear h2
      go_enter Try.func20, Try.ntmps20
      go_wp2_with (first | (go_at_call 64; refine (V0.out _).mono ?_; rintro e w1 ⟨rfl, hB⟩; have B0 := Ab.block hB HB.out.1; have B1 := Ab.block hB HB.out.2.1; have B2 := Ab.block hB HB.out.2.2; have c0 := cell_of_block B0; have c1 := cell_of_block B1; have c2 := cell_of_block B2; have g2 := free_of_block B2; have B0 := Lib.hid B0; have B1 := Lib.hid B1; have B2 := Lib.hid B2; have k3 : Below w.heap.size w w1 := (below_new (below_new (below_new (Below.refl _ _) _) _) _).trans (Below.mono hB (by simp; omega))) | (go_at_call 65; refine (V1.out _).mono ?_; rintro e w2 ⟨rfl, hB2⟩; clear c0 c1 c2 g2; have D0 := Ab.block hB2 B0.out; have D1 := Ab.block hB2 B1.out; have D2 := Ab.block hB2 B2.out; have c2 := cell_of_block D2; have g2 := free_of_block D2; have D0 := Lib.hid D0; have D1 := Lib.hid D1; have D2 := Lib.hid D2; have j3 : Below w.heap.size w w2 := k3.trans (Below.mono hB2 k3.size)))
      refine bodyPost_ret (by simp [results, Try.results20, go_sem, c2]; try rfl) rfl ?_
      exact ⟨endRet (clR_no ..), ((j3.setCell (by simp <;> omega) _).setCell (by simp <;> omega) _).setCell (by simp <;> omega) _⟩
    · have P := Lib.hid fun W => iPartOk n k st sz h2 W
      rw [h2] at V1
      clear h2
      have hbw := cell_bw
      go_enter Try.func20, Try.ntmps20
      go_upto_region 3 with (first | (go_at_call 64; refine (V0.out _).mono ?_; rintro e w1 ⟨rfl, hB⟩; have B0 := Ab.block hB HB.out.1; have B1 := Ab.block hB HB.out.2.1; have B2 := Ab.block hB HB.out.2.2; have c0 := cell_of_block B0; have c1 := cell_of_block B1; have c2 := cell_of_block B2; have g2 := free_of_block B2; have B0 := Lib.hid B0; have B1 := Lib.hid B1; have B2 := Lib.hid B2; have k3 : Below w.heap.size w w1 := (below_new (below_new (below_new (Below.refl _ _) _) _) _).trans (Below.mono hB (by simp; omega))) | (go_at_call 65; refine (V1.out _).mono ?_; rintro e w2 ⟨rfl, hB2⟩; clear c0 c1 c2 g2; have D0 := Ab.block hB2 B0.out; have D1 := Ab.block hB2 B1.out; have D2 := Ab.block hB2 B2.out; have c2 := cell_of_block D2; have g2 := free_of_block D2; have D0 := Lib.hid D0; have D1 := Lib.hid D1; have D2 := Lib.hid D2; have j3 : Below w.heap.size w w2 := k3.trans (Below.mono hB2 k3.size)))
      refine wp_region_last 6 (by kernel_rfl) rfl rfl (by kernel_rfl) (by kernel_rfl) rfl ?_
      simp only [List.take_succ_cons, List.take_zero]
      clear c2 g2
      intro w3 h3
      have c0 := cell_of_block (h3.block D0.out)
      have z0 := lt_of_block (h3.block D0.out)
      have c1 := cell_of_block (h3.block D1.out)
      have z1 := lt_of_block (h3.block D1.out)
      repeat (go_big_quiet_step (first | (go_at_call 67; exact calls_bw (P.out _)) | (go_at_call 66; exact calls_bw (iLess_below _ _ _ _ _))))
      refine wpQuiet_nil ?_
      intro w4 h4
      have E0 := h4.block D0.out
      have E2 := h4.block D2.out
      have l3 : Below w.heap.size w w4 := j3.trans (Below.mono h4 j3.size)
      have f0 := cell_of_block E0
      have g0 := free_of_block E0
      have f2 := cell_of_block E2
      have g2 := free_of_block E2
      clear c0 c1 z0 z1 D0 D1 D2 h4 h3 E0 E2
      go_simp
      simp only [Yld]
      go_wp2
      refine bodyPost_ret (by simp [results, Try.results20, go_sem, f2]; try rfl) rfl ?_
      exact ⟨endRet (clR_yes ..), ((((l3.setCell (by simp <;> omega) _).setCell (by simp <;> omega) _).setCell (by simp <;> omega) _).setCell (by simp <;> omega) _).setCell (by simp <;> omega) _⟩

set_option maxHeartbeats 1600000 in
theorem sClear_any (s : ByteArray) (a b : Int) (hs : s.size ≤ maxLen) (n : ByteArray) (k st sz : Int) (hn : n.size ≤ maxLen) (_hk : I8 k) (ht : I16 st) (hz : I16 sz) (w : World) :
    Calls Try.prog 17 #[.agg #[.string s, .int .u64 a, .int .u64 b], .agg #[.string n, .int .i8 k, .int .i16 st, .int .i16 sz]] w fun e w' => e = .returned (clR s a b k st sz (cardOk s b && fieldOk n k st sz)) ∧ Below w.heap.size w w' := by
  have V0 := Lib.hid fun W h0 h1 h2 => sOk_any s b hs w.heap.size 0 W a h0 h1 h2
  have V1 := Lib.hid fun W h0 h1 h2 h3 => sVF_any n k st sz hn ht hz (w.heap.size + 1) 0 W h0 h1 h2 h3
  have hbs := block_three w (.cells #[.string s, .int .u64 a, .int .u64 b] 34) (.cells #[.string n, .int .i8 k, .int .i16 st, .int .i16 sz] 38) (.cells #[.string ByteArray.empty, .int .u64 0, .int .u64 0] 34)
  have HB := Lib.hid hbs
  clear hbs hs hn _hk ht hz
  cases h : cardOk s b
  · rw [h] at V0
    clear h V1
    go_enter Try.func17, Try.ntmps17
    go_wp2_with (go_at_call 59; refine Calls.mono (V0.out _ ?_ ?_ ?_) ?_; exact cell_of_block HB.out.1 0; exact cell_of_block HB.out.1 1; exact cell_of_block HB.out.1 2; rintro e w1 ⟨rfl, hB⟩; have B0 := Ab.block hB HB.out.1; have B1 := Ab.block hB HB.out.2.1; have B2 := Ab.block hB HB.out.2.2; have c0 := cell_of_block B0; have c1 := cell_of_block B1; have c2 := cell_of_block B2; have g2 := free_of_block B2; have B0 := Lib.hid B0; have B1 := Lib.hid B1; have B2 := Lib.hid B2; have k3 : Below w.heap.size w w1 := (below_new (below_new (below_new (Below.refl _ _) _) _) _).trans (Below.mono hB (by simp; omega)))
    refine bodyPost_ret (by simp [results, Try.results17, go_sem, c2]; try rfl) rfl ?_
    exact ⟨endRet (clR_no ..), ((k3.setCell (by simp <;> omega) _).setCell (by simp <;> omega) _).setCell (by simp <;> omega) _⟩
  · rw [h] at V0
    clear h
    cases h2 : fieldOk n k st sz
    · rw [h2] at V1
      clear h2
      go_enter Try.func17, Try.ntmps17
      go_wp2_with (first | (go_at_call 59; refine Calls.mono (V0.out _ ?_ ?_ ?_) ?_; exact cell_of_block HB.out.1 0; exact cell_of_block HB.out.1 1; exact cell_of_block HB.out.1 2; rintro e w1 ⟨rfl, hB⟩; have B0 := Ab.block hB HB.out.1; have B1 := Ab.block hB HB.out.2.1; have B2 := Ab.block hB HB.out.2.2; have c0 := cell_of_block B0; have c1 := cell_of_block B1; have c2 := cell_of_block B2; have g2 := free_of_block B2; have B0 := Lib.hid B0; have B1 := Lib.hid B1; have B2 := Lib.hid B2; have k3 : Below w.heap.size w w1 := (below_new (below_new (below_new (Below.refl _ _) _) _) _).trans (Below.mono hB (by simp; omega))) | (go_at_call 60; refine Calls.mono (V1.out _ ?_ ?_ ?_ ?_) ?_; exact cell_of_block B1.out 0; exact cell_of_block B1.out 1; exact cell_of_block B1.out 2; exact cell_of_block B1.out 3; rintro e w2 ⟨rfl, hB2⟩; clear c0 c1 c2 g2; have D0 := Ab.block hB2 B0.out; have D1 := Ab.block hB2 B1.out; have D2 := Ab.block hB2 B2.out; have c2 := cell_of_block D2; have g2 := free_of_block D2; have D0 := Lib.hid D0; have D1 := Lib.hid D1; have D2 := Lib.hid D2; have j3 : Below w.heap.size w w2 := k3.trans (Below.mono hB2 k3.size)))
      refine bodyPost_ret (by simp [results, Try.results17, go_sem, c2]; try rfl) rfl ?_
      exact ⟨endRet (clR_no ..), ((j3.setCell (by simp <;> omega) _).setCell (by simp <;> omega) _).setCell (by simp <;> omega) _⟩
    · have P := Lib.hid fun W h0 h1 h2x => sPartOk n k st sz h2 (w.heap.size + 1) 0 W h0 h1 h2x
      rw [h2] at V1
      clear h2
      have hbw := cell_bw
      go_enter Try.func17, Try.ntmps17
      go_upto_region 3 with (first | (go_at_call 59; refine Calls.mono (V0.out _ ?_ ?_ ?_) ?_; exact cell_of_block HB.out.1 0; exact cell_of_block HB.out.1 1; exact cell_of_block HB.out.1 2; rintro e w1 ⟨rfl, hB⟩; have B0 := Ab.block hB HB.out.1; have B1 := Ab.block hB HB.out.2.1; have B2 := Ab.block hB HB.out.2.2; have c0 := cell_of_block B0; have c1 := cell_of_block B1; have c2 := cell_of_block B2; have g2 := free_of_block B2; have B0 := Lib.hid B0; have B1 := Lib.hid B1; have B2 := Lib.hid B2; have k3 : Below w.heap.size w w1 := (below_new (below_new (below_new (Below.refl _ _) _) _) _).trans (Below.mono hB (by simp; omega))) | (go_at_call 60; refine Calls.mono (V1.out _ ?_ ?_ ?_ ?_) ?_; exact cell_of_block B1.out 0; exact cell_of_block B1.out 1; exact cell_of_block B1.out 2; exact cell_of_block B1.out 3; rintro e w2 ⟨rfl, hB2⟩; clear c0 c1 c2 g2; have D0 := Ab.block hB2 B0.out; have D1 := Ab.block hB2 B1.out; have D2 := Ab.block hB2 B2.out; have c2 := cell_of_block D2; have g2 := free_of_block D2; have D0 := Lib.hid D0; have D1 := Lib.hid D1; have D2 := Lib.hid D2; have j3 : Below w.heap.size w w2 := k3.trans (Below.mono hB2 k3.size)))
      refine wp_region_last 5 (by kernel_rfl) rfl rfl (by kernel_rfl) (by kernel_rfl) rfl ?_
      simp only [List.take_succ_cons, List.take_zero]
      clear c2 g2
      intro w3 h3
      have c0 := cell_of_block (h3.block D0.out)
      have z0 := lt_of_block (h3.block D0.out)
      have c1 := cell_of_block (h3.block D1.out)
      have z1 := lt_of_block (h3.block D1.out)
      repeat (go_big_quiet_step (first | (go_at_call 62; refine calls_bw (P.out _ ?_ ?_ ?_); exact (hbw _ _ _ _ z1).trans (c1 1); exact (hbw _ _ _ _ z1).trans (c1 2); exact (hbw _ _ _ _ z1).trans (c1 3)) | (go_at_call 61; exact calls_bw (sLess_below _ _ _ _ _))))
      refine wpQuiet_nil ?_
      intro w4 h4
      have E0 := h4.block D0.out
      have E2 := h4.block D2.out
      have l3 : Below w.heap.size w w4 := j3.trans (Below.mono h4 j3.size)
      have f0 := cell_of_block E0
      have g0 := free_of_block E0
      have f2 := cell_of_block E2
      have g2 := free_of_block E2
      clear c0 c1 z0 z1 D0 D1 D2 h4 h3 E0 E2
      go_simp
      simp only [Yld]
      go_wp2
      refine bodyPost_ret (by simp [results, Try.results17, go_sem, f2]; try rfl) rfl ?_
      exact ⟨endRet (clR_yes ..), ((((l3.setCell (by simp <;> omega) _).setCell (by simp <;> omega) _).setCell (by simp <;> omega) _).setCell (by simp <;> omega) _).setCell (by simp <;> omega) _⟩
end Go.Proofs.Ytdohlcopamckjab
