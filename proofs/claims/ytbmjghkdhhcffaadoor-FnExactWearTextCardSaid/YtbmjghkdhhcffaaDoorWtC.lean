/- Contracts: the text of wear, the program's and the model's. -/
import Derived.Test.YtbmjghkdhhcffaaDoorWtM
import Derived.Test.YtbmjghkdhhcffaaDoorWith
import Derived.Test.YtbmjghkdhhcffaaDoorHole
import Derived.Test.YtbmjghkdhhcffaaDoorWear
import Derived.Deep.AppendLies
import Derived.Deep.DeepCutAuto
namespace Go.Proofs.YtbmjghkdhhcffaaDoor
open Go.ChangeShapes Go.WideShapes Go.ChangeAt Go.RowKit

theorem u64_orW {x y : Int} (hx : U64 x) (hy : U64 y) : U64 (bits .or .u64 x y) := by
  obtain ⟨a, rfl⟩ := Int.eq_ofNat_of_zero_le hx.1
  obtain ⟨b, rfl⟩ := Int.eq_ofNat_of_zero_le hy.1
  have h1 := hx.2
  have h2 := hy.2
  rw [Go.u64_or _ _ (by omega) (by omega) (by omega) (by omega)]
  have : a ||| b < 2 ^ 64 := Nat.or_lt_two_pow (by omega) (by omega)
  simp only [Int.toNat_natCast]
  exact ⟨by omega, by omega⟩
/-- The text of wear. -/
def wtT (a b c d : Int) : ByteArray := if qOk a b c d = true then joinT (wds a b (hol (hasB (bits .or .u64 a c) (bits .or .u64 b d)) 96)) else ByteArray.empty
theorem ret_str {x y : ByteArray} (h : x = y) : Ending.returned (.string x) = Ending.returned (.string y) := by rw [h]
theorem iWtIn (k : Nat) (hk : k < 96) (a b : Int) (ha : U64 a) (hb : U64 b) (w : World) :
    Calls Tryd.prog 51 #[.agg #[.int .u64 (b0 (k : Int)), .int .u64 (b1 (k : Int))], .agg #[.int .u64 a, .int .u64 b]] w fun e w' => e = .returned (.bool (hasB a b k)) ∧ Below w.heap.size w w' := by
  rw [← within_bit a b k ha hb (by omega) (by omega)]
  exact iWithin_any _ _ _ _ w
theorem orOk {a b : Int} (ha : U64 a) (hb : U64 b) (h1 : maskOk a = true) (h2 : maskOk b = true) : (bits .or .u64 a b / 4294967296 == 0) = true := by
  obtain ⟨x, rfl⟩ := Int.eq_ofNat_of_zero_le ha.1
  obtain ⟨y, rfl⟩ := Int.eq_ofNat_of_zero_le hb.1
  unfold maskOk at h1 h2
  simp at h1 h2
  have q1 := ha.2
  have q2 := hb.2
  rw [Go.u64_or _ _ (by omega) (by omega) (by omega) (by omega)]
  have : x ||| y < 2 ^ 32 := Nat.or_lt_two_pow (by omega) (by omega)
  simp only [Int.toNat_natCast]
  simp
  omega
theorem qOk_inv {a b c d : Int} (h : qOk a b c d = true) : maskOk b = true ∧ maskOk d = true ∧ meetZ a b c d = true := by
  unfold qOk at h
  rw [Bool.and_eq_true, Bool.and_eq_true] at h
  exact ⟨h.1.1, h.1.2, h.2⟩
theorem wd_at (a b : Int) (m : Nat) : wd a b (m : Int) = sgn (hasB a b m) ++ dec2 m := by unfold wd; rw [Int.toNat_natCast]

set_option maxRecDepth 100000 in
set_option maxHeartbeats 3200000 in
theorem iWearText_any (a b c d : Int) (ha : U64 a) (hb : U64 b) (hc : U64 c) (hd : U64 d) (w : World) :
    Calls Tryd.prog 18 #[.agg #[.int .u64 a, .int .u64 b, .int .u64 c, .int .u64 d]] w fun e w' => e = .returned (.string (wtT a b c d)) ∧ Below w.heap.size w w' := by
  obtain ⟨i0, hi, hz0, hz1, hz2⟩ := info_parts info_tx
  have V := fun W => iWr_any a b c d W
  have BX := Lib.hid (below_new (Below.refl w.heap.size w) (.cells #[.int .u64 a, .int .u64 b, .int .u64 c, .int .u64 d] 41))
  have NX := Lib.hid (block_alloc w (.cells #[.int .u64 a, .int .u64 b, .int .u64 c, .int .u64 d] 41))
  unfold wtT
  cases hk : qOk a b c d
  · rw [hk] at V
    replace V := Lib.hid V
    simp only [Bool.false_eq_true, if_false]
    clear hk ha hb hc hd
    go_enter Tryd.func18, Tryd.ntmps18
    go_wp2_with (go_at_call 48; refine (V.out _).mono ?_; rintro e w1 ⟨rfl, hB⟩; have B1 := Lib.hid (BX.out.trans (Below.mono hB BX.out.size)); clear hB)
    go_returns
    exact ⟨rfl, B1.out⟩
  · rw [hk] at V
    obtain ⟨k1, k2, k3⟩ := qOk_inv hk
    have HI := fun W => iHolesIn_any (bits .or .u64 a c) (bits .or .u64 b d) (u64_orW ha hc) (u64_orW hb hd) W
    rw [hz_yes _ (orOk hb hd k1 k2), hzC_yes (orOk hb hd k1 k2)] at HI
    have hm := fun z hz => mem_holW (f := hasB (bits .or .u64 a c) (bits .or .u64 b d)) (n := 96) (z := z) hz
    have hl := hol_len (hasB (bits .or .u64 a c) (bits .or .u64 b d)) 96
    have JL := wds_len a b (f := hasB (bits .or .u64 a c) (bits .or .u64 b d))
    have J := fun B v W h => join_any B (wds a b (hol (hasB (bits .or .u64 a c) (bits .or .u64 b d)) 96)) v W h JL (by unfold wds; rw [List.length_map]; omega)
    simp only [if_true]
    generalize hol (hasB (bits .or .u64 a c) (bits .or .u64 b d)) 96 = zs at *
    have JM := Lib.hid fun W => iJoin_below a b c d W
    have WI := Lib.hid fun (k : Nat) hk W => iWtIn k hk a b ha hb W
    have OH := Lib.hid fun (k : Nat) (hk : k < 96) W => iOne_any (k : Int) (by omega) (by omega) W
    have HM := Lib.hid fun j (hj : j < zs.length) => (show 0 ≤ zs.getD j 0 ∧ zs.getD j 0 < 96 from hm _ (by rw [List.getD, List.getElem?_eq_getElem hj]; exact List.getElem_mem hj))
    have WS := Lib.hid fun j (hj : j < zs.length) => (show wds a b (zs.take (j + 1)) = wds a b (zs.take j) ++ [wd a b (zs.getD j 0)] by
      unfold wds
      rw [List.take_succ_eq_append_getElem hj, List.map_append, List.getD, List.getElem?_eq_getElem hj]; rfl)
    replace V := Lib.hid V
    replace HI := Lib.hid HI
    replace J := Lib.hid J
    clear hk k1 k2 k3 ha hb hc hd hm JL
    go_enter Tryd.func18, Tryd.ntmps18
    go_wp2_with (first
      | (go_at_call 48; refine (V.out _).mono ?_; rintro e w1 ⟨rfl, hB⟩; have B1 := Lib.hid (BX.out.trans (Below.mono hB BX.out.size)); have N1 := Lib.hid (Ab.block hB NX.out); have k1 := cell_of_block N1.out; have z1 := lt_of_block N1.out; clear hB)
      | (go_at_call 50; refine (JM.out _).mono ?_; rintro e w2 ⟨rfl, hB⟩; have B2 := Lib.hid (B1.out.trans (Below.mono hB B1.out.size)); have N2 := Lib.hid (Ab.block hB N1.out); clear hB k1 z1)
      | (go_at_call 49; refine (HI.out _).mono ?_; rintro e w3 ⟨v3, rfl, hO, hB⟩; obtain ⟨a3, c3, rfl, hI⟩ := ownInts_in hO; have I3 := Lib.hid hI; have B3 := Lib.hid (B2.out.trans (Below.mono hB B2.out.size)); have N3 := Lib.hid (Ab.block hB N2.out); clear hO hI hB)
      | (at_make; refine wpList_make_own _ rfl _ _ 61 rfl w3.heap.size 9 i0 (.string ⟨#[]⟩) 1 Tryd.underlying61 hi hz0 hz1 .i64 .i64 _ zs.length rfl rfl rfl (by rw [hz2]; omega) (by unfold maxLen; omega) (Nat.le_refl _) ?_; intro w4 hown hgrow; have M := Lib.hid hown; have G := Lib.hid hgrow; clear hown hgrow))
    have BZ := Lib.hid (Below.grown (Below.refl w3.heap.size w3) G.out (Nat.le_refl _) (fun j hj => by cases hj))
    have hbw := cell_bw
    go_loopw [5, 26] (fun v i wr => ∃ j : Nat, j ≤ zs.length ∧ i = .int .i64 (j : Int) ∧ OwnTx w3.heap.size (wds a b (zs.take j)) v wr ∧ Below w3.heap.size w3 wr) (fun _ i _ => zs.length - (intOf i).toNat)
    case atStart => exact ⟨0, Nat.zero_le _, rfl, M.out, BZ.out⟩
    case round =>
      obtain ⟨j, hj, rfl, hO, hB⟩ := hrel
      have O5 := Lib.hid hO
      have B5 := Lib.hid hB
      clear hO
      by_cases hjl : j < zs.length
      · have hd : decide ((j : Int) < (zs.length : Int)) = true := by simpa using hjl
        obtain ⟨b1, o1, rfl, hb1, p0⟩ := I3.out j hjl
        have d0 := (hB.cell (p := ⟨b1, o1 + j, none⟩) hb1).trans p0
        have y1 : b1 < wr.heap.size := Nat.lt_of_lt_of_le hb1 hB.size
        have i1 : (0 : Int) ≤ (j : Int) := by omega
        have i2 : (j : Int) < (zs.length : Int) := by omega
        have N5 := Ab.block hB N3.out
        have k0 := cell_of_block N5 0
        have k1 := cell_of_block N5 1
        have k2 := cell_of_block N5 2
        have k3 := cell_of_block N5 3
        have z0 := lt_of_block N5
        obtain ⟨h0, h1⟩ := HM.out j hjl
        have WN := Lib.hid (WS.out j hjl)
        have hxl : (wds a b (zs.take j)).length = j := by unfold wds; rw [List.length_map, List.length_take]; omega
        have hxb : (wds a b (zs.take j)).length ≤ 96 := by omega
        clear hxl hB p0 hb1 N5
        obtain ⟨m, hz⟩ := Int.eq_ofNat_of_zero_le h0
        rw [hz] at d0 h1
        have hm : m < 96 := by omega
        have ys := dec2_size (n := m) (by omega)
        have OH := Lib.hid (OH.out m hm)
        have WI := WI.out m hm
        have FI := Lib.hid fun W => fmt_any m (by omega) W
        clear h0 h1
        cases hb : hasB a b m
        · have WX := Lib.hid (show wds a b (zs.take (j + 1)) = wds a b (zs.take j) ++ [⟨#[45]⟩ ++ dec2 m] by rw [WN.out, hz, wd_at, hb]; rfl)
          rw [hb] at WI
          replace WI := Lib.hid WI
          generalize wds a b (zs.take j) = xs at *
          generalize dec2 m = y at *
          have sl : ¬ 9223372036854775807 < (ByteArray.mk #[45]).size + y.size := by show ¬ 9223372036854775807 < 1 + y.size; omega
          have sl2 : ¬ 9223372036854775807 < 1 + y.size := by omega
          clear hb hz
          go_wp2_with fail
          refine region_bw (by kernel_rfl) (by kernel_rfl) ?_
          repeat (go_big_quiet_step (first | (go_at_call 52; exact calls_bw (OH.out _)) | (go_at_call 51; exact calls_bw (WI.out _))))
          refine wpQuiet_nil ?_; intro wq hq; replace hq := below_of_bw hq; obtain ⟨qc, qf, qz⟩ := bcell hq
          have B6 := Lib.hid (B5.out.trans (Below.mono hq B5.out.size))
          have O6 := Lib.hid (ownTx_kept O5.out hq)
          have s6 := B6.out.size
          clear hbw d0 y1 k0 k1 k2 k3 z0 qc qf qz hq
          go_wp2_with (first
            | (go_at_call 53; refine (FI.out _).mono ?_; rintro e w7 ⟨rfl, rfl⟩)
            | (at_builtin; refine wpList_append_lies _ rfl _ _ 61 rfl w3.heap.size 9 i0 (.string ⟨#[]⟩) 1 16 Tryd.underlying61 hi hz0 hz1 hz2 rfl (by decide) _ _ _ rfl (World.ownsRow.alloc O6.out _) ⟨w7.heap.size, 0, none⟩ 1 1 [.string (⟨#[45]⟩ ++ y)] rfl rfl (new1T _ _ _) (fun x hx => by simp at hx; subst hx; rfl) (by omega) (by unfold maxLen; omega) (by omega) (by simp; omega) _ rfl ?_; intro gg cap2 w8 hown hgrow _ _; have P := Lib.hid (ownTx_push hown); have G := Lib.hid hgrow; clear hown hgrow))
          exact ⟨⟨j + 1, hjl, by rw [Int.natCast_succ], by rw [WX.out]; exact P.out, Below.grown (below_new B6.out _) G.out (by simp; omega) (fun k hk => ownTx_lt O6.out k hk)⟩, by (simp [intOf]) <;> omega⟩
        · have WX := Lib.hid (show wds a b (zs.take (j + 1)) = wds a b (zs.take j) ++ [⟨#[43]⟩ ++ dec2 m] by rw [WN.out, hz, wd_at, hb]; rfl)
          rw [hb] at WI
          replace WI := Lib.hid WI
          generalize wds a b (zs.take j) = xs at *
          generalize dec2 m = y at *
          have sl : ¬ 9223372036854775807 < (ByteArray.mk #[43]).size + y.size := by show ¬ 9223372036854775807 < 1 + y.size; omega
          have sl2 : ¬ 9223372036854775807 < 1 + y.size := by omega
          clear hb hz
          go_wp2_with fail
          refine region_bw (by kernel_rfl) (by kernel_rfl) ?_
          repeat (go_big_quiet_step (first | (go_at_call 52; exact calls_bw (OH.out _)) | (go_at_call 51; exact calls_bw (WI.out _))))
          refine wpQuiet_nil ?_; intro wq hq; replace hq := below_of_bw hq; obtain ⟨qc, qf, qz⟩ := bcell hq
          have B6 := Lib.hid (B5.out.trans (Below.mono hq B5.out.size))
          have O6 := Lib.hid (ownTx_kept O5.out hq)
          have s6 := B6.out.size
          clear hbw d0 y1 k0 k1 k2 k3 z0 qc qf qz hq
          go_wp2_with (first
            | (go_at_call 53; refine (FI.out _).mono ?_; rintro e w7 ⟨rfl, rfl⟩)
            | (at_builtin; refine wpList_append_lies _ rfl _ _ 61 rfl w3.heap.size 9 i0 (.string ⟨#[]⟩) 1 16 Tryd.underlying61 hi hz0 hz1 hz2 rfl (by decide) _ _ _ rfl (World.ownsRow.alloc O6.out _) ⟨w7.heap.size, 0, none⟩ 1 1 [.string (⟨#[43]⟩ ++ y)] rfl rfl (new1T _ _ _) (fun x hx => by simp at hx; subst hx; rfl) (by omega) (by unfold maxLen; omega) (by omega) (by simp; omega) _ rfl ?_; intro gg cap2 w8 hown hgrow _ _; have P := Lib.hid (ownTx_push hown); have G := Lib.hid hgrow; clear hown hgrow))
          exact ⟨⟨j + 1, hjl, by rw [Int.natCast_succ], by rw [WX.out]; exact P.out, Below.grown (below_new B6.out _) G.out (by simp; omega) (fun k hk => ownTx_lt O6.out k hk)⟩, by (simp [intOf]) <;> omega⟩
      · have e : j = zs.length := by omega
        subst e
        have hd : decide ((zs.length : Int) < (zs.length : Int)) = false := by simp
        rw [List.take_length] at O5
        clear hB hbw
        go_wp2_with (go_at_call 54; refine (J.out _ _ _ O5.out).mono ?_; rintro e w6 ⟨rfl, hB⟩; have B6 := Lib.hid (B5.out.trans (Below.mono hB B5.out.size)); clear hB)
        go_returns
        exact ⟨rfl, B3.out.trans (Below.mono B6.out B3.out.size)⟩
end Go.Proofs.YtbmjghkdhhcffaaDoor
