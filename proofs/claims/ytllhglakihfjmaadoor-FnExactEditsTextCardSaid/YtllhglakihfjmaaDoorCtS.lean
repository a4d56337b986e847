/- Contract: the model's CardText. -/
import Derived.Test.YtllhglakihfjmaaDoorCtC
namespace Go.Proofs.YtllhglakihfjmaaDoor
open Go.ChangeShapes Go.WideShapes Go.ChangeAt Go.RowKit

set_option maxRecDepth 100000 in
set_option maxHeartbeats 3200000 in
theorem sCt_any (s : ByteArray) (a b : Int) (hs : s.size ≤ 16) (ha : U64 a) (hb : U64 b) (g o : Nat) (w : World) (h0 : w.cell? ⟨g, o, none⟩ = some (.string s)) (h1 : w.cell? ⟨g, o + 1, none⟩ = some (.int .u64 a)) (h2 : w.cell? ⟨g, o + 2, none⟩ = some (.int .u64 b)) :
    Calls Tryd.prog 37 #[.pointer (some ⟨g, o, none⟩)] w fun e w' => e = .returned (.string (cdN s (hol (hasB a b) 96) (hol (hasB a b) 96).length)) ∧ Below w.heap.size w w' := by
  have hg := World.block_lt_of_cell? _ _ h0
  have HI := fun W => sHoles_any a b ha hb W
  have hl := hol_len (hasB a b) 96
  have HM := fun j hj => hol_atX (f := hasB a b) (n := 96) (j := j) hj
  generalize hol (hasB a b) 96 = zs at *
  have CS := Lib.hid (cdN_size s (zs := zs) HM)
  have CN := Lib.hid (cdN_next s zs)
  replace HM := Lib.hid HM
  replace HI := Lib.hid HI
  clear ha hb
  have z32 : (ByteArray.mk #[32]).size = 1 := rfl
  go_enter Tryd.func37, Tryd.ntmps37
  go_wp2_with (go_at_call 73; refine (HI.out _).mono ?_; rintro e w1 ⟨v1, rfl, hO, hB⟩; obtain ⟨a1, c1, hv, hi⟩ := ownInts_in hO; subst hv; have I1 := Lib.hid hi; have B1 := Lib.hid hB; clear hO hi hB)
  go_loopw [3, 5] (fun v i wr => ∃ j : Nat, j ≤ zs.length ∧ i = .int .i64 (j : Int) ∧ v = .string (cdN s zs j) ∧ Below w1.heap.size w1 wr) (fun _ i _ => zs.length - (intOf i).toNat)
  case atStart => exact ⟨0, Nat.zero_le _, rfl, rfl, Below.refl _ _⟩
  case round =>
    obtain ⟨j, hj, rfl, rfl, hB⟩ := hrel
    have B5 := Lib.hid hB
    by_cases hjl : j < zs.length
    · have hd : decide ((j : Int) < (zs.length : Int)) = true := by simpa using hjl
      obtain ⟨b1, o1, rfl, y1, p0⟩ := I1.out j hjl
      have d0 := (hB.cell (p := ⟨b1, o1 + j, none⟩) y1).trans p0
      have y2 : b1 < wr.heap.size := Nat.lt_of_lt_of_le y1 hB.size
      have i1 : (0 : Int) ≤ (j : Int) := by omega
      have i2 : (j : Int) < (zs.length : Int) := by omega
      obtain ⟨h3, h4⟩ := HM.out j hjl
      have cs := CS.out j hj
      have cn := CN.out j
      obtain ⟨m, hm⟩ := Int.eq_ofNat_of_zero_le h3
      rw [hm] at d0 h4 cn
      rw [Int.toNat_natCast] at cn
      replace cn := Lib.hid cn
      have hm1 : m < 96 := by omega
      have ys := dec2_le (n := m) (by omega)
      have D := Lib.hid fun W => sDec_any m (by omega) W
      generalize cdN s zs j = t at *
      generalize dec2 m = y at *
      have sl1 : ¬ 9223372036854775807 < 1 + y.size := by omega
      have sl4 : ¬ 9223372036854775807 < t.size + (1 + y.size) := by omega
      clear hB p0 y1 h3 h4 hm cs ys hm1
      go_wp2_with (go_at_call 74; refine (D.out _).mono ?_; rintro e w3 ⟨rfl, hB⟩; have B3 := Lib.hid (B5.out.trans (Below.mono hB B5.out.size)); clear hB)
      exact ⟨⟨j + 1, hjl, by rw [Int.natCast_succ], by rw [cn.out], B3.out⟩, by (simp [intOf]) <;> omega⟩
    · have e : j = zs.length := by omega
      subst e
      have hd : decide ((zs.length : Int) < (zs.length : Int)) = false := by simp
      clear hB
      go_wp2
      go_ret
      exact ⟨rfl, B1.out.trans (Below.mono B5.out B1.out.size)⟩

set_option maxRecDepth 100000 in
set_option maxHeartbeats 1600000 in
theorem sCardText_any (s : ByteArray) (a b : Int) (hs : s.size ≤ maxLen) (ha : U64 a) (hb : U64 b) (w : World) :
    Calls Tryd.prog 10 #[.agg #[.string s, .int .u64 a, .int .u64 b]] w fun e w' => e = .returned (.string (cdT s a b)) ∧ Below w.heap.size w w' := by
  have V := fun o W h0 h1 h2 => sOk_any s b hs w.heap.size o W a h0 h1 h2
  have BX := Lib.hid (below_new (Below.refl w.heap.size w) (.cells #[.string s, .int .u64 a, .int .u64 b] 30))
  have NX := Lib.hid (block_alloc w (.cells #[.string s, .int .u64 a, .int .u64 b] 30))
  unfold cdT
  cases hk : cardOk s b
  · rw [hk] at V
    replace V := Lib.hid V
    simp only [Bool.false_eq_true, if_false]
    clear hk ha hb hs
    go_enter Tryd.func10, Tryd.ntmps10
    go_wp2_with (go_at_call 36; refine Calls.mono (V.out 0 _ ?_ ?_ ?_) ?_; exact cell_of_block NX.out 0; exact cell_of_block NX.out 1; exact cell_of_block NX.out 2; rintro e w1 ⟨rfl, hB⟩; have B1 := Lib.hid (BX.out.trans (Below.mono hB BX.out.size)); clear hB)
    go_returns
    exact ⟨rfl, B1.out⟩
  · rw [hk] at V
    have hk2 := hk
    unfold cardOk at hk2
    rw [Bool.and_eq_true] at hk2
    have S := fun o W h0 h1 h2 => sCt_any s a b (nameOk_size hk2.1).2 ha hb w.heap.size o W h0 h1 h2
    simp only [if_true]
    generalize cdN s (hol (hasB a b) 96) (hol (hasB a b) 96).length = t at *
    replace V := Lib.hid V
    replace S := Lib.hid S
    clear hk hk2 ha hb hs
    go_enter Tryd.func10, Tryd.ntmps10
    go_wp2_with (first
      | (go_at_call 36; refine Calls.mono (V.out 0 _ ?_ ?_ ?_) ?_; exact cell_of_block NX.out 0; exact cell_of_block NX.out 1; exact cell_of_block NX.out 2; rintro e w1 ⟨rfl, hB⟩; have B1 := Lib.hid (BX.out.trans (Below.mono hB BX.out.size)); have N1 := Lib.hid (Ab.block hB NX.out); clear hB)
      | (go_at_call 37; refine Calls.mono (S.out 0 _ ?_ ?_ ?_) ?_; exact cell_of_block N1.out 0; exact cell_of_block N1.out 1; exact cell_of_block N1.out 2; rintro e w2 ⟨rfl, hB⟩; have B2 := Lib.hid (B1.out.trans (Below.mono hB B1.out.size)); clear hB))
    go_returns
    exact ⟨rfl, B2.out⟩
end Go.Proofs.YtllhglakihfjmaaDoor
