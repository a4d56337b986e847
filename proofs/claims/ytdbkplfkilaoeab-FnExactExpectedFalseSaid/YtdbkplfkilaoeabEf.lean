/- Contracts: ExpectedFalse, the program's and the model's. -/
import Derived.Test.YtdbkplfkilaoeabFcM
import Derived.Test.YtdbkplfkilaoeabLotI
namespace Go.Proofs.Ytdbkplfkilaoeab
open Go.ChangeShapes Go.WideShapes Go.ChangeAt Go.RowKit

theorem fcV_in {z : Int} {P : Nat} (z0 : 4 ≤ z) (_z1 : z ≤ 96) (pz : 2 * (P : Int) ≤ z) (W A : Nat) : 0 ≤ fcV z P W A ∧ fcV z P W A ≤ 1000000000 := by
  obtain ⟨c0, c1⟩ := ch_in (p := z - (P : Int)) (q := z) (by omega) (by omega) (by omega) W
  unfold fcV
  exact ch_in (by omega) (by omega) (by omega) _
/-- The false drops to be expected of the first k lists. -/
def efS (z : Int) (P A : Nat) (ls : List (List ByteArray)) : Nat → Int
  | 0 => 0
  | k + 1 => efS z P A ls k + fcV z P (lsAt ls k).length A
theorem efS_in {z : Int} {P : Nat} (z0 : 4 ≤ z) (z1 : z ≤ 96) (pz : 2 * (P : Int) ≤ z) (A : Nat) (ls : List (List ByteArray)) : ∀ k : Nat, 0 ≤ efS z P A ls k ∧ efS z P A ls k ≤ 1000000000 * (k : Int)
  | 0 => by unfold efS; omega
  | k + 1 => by
    have h1 := efS_in z0 z1 pz A ls k
    have h2 := fcV_in z0 z1 pz (lsAt ls k).length A
    unfold efS
    omega
theorem words_len {zs : List ByteArray} {m : Nat} (h : wordsOk zs m = true) : zs.length ≤ m := by
  unfold wordsOk at h
  rw [Bool.and_eq_true] at h
  simpa using h.1
theorem lot_in {ls : List (List ByteArray)} (h : lotOk ls = true) : ls.length ≤ 60 ∧ ∀ i, i < ls.length → (lsAt ls i).length ≤ 12 := by
  have h1 : ls.length ≤ 60 ∧ LotTo ls ls.length := by simpa [lotOk] using h
  exact ⟨h1.1, fun i hi => words_len (h1.2 i hi)⟩

def efX (ok lo : Bool) (z p a : Int) (ls : List (List ByteArray)) : Int := if ok = true ∧ lo = true ∧ (0 ≤ a ∧ a ≤ 12) then efS z p.toNat a.toNat ls ls.length else 0
def efC (ok lo : Bool) (a : Int) : Int := if ok = true then (if lo = true ∧ (0 ≤ a ∧ a ≤ 12) then 0 else 2) else 1
def efR (ok lo : Bool) (z p a : Int) (ls : List (List ByteArray)) : Value := .tuple #[.int .i64 (efX ok lo z p a ls), .int .i64 (efC ok lo a)]
theorem efR_no (lo : Bool) (z p a : Int) (ls : List (List ByteArray)) : efR false lo z p a ls = .tuple #[.int .i64 0, .int .i64 1] := by unfold efR efX efC; simp
theorem efR_lot (z p a : Int) (ls : List (List ByteArray)) : efR true false z p a ls = .tuple #[.int .i64 0, .int .i64 2] := by unfold efR efX efC; simp
theorem efR_out {a : Int} (lo : Bool) (z p : Int) (ls : List (List ByteArray)) (h : ¬ (0 ≤ a ∧ a ≤ 12)) : efR true lo z p a ls = .tuple #[.int .i64 0, .int .i64 2] := by unfold efR efX efC; simp [h]
theorem efR_yes {z : Int} {P A : Nat} (ls : List (List ByteArray)) (h : A ≤ 12) : efR true true z P A ls = .tuple #[.int .i64 (efS z P A ls ls.length), .int .i64 0] := by
  have h' : 0 ≤ (A : Int) ∧ (A : Int) ≤ 12 := ⟨by omega, by omega⟩
  unfold efR efX efC; simp [h']
theorem eret_v {x y : Value} (h : x = y) : Ending.returned y = Ending.returned x := by rw [h]
theorem efR_parts (ok lo : Bool) (z p a : Int) (ls : List (List ByteArray)) : ∃ x k : Int, efR ok lo z p a ls = .tuple #[.int .i64 x, .int .i64 k] := ⟨_, _, rfl⟩

set_option maxHeartbeats 1600000 in
theorem iEf_any (t z p : Int) (ht : I16 t) (hz : I16 z) (ad : Option Addr) (ls : List (List ByteArray)) (c : Nat) (a : Int) (w : World) (h : LotIn w ad ls) (hl : ls.length ≤ 1048576) :
    Calls Try.prog 16 #[.agg #[.int .i16 t, .int .i16 z, .int .i16 p], .slice ad ls.length c, .int .i64 a] w fun e w' => e = .returned (efR (mixOk t z p) (lotOk ls) z p a ls) ∧ Below w.heap.size w w' := by
  have hl : ls.length ≤ 9223372036854775807 := by omega
  have V := Lib.hid fun W => iValidMix_any t z p ht hz W
  have M0 := Lib.hid (block_alloc w (.cells #[.int .i16 t, .int .i16 z, .int .i16 p] 33))
  have B0 := Lib.hid (below_new (Below.refl w.heap.size w) (.cells #[.int .i16 t, .int .i16 z, .int .i16 p] 33))
  have L := fun W hb => iIsLot_any ad ls c W (lotIn_below h hb) hl
  have H := Lib.hid h
  have hbw := cell_bw
  clear ht hz h hl
  cases hv : mixOk t z p
  · rw [hv] at V
    rw [efR_no]
    have L := Lib.hid L
    clear hv
    go_enter Try.func16, Try.ntmps16
    go_wp2_with (go_at_call 26; refine (V.out _).mono ?_; rintro e w1 ⟨rfl, hB⟩; have b1 := Lib.hid (B0.out.trans (Below.mono hB B0.out.size)); have m1 := Lib.hid (Ab.block hB M0.out); clear hB)
    all_goals go_returns
    all_goals exact ⟨rfl, b1.out⟩
  rw [hv] at V
  obtain ⟨t0, z0, tz, p1, p8, pz⟩ := mix_inv hv
  clear hv
  cases hlo : lotOk ls
  · rw [hlo] at L; have L := Lib.hid L
    rw [efR_lot]
    clear hlo
    go_enter Try.func16, Try.ntmps16
    go_wp2_with (first
      | (go_at_call 26; refine (V.out _).mono ?_; rintro e w1 ⟨rfl, hB⟩; have b1 := Lib.hid (B0.out.trans (Below.mono hB B0.out.size)); have m1 := Lib.hid (Ab.block hB M0.out); clear hB)
      | (go_at_call 33; refine (L.out _ b1.out).mono ?_; rintro e w2 ⟨rfl, rfl⟩))
    all_goals go_returns
    all_goals exact ⟨rfl, b1.out⟩
  rw [hlo] at L; have L := Lib.hid L
  obtain ⟨hlen, hwl⟩ := lot_in hlo
  clear hlo
  by_cases h2 : 0 ≤ a ∧ a ≤ 12
  · have K2 := Lib.hid fun W => iAsked_any a W
    rw [decide_eq_true h2] at K2
    obtain ⟨P, rfl⟩ := Int.eq_ofNat_of_zero_le (show 0 ≤ p by omega)
    obtain ⟨A, rfl⟩ := Int.eq_ofNat_of_zero_le h2.1
    rw [efR_yes ls (by omega)]
    have FK := Lib.hid fun (n : Nat) (hn : n ≤ 12) W => iFc_any t z P n A z0 (by omega) (by omega) (by omega) pz (by omega) (by omega) W
    have FV := Lib.hid fun n => fcV_in z0 (by omega) pz n A
    have ES := Lib.hid fun j => efS_in z0 (by omega) pz A ls j
    have LL := Lib.hid hwl
    clear hwl h2
    go_enter Try.func16, Try.ntmps16
    go_wp2_with (first
      | (go_at_call 26; refine (V.out _).mono ?_; rintro e w1 ⟨rfl, hB⟩; have b1 := Lib.hid (B0.out.trans (Below.mono hB B0.out.size)); have m1 := Lib.hid (Ab.block hB M0.out); clear hB)
      | (go_at_call 33; refine (L.out _ b1.out).mono ?_; rintro e w2 ⟨rfl, rfl⟩)
      | (go_at_call 28; refine (K2.out _).mono ?_; rintro e w2 ⟨rfl, rfl⟩))
    go_loopw [8, 24] (fun x i wr => ∃ j : Nat, j ≤ ls.length ∧ i = .int .i64 (j : Int) ∧ x = .int .i64 (efS z P A ls j) ∧ Below w.heap.size w wr ∧ Ab w1 wr) (fun _ i _ => ls.length - (intOf i).toNat)
    case atStart => exact ⟨0, Nat.zero_le _, rfl, rfl, b1.out, Ab.refl _⟩
    case round =>
      obtain ⟨j, hj, rfl, rfl, hB, hA⟩ := hrel
      have BB := Lib.hid hB
      have AA := Lib.hid hA
      have mr := Ab.block hA m1.out
      have kr := cell_of_block mr
      have yr := lt_of_block mr
      have in1 := ES.out j
      by_cases hjl : j < ls.length
      · have hd : decide ((j : Int) < (ls.length : Int)) = true := by simpa using hjl
        obtain ⟨lb, lo, sa, sc, rfl, hlb, q0, _⟩ := H.out j hjl
        have e0 := (hB.cell (p := ⟨lb, lo + j, none⟩) hlb).trans q0
        have yl : lb < wr.heap.size := Nat.lt_of_lt_of_le hlb hB.size
        have i1 : (0 : Int) ≤ (j : Int) := by omega
        have i2 : (j : Int) < (ls.length : Int) := by omega
        have FI := FV.out (lsAt ls j).length
        have F := Lib.hid fun W => FK.out (lsAt ls j).length (LL.out j hjl) W
        have E := Lib.hid (show efS z P A ls (j + 1) = efS z P A ls j + fcV z P (lsAt ls j).length A from rfl)
        have ll := LL.out j hjl
        generalize efS z P A ls j = s at *
        generalize fcV z P (lsAt ls j).length A = v at *
        generalize (lsAt ls j).length = n at *
        clear hB hA q0 mr
        go_wp2_with (go_at_call 29; refine (F.out _).mono ?_; rintro e w3 ⟨rfl, hB3⟩; have B3 := Lib.hid (below_next BB.out hB3); have A3 := Lib.hid (Ab.trans AA.out hB3); clear hB3)
        exact ⟨⟨j + 1, hjl, by rw [Int.natCast_succ], by rw [E.out], B3.out, A3.out⟩, by (simp [intOf]) <;> omega⟩
      · have e : j = ls.length := by omega
        subst e
        have hd : decide ((ls.length : Int) < (ls.length : Int)) = false := by simp
        generalize hs : efS z P A ls ls.length = s at *
        have HS := Lib.hid hs
        clear hB hA mr hs
        go_wp2
        all_goals go_returns
        all_goals exact ⟨by rw [HS.out]; rfl, BB.out⟩
  · have K2 := Lib.hid fun W => iAsked_any a W
    rw [decide_eq_false h2] at K2
    rw [efR_out true z p ls h2]
    clear h2
    go_enter Try.func16, Try.ntmps16
    go_wp2_with (first
      | (go_at_call 26; refine (V.out _).mono ?_; rintro e w1 ⟨rfl, hB⟩; have b1 := Lib.hid (B0.out.trans (Below.mono hB B0.out.size)); have m1 := Lib.hid (Ab.block hB M0.out); clear hB)
      | (go_at_call 33; refine (L.out _ b1.out).mono ?_; rintro e w2 ⟨rfl, rfl⟩)
      | (go_at_call 28; refine (K2.out _).mono ?_; rintro e w2 ⟨rfl, rfl⟩))
    all_goals go_returns
    all_goals exact ⟨rfl, b1.out⟩

set_option maxHeartbeats 1600000 in
theorem sEf_any (t z p : Int) (ht : I16 t) (hz : I16 z) (hp : I16 p) (ad : Option Addr) (ls : List (List ByteArray)) (c : Nat) (a : Int) (w : World) (h : LotIn w ad ls) (hl : ls.length ≤ 1048576) :
    Calls Try.prog 14 #[.agg #[.int .i16 t, .int .i16 z, .int .i16 p], .slice ad ls.length c, .int .i64 a] w fun e w' => e = .returned (efR (mixOk t z p) (lotOk ls) z p a ls) ∧ Below w.heap.size w w' := by
  have hl : ls.length ≤ 9223372036854775807 := by omega
  have V := Lib.hid fun W c0 c1 c2 => sOkMix_any t z p ht hz hp w.heap.size 0 W c0 c1 c2
  have M0 := Lib.hid (block_alloc w (.cells #[.int .i16 t, .int .i16 z, .int .i16 p] 33))
  have B0 := Lib.hid (below_new (Below.refl w.heap.size w) (.cells #[.int .i16 t, .int .i16 z, .int .i16 p] 33))
  have L := fun W hb => sLot_any ad ls c W (lotIn_below h hb) hl
  have H := Lib.hid h
  have hbw := cell_bw
  clear ht hz hp h hl
  cases hv : mixOk t z p
  · rw [hv] at V
    rw [efR_no]
    have L := Lib.hid L
    clear hv
    go_enter Try.func14, Try.ntmps14
    go_wp2_with (go_at_call 23; refine (V.out _ (by simp) (by simp) (by simp)).mono ?_; rintro e w1 ⟨rfl, hB⟩; have b1 := Lib.hid (B0.out.trans (Below.mono hB B0.out.size)); have m1 := Lib.hid (Ab.block hB M0.out); clear hB)
    all_goals go_returns
    all_goals exact ⟨rfl, b1.out⟩
  rw [hv] at V
  obtain ⟨t0, z0, tz, p1, p8, pz⟩ := mix_inv hv
  clear hv
  cases hlo : lotOk ls
  · rw [lotC_no hlo] at L; have L := Lib.hid L
    rw [efR_lot]
    clear hlo
    go_enter Try.func14, Try.ntmps14
    go_wp2_with (first
      | (go_at_call 23; refine (V.out _ (by simp) (by simp) (by simp)).mono ?_; rintro e w1 ⟨rfl, hB⟩; have b1 := Lib.hid (B0.out.trans (Below.mono hB B0.out.size)); have m1 := Lib.hid (Ab.block hB M0.out); clear hB)
      | (go_at_call 31; refine (L.out _ b1.out).mono ?_; rintro e w2 ⟨rfl, rfl⟩))
    all_goals go_returns
    all_goals exact ⟨rfl, b1.out⟩
  rw [lotC_yes hlo] at L; have L := Lib.hid L
  obtain ⟨hlen, hwl⟩ := lot_in hlo
  clear hlo
  by_cases h2 : 0 ≤ a ∧ a ≤ 12
  · have K2 := Lib.hid fun W => sInM_t h2 W
    obtain ⟨P, rfl⟩ := Int.eq_ofNat_of_zero_le (show 0 ≤ p by omega)
    obtain ⟨A, rfl⟩ := Int.eq_ofNat_of_zero_le h2.1
    rw [efR_yes ls (by omega)]
    have FK := Lib.hid fun (n : Nat) (hn : n ≤ 12) W => sFc_any z P n A z0 (by omega) (by omega) (by omega) pz (by omega) (by omega) W
    have FV := Lib.hid fun n => fcV_in z0 (by omega) pz n A
    have ES := Lib.hid fun j => efS_in z0 (by omega) pz A ls j
    have LL := Lib.hid hwl
    clear hwl h2
    go_enter Try.func14, Try.ntmps14
    go_wp2_with (first
      | (go_at_call 23; refine (V.out _ (by simp) (by simp) (by simp)).mono ?_; rintro e w1 ⟨rfl, hB⟩; have b1 := Lib.hid (B0.out.trans (Below.mono hB B0.out.size)); have m1 := Lib.hid (Ab.block hB M0.out); clear hB)
      | (go_at_call 31; refine (L.out _ b1.out).mono ?_; rintro e w2 ⟨rfl, rfl⟩)
      | (go_at_call 24; refine (K2.out _).mono ?_; rintro e w2 ⟨rfl, rfl⟩))
    go_loopw [9, 10] (fun x i wr => ∃ j : Nat, j ≤ ls.length ∧ i = .int .i64 (j : Int) ∧ x = .int .i64 (efS z P A ls j) ∧ Below w.heap.size w wr ∧ Ab w1 wr) (fun _ i _ => ls.length - (intOf i).toNat)
    case atStart => exact ⟨0, Nat.zero_le _, rfl, rfl, b1.out, Ab.refl _⟩
    case round =>
      obtain ⟨j, hj, rfl, rfl, hB, hA⟩ := hrel
      have BB := Lib.hid hB
      have AA := Lib.hid hA
      have mr := Ab.block hA m1.out
      have kr := cell_of_block mr
      have yr := lt_of_block mr
      have in1 := ES.out j
      by_cases hjl : j < ls.length
      · have hd : decide ((j : Int) < (ls.length : Int)) = true := by simpa using hjl
        obtain ⟨lb, lo, sa, sc, rfl, hlb, q0, _⟩ := H.out j hjl
        have e0 := (hB.cell (p := ⟨lb, lo + j, none⟩) hlb).trans q0
        have yl : lb < wr.heap.size := Nat.lt_of_lt_of_le hlb hB.size
        have i1 : (0 : Int) ≤ (j : Int) := by omega
        have i2 : (j : Int) < (ls.length : Int) := by omega
        have FI := FV.out (lsAt ls j).length
        have F := Lib.hid fun W => FK.out (lsAt ls j).length (LL.out j hjl) W
        have E := Lib.hid (show efS z P A ls (j + 1) = efS z P A ls j + fcV z P (lsAt ls j).length A from rfl)
        have ll := LL.out j hjl
        generalize efS z P A ls j = s at *
        generalize fcV z P (lsAt ls j).length A = v at *
        generalize (lsAt ls j).length = n at *
        clear hB hA q0 mr
        go_wp2_with fail
        refine region_bw (by kernel_rfl) (by kernel_rfl) ?_
        repeat (go_big_quiet_step (first | (go_at_call 25; exact calls_bw (F.out _))))
        refine wpQuiet_nil ?_; intro wq hq; replace hq := below_of_bw hq; obtain ⟨qc, qf, qz⟩ := bcell hq
        have B3 := Lib.hid (below_next BB.out hq)
        have A3 := Lib.hid (Ab.trans AA.out hq)
        go_wp2_with fail
        exact ⟨⟨j + 1, hjl, by rw [Int.natCast_succ], by rw [E.out], B3.out, A3.out⟩, by (simp [intOf]) <;> omega⟩
      · have e : j = ls.length := by omega
        subst e
        have hd : decide ((ls.length : Int) < (ls.length : Int)) = false := by simp
        generalize hs : efS z P A ls ls.length = s at *
        have HS := Lib.hid hs
        clear hB hA mr hs
        go_wp2
        all_goals go_returns
        all_goals exact ⟨by rw [HS.out]; rfl, BB.out⟩
  · have K2 := Lib.hid fun W => sInM_f h2 W
    rw [efR_out true z p ls h2]
    clear h2
    go_enter Try.func14, Try.ntmps14
    go_wp2_with (first
      | (go_at_call 23; refine (V.out _ (by simp) (by simp) (by simp)).mono ?_; rintro e w1 ⟨rfl, hB⟩; have b1 := Lib.hid (B0.out.trans (Below.mono hB B0.out.size)); have m1 := Lib.hid (Ab.block hB M0.out); clear hB)
      | (go_at_call 31; refine (L.out _ b1.out).mono ?_; rintro e w2 ⟨rfl, rfl⟩)
      | (go_at_call 24; refine (K2.out _).mono ?_; rintro e w2 ⟨rfl, rfl⟩))
    all_goals go_returns
    all_goals exact ⟨rfl, b1.out⟩

end Go.Proofs.Ytdbkplfkilaoeab
