/- Contracts: the field that has a hole, the program's and the model's. -/
import Derived.Test.YthkmahcdojoioabSchI
import Derived.Test.YthkmahcdojoioabHole
import Derived.Test.YthkmahcdojoioabFind
namespace Go.Proofs.Ythkmahcdojoioab
open Go.ChangeShapes Go.WideShapes Go.ChangeAt Go.RowKit

theorem pt_in {s : ByteArray} {k st sz : Int} (h : fieldOk s k st sz = true) : U64 (pt0 k st sz) ∧ U64 (pt1 k st sz) := by
  obtain ⟨_, t0, _, _, n1, _, tw⟩ := width_ok h
  obtain ⟨n, hn⟩ := Int.eq_ofNat_of_zero_le (show 0 ≤ widthZ k sz by omega)
  have e := pa_pt k st sz n hn.symm t0 n1 tw
  rw [← e.1, ← e.2, pa_ma, pa_ma]
  exact ma_in st t0 n (by omega)
def isH (n : Int) : Bool := decide (0 ≤ n ∧ n ≤ 95)
theorem iHole_is {n : Int} {x : Bool} (h : isH n = x) : Hid (∀ w : World, Calls Try.prog 83 #[.int .i64 n] w fun e w' => e = .returned (.bool x) ∧ w = w') := Lib.hid fun w => by
  subst h
  unfold isH
  by_cases h0 : 0 ≤ n
  · have d0 : decide (0 ≤ n) = true := decide_eq_true h0
    by_cases h1 : n ≤ 95
    · have d1 : decide (n < 96) = true := decide_eq_true (by omega)
      rw [decide_eq_true ⟨h0, h1⟩]
      go_enter Try.func83, Try.ntmps83
      go_wp2
      go_returns
      exact ⟨rfl, rfl⟩
    · have d1 : decide (n < 96) = false := decide_eq_false (by omega)
      rw [decide_eq_false (fun q => h1 q.2)]
      go_enter Try.func83, Try.ntmps83
      go_wp2
      go_returns
      exact ⟨rfl, rfl⟩
  · have d0 : decide (0 ≤ n) = false := decide_eq_false h0
    rw [decide_eq_false (fun q => h0 q.1)]
    go_enter Try.func83, Try.ntmps83
    go_wp2
    go_returns
    exact ⟨rfl, rfl⟩
theorem sHole_is {n : Int} {x : Bool} (h : isH n = x) : Hid (∀ w : World, Calls Try.prog 86 #[.int .i64 n] w fun e w' => e = .returned (.bool x) ∧ w = w') := Lib.hid fun w => by
  have hx : inB n 0 95 = x := by rw [← h]; unfold inB isH; by_cases h0 : 0 ≤ n <;> by_cases h1 : n ≤ 95 <;> simp [h0, h1]
  have I := Lib.hid fun W => sIn_any n 0 95 W
  rw [hx] at I
  clear h hx
  go_enter Try.func86, Try.ntmps86
  go_wp2_with (go_at_call 115; refine (I.out _).mono ?_; rintro e w1 ⟨rfl, rfl⟩)
  go_returns
  exact ⟨rfl, rfl⟩

def hAt (fs : List Fd) (n : Int) (j : Nat) : Bool := hasB (fp0 fs j) (fp1 fs j) n
def fohFrom (fs : List Fd) (n : Int) : Nat → Nat → Int
  | 0, _ => -1
  | f + 1, j => if hAt fs n j = true then (j : Int) else fohFrom fs n f (j + 1)
def fohC (fs : List Fd) (n : Int) : Int := fohFrom fs n fs.length 0
theorem foh_hit {fs : List Fd} {n : Int} {j : Nat} (hj : j < fs.length) (h : fohFrom fs n (fs.length - j) j = fohC fs n) (he : hAt fs n j = true) : fohC fs n = j := by
  rw [← h, show fs.length - j = (fs.length - (j + 1)) + 1 by omega, fohFrom, if_pos he]
theorem foh_miss {fs : List Fd} {n : Int} {j : Nat} (hj : j < fs.length) (h : fohFrom fs n (fs.length - j) j = fohC fs n) (he : hAt fs n j = false) : fohFrom fs n (fs.length - (j + 1)) (j + 1) = fohC fs n := by
  rw [← h, show fs.length - j = (fs.length - (j + 1)) + 1 by omega, fohFrom, if_neg (by simp [he])]
theorem foh_end {fs : List Fd} {n : Int} (h : fohFrom fs n (fs.length - fs.length) fs.length = fohC fs n) : fohC fs n = -1 := by
  rw [← h, Nat.sub_self]; rfl
def fohR (ok h : Bool) (x : Int) : Value := .tuple #[.int .i64 (if ok && h then (if x < 0 then 0 else x) else 0), .int .i64 (if ok then (if h then (if x < 0 then 6 else 0) else 2) else 1)]
theorem fohR_1 (h : Bool) (x : Int) : .tuple #[.int .i64 0, .int .i64 1] = fohR false h x := rfl
theorem fohR_2 (x : Int) : .tuple #[.int .i64 0, .int .i64 2] = fohR true false x := rfl
theorem fohR_3 {x : Int} (h : x = -1) : .tuple #[.int .i64 0, .int .i64 6] = fohR true true x := by subst h; rfl
theorem fohR_4 {x : Int} (j : Nat) (h : x = j) : .tuple #[.int .i64 (j : Int), .int .i64 0] = fohR true true x := by
  subst h
  have h0 : ¬ ((j : Int) < 0) := by omega
  unfold fohR
  simp [h0]
theorem fohR_parts (ok h : Bool) (x : Int) : ∃ y z : Int, fohR ok h x = .tuple #[.int .i64 y, .int .i64 z] := ⟨_, _, rfl⟩
theorem eRetF {x y : Value} (h : x = y) : Ending.returned x = Ending.returned y := by rw [h]

set_option maxRecDepth 100000 in
set_option maxHeartbeats 1600000 in
theorem iFoh_any (ad : Option Addr) (fs : List Fd) (c : Nat) (n : Int) (w : World) (hc : FieldsIn w ad fs) :
    Calls Try.prog 54 #[.slice ad fs.length c, .int .i64 n] w fun e w' => e = .returned (fohR (schOk fs) (isH n) (fohC fs n)) ∧ Below w.heap.size w w' := by
  have C := Lib.hid hc
  have V := Lib.hid (iSch_any ad fs c w hc)
  clear hc
  cases hs : schOk fs
  · rw [hs] at V
    clear hs
    go_enter Try.func54, Try.ntmps54
    go_wp2_with (go_at_call 51; refine V.out.mono ?_; rintro e w1 ⟨rfl, hB⟩; have B1 := Lib.hid hB; clear hB)
    go_returns
    exact ⟨eRetF (fohR_1 _ _), B1.out⟩
  · have AL := Lib.hid (schOk_all hs)
    have hl := schOk_12 hs
    rw [hs] at V
    clear hs
    cases hh : isH n
    · have H := iHole_is hh
      clear hh
      go_enter Try.func54, Try.ntmps54
      go_wp2_with (first
        | (go_at_call 51; refine V.out.mono ?_; rintro e w1 ⟨rfl, hB⟩; have B1 := Lib.hid hB; clear hB)
        | (go_at_call 83; refine (H.out _).mono ?_; rintro e w2 ⟨rfl, rfl⟩))
      go_returns
      exact ⟨eRetF (fohR_2 _), B1.out⟩
    · have H := iHole_is hh
      have hn : 0 ≤ n ∧ n ≤ 95 := by unfold isH at hh; simpa using hh
      obtain ⟨n0, n1⟩ := hn
      have O := Lib.hid fun W => iOne_any n n0 n1 W
      clear hh
      have hbw := cell_bw
      go_enter Try.func54, Try.ntmps54
      go_wp2_with (first
        | (go_at_call 51; refine V.out.mono ?_; rintro e w1 ⟨rfl, hB⟩; have B1 := Lib.hid hB; clear hB)
        | (go_at_call 83; refine (H.out _).mono ?_; rintro e w2 ⟨rfl, rfl⟩))
      go_loopw [16] (fun i wr => ∃ j : Nat, j ≤ fs.length ∧ i = .int .i64 j ∧ fohFrom fs n (fs.length - j) j = fohC fs n ∧ Below w.heap.size w wr) (fun i _ => fs.length - (intOf i).toNat)
      case atStart => exact ⟨0, Nat.zero_le _, rfl, rfl, B1.out⟩
      case round =>
        obtain ⟨j, hj, rfl, hs, hB⟩ := hrel
        have BB := Lib.hid hB
        have S := Lib.hid hs
        clear hs V H
        by_cases hjl : j < fs.length
        · have hd : decide ((j : Int) < (fs.length : Int)) = true := by simpa using hjl
          obtain ⟨_, bk, o1, rfl, hb1, p0, p1, p2, p3⟩ := C.out j hjl
          have d0 := (hB.cell (p := ⟨bk, o1 + j * 4, none⟩) hb1).trans p0
          have d1 := (hB.cell (p := ⟨bk, o1 + j * 4 + 1, none⟩) hb1).trans p1
          have d2 := (hB.cell (p := ⟨bk, o1 + j * 4 + 2, none⟩) hb1).trans p2
          have d3 := (hB.cell (p := ⟨bk, o1 + j * 4 + 3, none⟩) hb1).trans p3
          have i1 : (0 : Int) ≤ (j : Int) := by omega
          have i2 : (j : Int) < (fs.length : Int) := by omega
          have ok := AL.out j hjl
          have P : Hid (∀ W : World, Calls Try.prog 103 #[.agg #[.string (fdAt fs j).s, .int .i8 (fdAt fs j).k, .int .i16 (fdAt fs j).t, .int .i16 (fdAt fs j).z]] W fun e w' => e = .returned (.agg #[.int .u64 (fp0 fs j), .int .u64 (fp1 fs j)]) ∧ Below W.heap.size W w') := Lib.hid fun W => iPartOk _ _ _ _ ok W
          have I : Hid (∀ W : World, Calls Try.prog 108 #[.agg #[.int .u64 (b0 n), .int .u64 (b1 n)], .agg #[.int .u64 (fp0 fs j), .int .u64 (fp1 fs j)]] W fun e w' => e = .returned (.bool (hAt fs n j)) ∧ Below W.heap.size W w') := Lib.hid fun W => (iWithin_any (b0 n) (b1 n) (fp0 fs j) (fp1 fs j) W).mono fun e w' hh => ⟨hh.1.trans (by have e := within_bit (fp0 fs j) (fp1 fs j) n (pt_in ok).1 (pt_in ok).2 n0 n1; rw [e]; rfl), hh.2⟩
          have HT := Lib.hid (fun h => foh_hit hjl S.out h)
          have MS := Lib.hid (fun h => foh_miss hjl S.out h)
          clear hB p0 p1 p2 p3 S ok
          generalize fp0 fs j = PX at *
          generalize fp1 fs j = PY at *
          generalize fdAt fs j = fd at *
          obtain ⟨s, k, t, z⟩ := fd
          simp only at d0 d1 d2 d3 P
          go_upto_region 8 with fail
          have HF := Lib.hid (block_alloc wr (.cells #[.string s, .int .i8 k, .int .i16 t, .int .i16 z] 33))
          have hA : Ab wr (wr.alloc (.cells #[.string s, .int .i8 k, .int .i16 t, .int .i16 z] 33)) := below_new (Below.refl _ _) _
          have B2 := Lib.hid (BB.out.trans (Below.mono hA BB.out.size))
          clear d0 d1 d2 d3 hA
          generalize wr.alloc (.cells #[.string s, .int .i8 k, .int .i16 t, .int .i16 z] 33) = V1 at *
          generalize wr.heap.size = g at *
          have c0 := cell_of_block HF.out
          have z0 := lt_of_block HF.out
          cases hx : hAt fs n j
          · rw [hx] at I
            refine region_bw (by kernel_rfl) (by kernel_rfl) ?_
            repeat (go_big_quiet_step (first | (go_at_call 109; exact calls_bw (O.out _)) | (go_at_call 103; exact calls_bw (P.out _)) | (go_at_call 108; exact calls_bw (I.out _))))
            refine wpQuiet_nil ?_; intro wq hq; replace hq := below_of_bw hq; obtain ⟨qc, qf, qz⟩ := bcell hq
            go_wp2
            exact ⟨⟨j + 1, hjl, by rw [Int.natCast_succ], MS.out hx, B2.out.trans (hq.mono B2.out.size)⟩, by (simp [intOf]) <;> omega⟩
          · rw [hx] at I
            refine region_bw (by kernel_rfl) (by kernel_rfl) ?_
            repeat (go_big_quiet_step (first | (go_at_call 109; exact calls_bw (O.out _)) | (go_at_call 103; exact calls_bw (P.out _)) | (go_at_call 108; exact calls_bw (I.out _))))
            refine wpQuiet_nil ?_; intro wq hq; replace hq := below_of_bw hq; obtain ⟨qc, qf, qz⟩ := bcell hq
            go_wp2
            go_returns
            exact ⟨eRetF (fohR_4 j (HT.out hx)), B2.out.trans (hq.mono B2.out.size)⟩
        · have e : j = fs.length := by omega
          subst e
          have hd : decide ((fs.length : Int) < (fs.length : Int)) = false := by simp
          clear hB
          go_wp2
          go_returns
          exact ⟨eRetF (fohR_3 (foh_end S.out)), BB.out⟩

set_option maxRecDepth 100000 in
set_option maxHeartbeats 1600000 in
theorem sFoh_any (ad : Option Addr) (fs : List Fd) (c : Nat) (n : Int) (w : World) (hc : FieldsIn w ad fs) :
    Calls Try.prog 53 #[.slice ad fs.length c, .int .i64 n] w fun e w' => e = .returned (fohR (schOk fs) (isH n) (fohC fs n)) ∧ Below w.heap.size w w' := by
  have C := Lib.hid hc
  have V := Lib.hid (sSch_any ad fs c w hc)
  clear hc
  cases hs : schOk fs
  · rw [hs] at V
    clear hs
    go_enter Try.func53, Try.ntmps53
    go_wp2_with (go_at_call 102; refine V.out.mono ?_; rintro e w1 ⟨rfl, hB⟩; have B1 := Lib.hid hB; clear hB)
    go_returns
    exact ⟨eRetF (fohR_1 _ _), B1.out⟩
  · have AL := Lib.hid (schOk_all hs)
    have hl := schOk_12 hs
    rw [hs] at V
    clear hs
    cases hh : isH n
    · have H := sHole_is hh
      clear hh
      go_enter Try.func53, Try.ntmps53
      go_wp2_with (first
        | (go_at_call 102; refine V.out.mono ?_; rintro e w1 ⟨rfl, hB⟩; have B1 := Lib.hid hB; clear hB)
        | (go_at_call 86; refine (H.out _).mono ?_; rintro e w2 ⟨rfl, rfl⟩))
      go_returns
      exact ⟨eRetF (fohR_2 _), B1.out⟩
    · have H := sHole_is hh
      have hn : 0 ≤ n ∧ n ≤ 95 := by unfold isH at hh; simpa using hh
      obtain ⟨n0, n1⟩ := hn
      clear hh
      go_enter Try.func53, Try.ntmps53
      go_wp2_with (first
        | (go_at_call 102; refine V.out.mono ?_; rintro e w1 ⟨rfl, hB⟩; have B1 := Lib.hid hB; clear hB)
        | (go_at_call 86; refine (H.out _).mono ?_; rintro e w2 ⟨rfl, rfl⟩))
      go_loopw [6] (fun i wr => ∃ j : Nat, j ≤ fs.length ∧ i = .int .i64 j ∧ fohFrom fs n (fs.length - j) j = fohC fs n ∧ Below w.heap.size w wr) (fun i _ => fs.length - (intOf i).toNat)
      case atStart => exact ⟨0, Nat.zero_le _, rfl, rfl, B1.out⟩
      case round =>
        obtain ⟨j, hj, rfl, hs, hB⟩ := hrel
        have BB := Lib.hid hB
        have S := Lib.hid hs
        clear hs V H
        by_cases hjl : j < fs.length
        · have hd : decide ((j : Int) < (fs.length : Int)) = true := by simpa using hjl
          obtain ⟨_, bk, o1, rfl, hb1, p0, p1, p2, p3⟩ := C.out j hjl
          have d1 := (hB.cell (p := ⟨bk, o1 + j * 4 + 1, none⟩) hb1).trans p1
          have d2 := (hB.cell (p := ⟨bk, o1 + j * 4 + 2, none⟩) hb1).trans p2
          have d3 := (hB.cell (p := ⟨bk, o1 + j * 4 + 3, none⟩) hb1).trans p3
          have i1 : (0 : Int) ≤ (j : Int) := by omega
          have i2 : (j : Int) < (fs.length : Int) := by omega
          have ok := AL.out j hjl
          have P : Hid (Calls Try.prog 107 #[.pointer (some ⟨bk, o1 + j * 4, none⟩)] wr fun e w' => e = .returned (.agg #[.int .u64 (fp0 fs j), .int .u64 (fp1 fs j)]) ∧ Below wr.heap.size wr w') := Lib.hid (sPartOk (fdAt fs j).s _ _ _ ok bk (o1 + j * 4) wr d1 d2 d3)
          have I : Hid (∀ W : World, Calls Try.prog 106 #[.agg #[.int .u64 (fp0 fs j), .int .u64 (fp1 fs j)], .int .i64 n] W fun e w' => e = .returned (.bool (hAt fs n j)) ∧ Below W.heap.size W w') := Lib.hid fun W => sHas_any (fp0 fs j) (fp1 fs j) n (pt_in ok).1 (pt_in ok).2 n0 n1 W
          have HT := Lib.hid (fun h => foh_hit hjl S.out h)
          have MS := Lib.hid (fun h => foh_miss hjl S.out h)
          clear hB p0 p1 p2 p3 S ok d1 d2 d3
          generalize fp0 fs j = PX at *
          generalize fp1 fs j = PY at *
          cases hx : hAt fs n j
          · rw [hx] at I
            go_wp2_with (first
              | (go_at_call 107; refine P.out.mono ?_; rintro e w3 ⟨rfl, hB3⟩; have B3 := Lib.hid (BB.out.trans (Below.mono hB3 BB.out.size)); clear hB3)
              | (go_at_call 106; refine (I.out _).mono ?_; rintro e w4 ⟨rfl, hB4⟩; have B4 := Lib.hid (B3.out.trans (Below.mono hB4 B3.out.size)); clear hB4))
            exact ⟨⟨j + 1, hjl, by rw [Int.natCast_succ], MS.out hx, B4.out⟩, by (simp [intOf]) <;> omega⟩
          · rw [hx] at I
            go_wp2_with (first
              | (go_at_call 107; refine P.out.mono ?_; rintro e w3 ⟨rfl, hB3⟩; have B3 := Lib.hid (BB.out.trans (Below.mono hB3 BB.out.size)); clear hB3)
              | (go_at_call 106; refine (I.out _).mono ?_; rintro e w4 ⟨rfl, hB4⟩; have B4 := Lib.hid (B3.out.trans (Below.mono hB4 B3.out.size)); clear hB4))
            go_returns
            exact ⟨eRetF (fohR_4 j (HT.out hx)), B4.out⟩
        · have e : j = fs.length := by omega
          subst e
          have hd : decide ((fs.length : Int) < (fs.length : Int)) = false := by simp
          clear hB
          go_wp2
          go_returns
          exact ⟨eRetF (fohR_3 (foh_end S.out)), BB.out⟩
end Go.Proofs.Ythkmahcdojoioab
