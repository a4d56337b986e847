/- Is a scheme valid, in plain words; the model's contract and the program's. -/
import Derived.Test.YtllhglakihfjmaaDoorNames
import Derived.Test.YtllhglakihfjmaaDoorClear
import Derived.Test.YtllhglakihfjmaaDoorFlds2
import Derived.Test.YtllhglakihfjmaaDoorSame
import Derived.Test.YtllhglakihfjmaaDoorDeckI
import Derived.Test.YtllhglakihfjmaaDoorQuery
import Derived.Deep.DeepCutAuto
namespace Go.Proofs.YtllhglakihfjmaaDoor
open Go.ChangeShapes Go.WideShapes Go.ChangeAt Go.RowKit

def fNames (fs : List Fd) (i : Nat) : List ByteArray := (List.range i).map fun j => (fdAt fs j).s
def fOk (fs : List Fd) (i : Nat) : Bool := fieldOk (fdAt fs i).s (fdAt fs i).k (fdAt fs i).t (fdAt fs i).z
def fp0 (fs : List Fd) (i : Nat) : Int := pt0 (fdAt fs i).k (fdAt fs i).t (fdAt fs i).z
def fp1 (fs : List Fd) (i : Nat) : Int := pt1 (fdAt fs i).k (fdAt fs i).t (fdAt fs i).z
/-- The holes of the first fields. -/
def tk0 (fs : List Fd) : Nat → Int
  | 0 => 0
  | i + 1 => bits .or .u64 (tk0 fs i) (fp0 fs i)
def tk1 (fs : List Fd) : Nat → Int
  | 0 => 0
  | i + 1 => bits .or .u64 (tk1 fs i) (fp1 fs i)
def fFree (fs : List Fd) (i : Nat) : Bool := bits .and .u64 (tk0 fs i) (fp0 fs i) == 0 && bits .and .u64 (tk1 fs i) (fp1 fs i) == 0
def schTo (fs : List Fd) : Nat → Bool
  | 0 => true
  | i + 1 => schTo fs i && (fOk fs i && (!hasN (fNames fs i) (fdAt fs i).s && fFree fs i))
def schOk (fs : List Fd) : Bool := decide (fs.length ≤ 12) && schTo fs fs.length
theorem fNames_next (fs : List Fd) (i : Nat) : fNames fs (i + 1) = fNames fs i ++ [(fdAt fs i).s] := by unfold fNames; rw [List.range_succ, List.map_append]; rfl
theorem fNames_len (fs : List Fd) (i : Nat) : (fNames fs i).length = i := by unfold fNames; simp
theorem fHas_next (fs : List Fd) (k : Nat) (s : ByteArray) : hasN (fNames fs (k + 1)) s = (hasN (fNames fs k) s || ((fdAt fs k).s == s)) := by
  rw [fNames_next, bytes_beq]; unfold hasN; simp
theorem fHas_mono {fs : List Fd} {k : Nat} {s : ByteArray} (h : ((fdAt fs k).s == s) = true) : ∀ n, k < n → hasN (fNames fs n) s = true
  | 0, hk => absurd hk (Nat.not_lt_zero _)
  | n + 1, hk => by
    rw [fHas_next]
    by_cases e : k = n
    · subst e; rw [h, Bool.or_true]
    · rw [fHas_mono h n (by omega)]; rfl
theorem schTo_no {fs : List Fd} {i : Nat} (h : schTo fs (i + 1) = false) : ∀ n, i < n → schTo fs n = false
  | 0, hk => absurd hk (Nat.not_lt_zero _)
  | n + 1, hk => by
    by_cases e : i = n
    · subst e; exact h
    · unfold schTo; rw [schTo_no h n (by omega)]; rfl
theorem schOk_long {fs : List Fd} (h : ¬ fs.length ≤ 12) : schOk fs = false := by unfold schOk; simp [h]
theorem schOk_no {fs : List Fd} {i : Nat} (hi : i < fs.length) (h : schTo fs (i + 1) = false) : schOk fs = false := by unfold schOk; rw [schTo_no h _ hi, Bool.and_false]
theorem schOk_yes {fs : List Fd} (h : fs.length ≤ 12) (h1 : schTo fs fs.length = true) : schOk fs = true := by unfold schOk; rw [h1, decide_eq_true h]; rfl
theorem schTo_field {fs : List Fd} {i : Nat} (h : fOk fs i = false) : schTo fs (i + 1) = false := by unfold schTo; rw [h]; simp
theorem schTo_name {fs : List Fd} {i : Nat} (h : hasN (fNames fs i) (fdAt fs i).s = true) : schTo fs (i + 1) = false := by unfold schTo; rw [h]; simp
theorem schTo_hole {fs : List Fd} {i : Nat} (h : fFree fs i = false) : schTo fs (i + 1) = false := by unfold schTo; rw [h]; simp
theorem schTo_yes {fs : List Fd} {i : Nat} (h0 : schTo fs i = true) (h1 : fOk fs i = true) (h2 : hasN (fNames fs i) (fdAt fs i).s = false) (h3 : fFree fs i = true) : schTo fs (i + 1) = true := by unfold schTo; rw [h0, h1, h2, h3]; rfl
theorem schOk_12 {fs : List Fd} (h : schOk fs = true) : fs.length ≤ 12 := by
  unfold schOk at h
  simp only [Bool.and_eq_true, decide_eq_true_eq] at h
  exact h.1
theorem schTo_all {fs : List Fd} : ∀ n, schTo fs n = true → ∀ i, i < n → fOk fs i = true
  | 0, _, i, hi => absurd hi (Nat.not_lt_zero _)
  | n + 1, h, i, hi => by
    unfold schTo at h
    simp only [Bool.and_eq_true] at h
    by_cases e : i = n
    · subst e; exact h.2.1
    · exact schTo_all n h.1 i (by omega)
theorem schOk_all {fs : List Fd} (h : schOk fs = true) : ∀ i, i < fs.length → fOk fs i = true := by
  unfold schOk at h
  simp only [Bool.and_eq_true] at h
  exact schTo_all _ h.2
/-- The box of the holes that are taken. -/
def TkB (w wr : World) (x y : Int) : Prop := wr.heap[w.heap.size]? = some (.cells #[.int .u64 x, .int .u64 y] 28 (0, 0)) ∧ Below w.heap.size w wr
theorem tkB_start (w : World) : TkB w (w.alloc (.cells #[.int .u64 0, .int .u64 0] 28)) 0 0 := ⟨block_alloc _ _, below_new (Below.refl _ _) _⟩
theorem tkB_ab {w W W' : World} {x y : Int} (h : TkB w W x y) (hb : Ab W W') : TkB w W' x y := ⟨hb.block h.1, h.2.trans (Below.mono hb h.2.size)⟩
theorem tkB_set {w W : World} {x y : Int} (h : TkB w W x y) (u v : Int) : TkB w ((W.setCell ⟨w.heap.size, 0, none⟩ (.int .u64 u)).setCell ⟨w.heap.size, 1, none⟩ (.int .u64 v)) u v := by
  have h1 := block_setCell (j := 0) (.int .u64 u) h.1
  have h2 := block_setCell (j := 1) (.int .u64 v) h1
  exact ⟨h2, (h.2.setCell (Nat.le_refl _) _).setCell (Nat.le_refl _) _⟩

set_option maxHeartbeats 3200000 in
theorem sSch_any (ad : Option Addr) (fs : List Fd) (c : Nat) (w : World) (hc : FieldsIn w ad fs) :
    Calls Tryd.prog 46 #[.slice ad fs.length c] w fun e w' => e = .returned (.bool (schOk fs)) ∧ Below w.heap.size w w' := by
  have C := Lib.hid hc
  have hbw := cell_bw
  have he := eq_mask
  clear hc
  by_cases hl : fs.length ≤ 12
  · have HL := Lib.hid hl
    have hg : decide ((12 : Int) < (fs.length : Int)) = false := by simp; omega
    have TS := Lib.hid (tkB_start w)
    have TZ := Lib.hid (tkB_set (tkB_start w) 0 0)
    go_enter Tryd.func46, Tryd.ntmps46
    go_wp2
    go_loopw [4] (fun i wr => ∃ j : Nat, j ≤ fs.length ∧ i = .int .i64 j ∧ schTo fs j = true ∧ TkB w wr (tk0 fs j) (tk1 fs j)) (fun i _ => fs.length - (intOf i).toNat)
    case atStart => exact ⟨0, Nat.zero_le _, rfl, rfl, by first | exact TS.out | exact TZ.out⟩
    case round =>
      obtain ⟨j, hj, rfl, hs, hB⟩ := hrel
      have BB := Lib.hid hB
      have S := Lib.hid hs
      clear hs hg TS TZ
      by_cases hjl : j < fs.length
      · have hd : decide ((j : Int) < (fs.length : Int)) = true := by simpa using hjl
        obtain ⟨⟨f1, f2, f3, f4⟩, b1, o1, rfl, hb1, p0, p1, p2, p3⟩ := C.out j hjl
        have d0 := (hB.2.cell (p := ⟨b1, o1 + j * 4, none⟩) hb1).trans p0
        have d1 := (hB.2.cell (p := ⟨b1, o1 + j * 4 + 1, none⟩) hb1).trans p1
        have d2 := (hB.2.cell (p := ⟨b1, o1 + j * 4 + 2, none⟩) hb1).trans p2
        have d3 := (hB.2.cell (p := ⟨b1, o1 + j * 4 + 3, none⟩) hb1).trans p3
        have y1 : b1 < wr.heap.size := Nat.lt_of_lt_of_le hb1 hB.2.size
        have i1 : (0 : Int) ≤ (j : Int) := by omega
        have i2 : (j : Int) < (fs.length : Int) := by omega
        have no1 : Hid (fOk fs j = false → schOk fs = false) := Lib.hid fun h => schOk_no hjl (schTo_field h)
        have no2 : Hid (hasN (fNames fs j) (fdAt fs j).s = true → schOk fs = false) := Lib.hid fun h => schOk_no hjl (schTo_name h)
        have no3 : Hid (fFree fs j = false → schOk fs = false) := Lib.hid fun h => schOk_no hjl (schTo_hole h)
        have nx : Hid (fOk fs j = true → fFree fs j = true → hasN (fNames fs j) (fdAt fs j).s = false → schTo fs (j + 1) = true) := Lib.hid fun h1 h3 h2 => schTo_yes S.out h1 h2 h3
        have V := Lib.hid fun W c0 c1 c2 c3 => sVF_any (fdAt fs j).s (fdAt fs j).k (fdAt fs j).t (fdAt fs j).z f1 f3 f4 b1 (o1 + j * 4) W c0 c1 c2 c3
        have V : Hid (∀ W : World, W.cell? ⟨b1, o1 + j * 4, none⟩ = some (.string (fdAt fs j).s) → W.cell? ⟨b1, o1 + j * 4 + 1, none⟩ = some (.int .i8 (fdAt fs j).k) → W.cell? ⟨b1, o1 + j * 4 + 2, none⟩ = some (.int .i16 (fdAt fs j).t) → W.cell? ⟨b1, o1 + j * 4 + 3, none⟩ = some (.int .i16 (fdAt fs j).z) → Calls Tryd.prog 81 #[.pointer (some ⟨b1, o1 + j * 4, none⟩)] W fun e w' => e = .returned (.bool (fOk fs j)) ∧ Below W.heap.size W w') := V
        have P : Hid (fOk fs j = true → ∀ W : World, W.cell? ⟨b1, o1 + j * 4 + 1, none⟩ = some (.int .i8 (fdAt fs j).k) → W.cell? ⟨b1, o1 + j * 4 + 2, none⟩ = some (.int .i16 (fdAt fs j).t) → W.cell? ⟨b1, o1 + j * 4 + 3, none⟩ = some (.int .i16 (fdAt fs j).z) → Calls Tryd.prog 82 #[.pointer (some ⟨b1, o1 + j * 4, none⟩)] W fun e w' => e = .returned (.agg #[.int .u64 (fp0 fs j), .int .u64 (fp1 fs j)]) ∧ Below W.heap.size W w') := Lib.hid fun h W c1 c2 c3 => sPartOk (fdAt fs j).s _ _ _ h b1 (o1 + j * 4) W c1 c2 c3
        have P0 := Lib.hid p0
        clear hB p0 p1 p2 p3 S f1 f2 f3 f4
        cases hz : fOk fs j
        · rw [hz] at V
          clear P no2 no3 nx
          go_wp2_with (go_at_call 81; refine (V.out _ d0 d1 d2 d3).mono ?_; rintro e w1 ⟨rfl, hB1⟩; have B1 := Lib.hid (tkB_ab BB.out hB1); have e0 := (hB1.cell (p := ⟨b1, o1 + j * 4, none⟩) y1).trans d0; have e1 := (hB1.cell (p := ⟨b1, o1 + j * 4 + 1, none⟩) y1).trans d1; have e2 := (hB1.cell (p := ⟨b1, o1 + j * 4 + 2, none⟩) y1).trans d2; have e3 := (hB1.cell (p := ⟨b1, o1 + j * 4 + 3, none⟩) y1).trans d3; have y2 : b1 < w1.heap.size := Nat.lt_of_lt_of_le y1 hB1.size; clear hB1)
          go_ret
          exact ⟨retB (no1.out hz), B1.out.2⟩
        · rw [hz] at V
          have PT := Lib.hid (P.out hz)
          have NX := Lib.hid (nx.out hz)
          clear P nx no1 hz
          cases hq : fFree fs j
          · have nf := Lib.hid (no3.out hq)
            have hm : (bits .and .u64 (tk0 fs j) (fp0 fs j) == 0 && bits .and .u64 (tk1 fs j) (fp1 fs j) == 0) = false := hq
            clear no2 no3 NX hq
            generalize tk0 fs j = x at *
            generalize tk1 fs j = y at *
            generalize hPX : fp0 fs j = PX at *
            generalize hPY : fp1 fs j = PY at *
            go_wp2_with (first
              | (go_at_call 81; refine (V.out _ d0 d1 d2 d3).mono ?_; rintro e w1 ⟨rfl, hB1⟩; have B1 := Lib.hid (tkB_ab BB.out hB1); have e0 := (hB1.cell (p := ⟨b1, o1 + j * 4, none⟩) y1).trans d0; have e1 := (hB1.cell (p := ⟨b1, o1 + j * 4 + 1, none⟩) y1).trans d1; have e2 := (hB1.cell (p := ⟨b1, o1 + j * 4 + 2, none⟩) y1).trans d2; have e3 := (hB1.cell (p := ⟨b1, o1 + j * 4 + 3, none⟩) y1).trans d3; have y2 : b1 < w1.heap.size := Nat.lt_of_lt_of_le y1 hB1.size; clear hB1)
              | (go_at_call 82; refine (PT.out _ e1 e2 e3).mono ?_; rintro e w2 ⟨rfl, hB2⟩; have B2 := Lib.hid (tkB_ab B1.out hB2); have c0 := cell_of_block B2.out.1; have z0 := lt_of_block B2.out.1; have h0 := (hB2.cell (p := ⟨b1, o1 + j * 4, none⟩) y2).trans e0; have y3 : b1 < w2.heap.size := Nat.lt_of_lt_of_le y2 hB2.size; clear hB2 e0 e1 e2 e3)
              | (go_at_call 83; refine (sMeet_below _ _ _ _ _).mono ?_; rintro e w3 ⟨rfl, hB3⟩; have A3 : Ab w2 w3 := ((below_new (Below.refl w2.heap.size w2) _).trans (Below.mono hB3 (by simp))); have B3 := Lib.hid (tkB_ab B2.out A3); have q0 : w3.cell? ⟨w2.heap.size, 0, none⟩ = some (.int .u64 PX) := (hB3.cell (by simp)).trans (by simp); have q1 : w3.cell? ⟨w2.heap.size, 1, none⟩ = some (.int .u64 PY) := (hB3.cell (by simp)).trans (by simp); have zo : w2.heap.size < w3.heap.size := Nat.lt_of_lt_of_le (by simp) hB3.size; have k0 := (A3.cell (p := ⟨b1, o1 + j * 4, none⟩) y3).trans h0; have y4 : b1 < w3.heap.size := Nat.lt_of_lt_of_le y3 A3.size; clear c0 z0 hB3 h0; have c0 := cell_of_block B3.out.1; have g0 := free_of_block B3.out.1; have z0 := lt_of_block B3.out.1))
            go_ret
            exact ⟨retB nf.out, B3.out.2⟩
          · have NX := Lib.hid (NX.out hq)
            have hm : (bits .and .u64 (tk0 fs j) (fp0 fs j) == 0 && bits .and .u64 (tk1 fs j) (fp1 fs j) == 0) = true := hq
            have tx : bits .or .u64 (tk0 fs j) (fp0 fs j) = tk0 fs (j + 1) := rfl
            have ty : bits .or .u64 (tk1 fs j) (fp1 fs j) = tk1 fs (j + 1) := rfl
            have TX := Lib.hid tx
            have TY := Lib.hid ty
            clear no3 hq tx ty
            generalize tk0 fs j = x at *
            generalize tk1 fs j = y at *
            generalize hPX : fp0 fs j = PX at *
            generalize hPY : fp1 fs j = PY at *
            go_wp2_with (first
              | (go_at_call 81; refine (V.out _ d0 d1 d2 d3).mono ?_; rintro e w1 ⟨rfl, hB1⟩; have B1 := Lib.hid (tkB_ab BB.out hB1); have e0 := (hB1.cell (p := ⟨b1, o1 + j * 4, none⟩) y1).trans d0; have e1 := (hB1.cell (p := ⟨b1, o1 + j * 4 + 1, none⟩) y1).trans d1; have e2 := (hB1.cell (p := ⟨b1, o1 + j * 4 + 2, none⟩) y1).trans d2; have e3 := (hB1.cell (p := ⟨b1, o1 + j * 4 + 3, none⟩) y1).trans d3; have y2 : b1 < w1.heap.size := Nat.lt_of_lt_of_le y1 hB1.size; clear hB1)
              | (go_at_call 82; refine (PT.out _ e1 e2 e3).mono ?_; rintro e w2 ⟨rfl, hB2⟩; have B2 := Lib.hid (tkB_ab B1.out hB2); have c0 := cell_of_block B2.out.1; have z0 := lt_of_block B2.out.1; have h0 := (hB2.cell (p := ⟨b1, o1 + j * 4, none⟩) y2).trans e0; have y3 : b1 < w2.heap.size := Nat.lt_of_lt_of_le y2 hB2.size; clear hB2 e0 e1 e2 e3)
              | (go_at_call 83; refine (sMeet_below _ _ _ _ _).mono ?_; rintro e w3 ⟨rfl, hB3⟩; have A3 : Ab w2 w3 := ((below_new (Below.refl w2.heap.size w2) _).trans (Below.mono hB3 (by simp))); have B3 := Lib.hid (tkB_ab B2.out A3); have q0 : w3.cell? ⟨w2.heap.size, 0, none⟩ = some (.int .u64 PX) := (hB3.cell (by simp)).trans (by simp); have q1 : w3.cell? ⟨w2.heap.size, 1, none⟩ = some (.int .u64 PY) := (hB3.cell (by simp)).trans (by simp); have zo : w2.heap.size < w3.heap.size := Nat.lt_of_lt_of_le (by simp) hB3.size; have k0 := (A3.cell (p := ⟨b1, o1 + j * 4, none⟩) y3).trans h0; have y4 : b1 < w3.heap.size := Nat.lt_of_lt_of_le y3 A3.size; clear c0 z0 hB3 h0; have c0 := cell_of_block B3.out.1; have g0 := free_of_block B3.out.1; have z0 := lt_of_block B3.out.1)
              | (go_at_call 84; refine (sJoin_below _ _ _ _ _).mono ?_; rintro e w4 ⟨rfl, hB4⟩; have B4 := Lib.hid (tkB_ab B3.out hB4); have k4 := (hB4.cell (p := ⟨b1, o1 + j * 4, none⟩) y4).trans k0; have y5 : b1 < w4.heap.size := Nat.lt_of_lt_of_le y4 hB4.size; clear c0 g0 z0 hB4; have c0 := cell_of_block B4.out.1; have g0 := free_of_block B4.out.1; have z0 := lt_of_block B4.out.1))
            have B5 := Lib.hid (tkB_set B4.out (bits .or .u64 x PX) (bits .or .u64 y PY))
            go_loopw [6] (fun u wr => ∃ k : Nat, k ≤ j ∧ u = .int .i64 k ∧ hasN (fNames fs k) (fdAt fs j).s = false ∧ TkB w wr (bits .or .u64 x PX) (bits .or .u64 y PY)) (fun u _ => j - (intOf u).toNat)
            case atStart => exact ⟨0, Nat.zero_le _, rfl, rfl, B5.out⟩
            case round =>
              obtain ⟨k, hk, rfl, hs, hB⟩ := hrel
              have BC := Lib.hid hB
              have S := Lib.hid hs
              clear hs c0 g0 z0
              by_cases hkl : k < j
              · have hd : decide ((k : Int) < (j : Int)) = true := by simpa using hkl
                obtain ⟨_, b2, o2, he2, hb2, q0, _, _, _⟩ := C.out k (Nat.lt_trans hkl hjl)
                cases he2
                have e0 := (hB.2.cell (p := ⟨b1, o1 + j * 4, none⟩) hb1).trans P0.out
                have e1 := (hB.2.cell (p := ⟨b1, o1 + k * 4, none⟩) hb1).trans q0
                have y6 : b1 < wr.heap.size := Nat.lt_of_lt_of_le hb1 hB.2.size
                have i3 : (0 : Int) ≤ (k : Int) := by omega
                have i4 : (k : Int) < (fs.length : Int) := by omega
                have n2 : Hid (((fdAt fs k).s == (fdAt fs j).s) = true → schOk fs = false) := Lib.hid fun h => no2.out (fHas_mono h j hkl)
                have n3 : Hid (((fdAt fs k).s == (fdAt fs j).s) = false → hasN (fNames fs (k + 1)) (fdAt fs j).s = false) := Lib.hid fun h => by rw [fHas_next, S.out, h]; rfl
                clear hB q0 hb2
                cases hx : ((fdAt fs k).s == (fdAt fs j).s)
                · have ht : ((fdAt fs k).s.toList == (fdAt fs j).s.toList) = false := by rw [← beq_toListBytes]; exact hx
                  go_wp2_with fail
                  refine region_bw (by kernel_rfl) (by kernel_rfl) ?_
                  repeat (go_big_quiet_step (fail))
                  refine wpQuiet_nil ?_; intro wq hq; replace hq := below_of_bw hq; obtain ⟨qc, qf, qz⟩ := bcell hq
                  go_wp2_with fail
                  exact ⟨⟨k + 1, hkl, by rw [Int.natCast_succ], n3.out hx, tkB_ab BC.out hq⟩, by (simp [intOf]) <;> omega⟩
                · have ht : ((fdAt fs k).s.toList == (fdAt fs j).s.toList) = true := by rw [← beq_toListBytes]; exact hx
                  go_wp2_with fail
                  refine region_bw (by kernel_rfl) (by kernel_rfl) ?_
                  repeat (go_big_quiet_step (fail))
                  refine wpQuiet_nil ?_; intro wq hq; replace hq := below_of_bw hq; obtain ⟨qc, qf, qz⟩ := bcell hq
                  go_wp2_with fail
                  go_ret
                  exact ⟨retB (n2.out hx), BC.out.2.trans (hq.mono BC.out.2.size)⟩
              · have e : k = j := by omega
                subst e
                have hd : decide ((k : Int) < (k : Int)) = false := by simp
                clear hB
                go_wp2
                exact ⟨⟨k + 1, hjl, by rw [Int.natCast_succ], NX.out S.out, by rw [← TX.out, ← TY.out]; exact BC.out⟩, by (simp [intOf]) <;> omega⟩
      · have e : j = fs.length := by omega
        subst e
        have hd : decide ((fs.length : Int) < (fs.length : Int)) = false := by simp
        clear hB
        go_wp2
        go_ret
        exact ⟨retB (schOk_yes HL.out S.out), BB.out.2⟩
  · have hg : decide ((12 : Int) < (fs.length : Int)) = true := by simp; omega
    go_enter Tryd.func46, Tryd.ntmps46
    go_wp2
    go_ret
    exact ⟨retB (schOk_long hl), Below.refl _ _⟩
end Go.Proofs.YtllhglakihfjmaaDoor
