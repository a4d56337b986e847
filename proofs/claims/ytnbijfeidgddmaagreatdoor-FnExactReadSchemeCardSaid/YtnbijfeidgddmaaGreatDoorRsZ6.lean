/- Several texts in one, as a claim has at most 60 files: RsM Clear Sch SchI SxI RsN RsI. -/
import Derived.Test.YtnbijfeidgddmaaGreatDoorRfIC
import Derived.Test.YtnbijfeidgddmaaGreatDoorRsZ1
import Derived.Test.YtnbijfeidgddmaaGreatDoorRsZ2
import Derived.Test.YtnbijfeidgddmaaGreatDoorPartNC
import Derived.Test.YtnbijfeidgddmaaGreatDoorRsZ0
import Derived.Deep.DeepCutAuto
import Derived.Test.YtnbijfeidgddmaaGreatDoorRsZ3
import Derived.Test.YtnbijfeidgddmaaGreatDoorVFiC
import Derived.RangeFuncBox
namespace Go.Proofs.YtnbijfeidgddmaaGreatDoor
open Go.ChangeShapes Go.WideShapes Go.ChangeAt Go.RowKit

def rdF (g : ByteArray → Option Fd) : List ByteArray → Option (List Fd)
  | [] => some []
  | t :: r => match g t with
    | none => none
    | some c => match rdF g r with
      | none => none
      | some ds => some (c :: ds)
theorem rdF_snoc {g : ByteArray → Option Fd} : ∀ {ts : List ByteArray} {ds : List Fd} {x : ByteArray} {c : Fd}, rdF g ts = some ds → g x = some c → rdF g (ts ++ [x]) = some (ds ++ [c])
  | [], ds, x, c, h, hx => by
    rw [rdF] at h
    rw [← Option.some.inj h]
    show rdF g [x] = _
    rw [rdF, hx]; rfl
  | t :: r, ds, x, c, h, hx => by
    rw [rdF] at h
    cases ht : g t with
    | none => rw [ht] at h; cases h
    | some c' =>
      rw [ht] at h
      cases hr : rdF g r with
      | none => rw [hr] at h; cases h
      | some ds' =>
        rw [hr] at h
        have h := Option.some.inj h
        rw [List.cons_append, rdF, ht]
        simp only [rdF_snoc hr hx]
        rw [← h]; rfl
theorem rdF_bad {g : ByteArray → Option Fd} : ∀ {ts : List ByteArray} {x : ByteArray}, g x = none → ∀ r, rdF g (ts ++ x :: r) = none
  | [], x, hx, r => by
    show rdF g (x :: r) = none
    rw [rdF, hx]
  | t :: ts, x, hx, r => by
    rw [List.cons_append, rdF, rdF_bad hx r]
    cases g t <;> rfl
theorem rdF_none_app {g : ByteArray → Option Fd} : ∀ {ts : List ByteArray}, rdF g ts = none → ∀ r, rdF g (ts ++ r) = none
  | [], h, _ => by rw [rdF] at h; cases h
  | t :: ts, h, r => by
    rw [rdF] at h
    rw [List.cons_append, rdF]
    cases ht : g t with
    | none => rfl
    | some c =>
      rw [ht] at h
      cases hr : rdF g ts with
      | none => simp only [rdF_none_app hr r]
      | some ds => rw [hr] at h; cases h
theorem rdF_len {g : ByteArray → Option Fd} : ∀ {ts : List ByteArray} {ds : List Fd}, rdF g ts = some ds → ds.length = ts.length
  | [], ds, h => by rw [rdF] at h; rw [← Option.some.inj h]; rfl
  | t :: r, ds, h => by
    rw [rdF] at h
    cases ht : g t with
    | none => rw [ht] at h; cases h
    | some c =>
      rw [ht] at h
      cases hr : rdF g r with
      | none => rw [hr] at h; cases h
      | some ds' => rw [hr] at h; rw [← Option.some.inj h, List.length_cons, List.length_cons, rdF_len hr]
theorem rdF_at {g : ByteArray → Option Fd} : ∀ {ts : List ByteArray} {ds : List Fd}, rdF g ts = some ds → ∀ i, i < ds.length → g (ts.getD i ByteArray.empty) = some (fdAt ds i)
  | [], ds, h, i, hi => by rw [rdF] at h; rw [← Option.some.inj h] at hi; exact absurd hi (Nat.not_lt_zero _)
  | t :: r, ds, h, i, hi => by
    rw [rdF] at h
    cases ht : g t with
    | none => rw [ht] at h; cases h
    | some c =>
      rw [ht] at h
      cases hr : rdF g r with
      | none => rw [hr] at h; cases h
      | some ds' =>
        rw [hr] at h
        have h := Option.some.inj h
        subst h
        cases i with
        | zero => exact ht
        | succ i => exact rdF_at hr i (by simpa using hi)
theorem i16_wrapI (x : Int) : I16 (IntKind.i16.wrap x) := by
  unfold I16 IntKind.wrap
  simp [IntKind.bits, IntKind.signed]
  omega
theorem rfI_fits {line : ByteArray} {f : Fd} (hs : line.size ≤ 1048576) (h : rfI line = some f) : f.fits := by
  have hfit := pieces_fit 32 line
  unfold rfI at h
  split at h
  · rename_i s kw a b hp
    rw [hp] at hfit
    have h1 := hfit s (by simp)
    unfold rfW at h
    split at h
    · rename_i k x y hk hx hy
      have h := Option.some.inj h
      subst h
      have hk2 := (kdO_inv hk).1
      exact ⟨by show s.size ≤ maxLen; unfold maxLen; omega, by show I8 k; unfold I8; omega, i16_wrapI _, i16_wrapI _⟩
    · cases h
  · cases h
theorem rdF_fits {ts : List ByteArray} {ds : List Fd} (hz : ∀ t ∈ ts, t.size ≤ 1048576) (h : rdF rfI ts = some ds) (i : Nat) (hi : i < ds.length) : (fdAt ds i).fits := by
  have hl := rdF_len h
  have hi2 : i < ts.length := by omega
  refine rfI_fits (hz (ts.getD i ByteArray.empty) ?_) (rdF_at h i hi)
  simp [List.getD, hi2]
end Go.Proofs.YtnbijfeidgddmaaGreatDoor

namespace Go.Proofs.YtnbijfeidgddmaaGreatDoor
open Go.ChangeShapes Go.WideShapes Go.ChangeAt Go.RowKit

/-- The two numbers of the mask of a field's holes. -/
def pt0 (k st sz : Int) : Int := mp0 st (widthZ k sz)
def pt1 (k st sz : Int) : Int := mp1 st (widthZ k sz)
theorem width_ok {s : ByteArray} {k st sz : Int} (h : fieldOk s k st sz = true) : (k = 0 ∨ k = 1 ∨ k = 2 ∨ k = 3) ∧ 0 ≤ st ∧ 1 ≤ sz ∧ sz ≤ 24 ∧ 1 ≤ widthZ k sz ∧ widthZ k sz ≤ 24 ∧ st + widthZ k sz ≤ 96 := by
  obtain ⟨_, k0, k3, t0, z0, zm, tw⟩ := field_inv h
  have hk : k = 0 ∨ k = 1 ∨ k = 2 ∨ k = 3 := by omega
  refine ⟨hk, t0, z0, ?_⟩
  rcases hk with rfl | rfl | rfl | rfl <;> simp [widthZ, mostZ] at * <;> omega

theorem iPartOk (s : ByteArray) (k st sz : Int) (h : fieldOk s k st sz = true) (w : World) :
    Calls Tryz.prog 43 #[.agg #[.string s, .int .i8 k, .int .i16 st, .int .i16 sz]] w fun e w' => e = .returned (.agg #[.int .u64 (pt0 k st sz), .int .u64 (pt1 k st sz)]) ∧ Below w.heap.size w w' := by
  obtain ⟨hk, t0, z0, zb, _, nb, tw⟩ := width_ok h
  clear h
  unfold pt0 pt1
  rcases hk with rfl | rfl | rfl | rfl
  · rw [widthZ_0] at *; exact iPartK_0 s st sz t0 z0 zb nb tw w
  · rw [widthZ_1] at *; exact iPartK_1 s st sz t0 z0 zb nb tw w
  · rw [widthZ_2] at *; exact iPartK_2 s st sz t0 z0 zb nb tw w
  · rw [widthZ_3] at *; exact iPartK_3 s st sz t0 z0 zb nb tw w

theorem pa_pt (k st sz : Int) (n : Nat) (hn : (n : Int) = widthZ k sz) (t0 : 0 ≤ st) (h1 : 1 ≤ widthZ k sz) (tw : st + widthZ k sz ≤ 96) : pa b0 st n = pt0 k st sz ∧ pa b1 st n = pt1 k st sz := by
  have h := part_is st n t0 (by omega) (by omega)
  rw [pa_ma, pa_ma, h.1, h.2, hn]
  exact ⟨rfl, rfl⟩

theorem sPartOk (s : ByteArray) (k st sz : Int) (h : fieldOk s k st sz = true) (g o : Nat) (w : World) (h1 : w.cell? ⟨g, o + 1, none⟩ = some (.int .i8 k)) (h2 : w.cell? ⟨g, o + 2, none⟩ = some (.int .i16 st)) (h3 : w.cell? ⟨g, o + 3, none⟩ = some (.int .i16 sz)) :
    Calls Tryz.prog 32 #[.pointer (some ⟨g, o, none⟩)] w fun e w' => e = .returned (.agg #[.int .u64 (pt0 k st sz), .int .u64 (pt1 k st sz)]) ∧ Below w.heap.size w w' := by
  obtain ⟨hk, t0, z0, zb, n1, _, tw⟩ := width_ok h
  clear h
  obtain ⟨n, hn⟩ := Int.eq_ofNat_of_zero_le (show 0 ≤ widthZ k sz by omega)
  have e := pa_pt k st sz n hn.symm t0 n1 tw
  rw [← e.1, ← e.2]
  have tn : st + (n : Int) ≤ 96 := by omega
  clear e n1 tw
  rcases hk with rfl | rfl | rfl | rfl
  · exact sPart_0 st sz n (hn.symm.trans (widthZ_0 sz)) t0 z0 zb tn g o w h1 h2 h3
  · exact sPart_1 st sz n (hn.symm.trans (widthZ_1 sz)) t0 z0 zb tn g o w h1 h2 h3
  · exact sPart_2 st sz n (hn.symm.trans (widthZ_2 sz)) t0 z0 zb tn g o w h1 h2 h3
  · exact sPart_3 st sz n (hn.symm.trans (widthZ_3 sz)) t0 z0 zb tn g o w h1 h2 h3

theorem block_three (w : World) (o p q : Obj) : (((w.alloc o).alloc p).alloc q).heap[w.heap.size]? = some o ∧ (((w.alloc o).alloc p).alloc q).heap[w.heap.size + 1]? = some p ∧ (((w.alloc o).alloc p).alloc q).heap[w.heap.size + 2]? = some q := by
  show (((w.heap.push o).push p).push q)[w.heap.size]? = some o ∧ (((w.heap.push o).push p).push q)[w.heap.size + 1]? = some p ∧ (((w.heap.push o).push p).push q)[w.heap.size + 2]? = some q
  refine ⟨?_, ?_, ?_⟩
  · rw [Array.getElem?_push, if_neg (by simp; omega), Array.getElem?_push, if_neg (by simp)]; simp
  · rw [Array.getElem?_push, if_neg (by simp), Array.getElem?_push, if_pos (by simp)]
  · rw [Array.getElem?_push, if_pos (by simp)]

def clR (s : ByteArray) (a b k st sz : Int) (ok : Bool) : Value := .tuple #[.agg #[.string (if ok then s else ByteArray.empty), .int .u64 (if ok then bits .andNot .u64 a (pt0 k st sz) else 0), .int .u64 (if ok then bits .andNot .u64 b (pt1 k st sz) else 0)], .int .i64 (if ok then 0 else 1)]
theorem clR_parts (s : ByteArray) (a b k st sz : Int) (ok : Bool) : ∃ (r : ByteArray) (x y c : Int), clR s a b k st sz ok = .tuple #[.agg #[.string r, .int .u64 x, .int .u64 y], .int .i64 c] := ⟨_, _, _, _, rfl⟩
theorem clR_no (s : ByteArray) (a b k st sz : Int) : .tuple #[.agg #[.string ByteArray.empty, .int .u64 0, .int .u64 0], .int .i64 1] = clR s a b k st sz false := rfl
theorem clR_yes (s : ByteArray) (a b k st sz : Int) : .tuple #[.agg #[.string s, .int .u64 (bits .andNot .u64 a (pt0 k st sz)), .int .u64 (bits .andNot .u64 b (pt1 k st sz))], .int .i64 0] = clR s a b k st sz true := rfl
theorem endRet {x y : Value} (h : x = y) : Ending.returned x = Ending.returned y := by rw [h]


end Go.Proofs.YtnbijfeidgddmaaGreatDoor

namespace Go.Proofs.YtnbijfeidgddmaaGreatDoor
open Go.ChangeShapes Go.WideShapes Go.ChangeAt Go.RowKit

def fNames (fs : List Fd) (i : Nat) : List ByteArray := (List.range i).map fun j => (fdAt fs j).s
def fOk (fs : List Fd) (i : Nat) : Bool := fieldOk (fdAt fs i).s (fdAt fs i).k (fdAt fs i).t (fdAt fs i).z
def fp0 (fs : List Fd) (i : Nat) : Int := pt0 (fdAt fs i).k (fdAt fs i).t (fdAt fs i).z
def fp1 (fs : List Fd) (i : Nat) : Int := pt1 (fdAt fs i).k (fdAt fs i).t (fdAt fs i).z
/-- The holes of the first fields. -/
def tk0 (fs : List Fd) : Nat → Int
  | 0 => 0
  | i + 1 => bits .or .u64 (tk0 fs i) (fp0 fs i)
def tk1 (fs : List Fd) : Nat → Int
  | 0 => 0
  | i + 1 => bits .or .u64 (tk1 fs i) (fp1 fs i)
def fFree (fs : List Fd) (i : Nat) : Bool := bits .and .u64 (tk0 fs i) (fp0 fs i) == 0 && bits .and .u64 (tk1 fs i) (fp1 fs i) == 0
def schTo (fs : List Fd) : Nat → Bool
  | 0 => true
  | i + 1 => schTo fs i && (fOk fs i && (!hasN (fNames fs i) (fdAt fs i).s && fFree fs i))
def schOk (fs : List Fd) : Bool := decide (fs.length ≤ 12) && schTo fs fs.length
theorem fNames_next (fs : List Fd) (i : Nat) : fNames fs (i + 1) = fNames fs i ++ [(fdAt fs i).s] := by unfold fNames; rw [List.range_succ, List.map_append]; rfl
theorem fNames_len (fs : List Fd) (i : Nat) : (fNames fs i).length = i := by unfold fNames; simp
theorem fHas_next (fs : List Fd) (k : Nat) (s : ByteArray) : hasN (fNames fs (k + 1)) s = (hasN (fNames fs k) s || ((fdAt fs k).s == s)) := by
  rw [fNames_next, bytes_beq]; unfold hasN; simp
theorem fHas_mono {fs : List Fd} {k : Nat} {s : ByteArray} (h : ((fdAt fs k).s == s) = true) : ∀ n, k < n → hasN (fNames fs n) s = true
  | 0, hk => absurd hk (Nat.not_lt_zero _)
  | n + 1, hk => by
    rw [fHas_next]
    by_cases e : k = n
    · subst e; rw [h, Bool.or_true]
    · rw [fHas_mono h n (by omega)]; rfl
theorem schTo_no {fs : List Fd} {i : Nat} (h : schTo fs (i + 1) = false) : ∀ n, i < n → schTo fs n = false
  | 0, hk => absurd hk (Nat.not_lt_zero _)
  | n + 1, hk => by
    by_cases e : i = n
    · subst e; exact h
    · unfold schTo; rw [schTo_no h n (by omega)]; rfl
theorem schOk_long {fs : List Fd} (h : ¬ fs.length ≤ 12) : schOk fs = false := by unfold schOk; simp [h]
theorem schOk_no {fs : List Fd} {i : Nat} (hi : i < fs.length) (h : schTo fs (i + 1) = false) : schOk fs = false := by unfold schOk; rw [schTo_no h _ hi, Bool.and_false]
theorem schOk_yes {fs : List Fd} (h : fs.length ≤ 12) (h1 : schTo fs fs.length = true) : schOk fs = true := by unfold schOk; rw [h1, decide_eq_true h]; rfl
theorem schTo_field {fs : List Fd} {i : Nat} (h : fOk fs i = false) : schTo fs (i + 1) = false := by unfold schTo; rw [h]; simp
theorem schTo_name {fs : List Fd} {i : Nat} (h : hasN (fNames fs i) (fdAt fs i).s = true) : schTo fs (i + 1) = false := by unfold schTo; rw [h]; simp
theorem schTo_hole {fs : List Fd} {i : Nat} (h : fFree fs i = false) : schTo fs (i + 1) = false := by unfold schTo; rw [h]; simp
theorem schTo_yes {fs : List Fd} {i : Nat} (h0 : schTo fs i = true) (h1 : fOk fs i = true) (h2 : hasN (fNames fs i) (fdAt fs i).s = false) (h3 : fFree fs i = true) : schTo fs (i + 1) = true := by unfold schTo; rw [h0, h1, h2, h3]; rfl
theorem schOk_12 {fs : List Fd} (h : schOk fs = true) : fs.length ≤ 12 := by
  unfold schOk at h
  simp only [Bool.and_eq_true, decide_eq_true_eq] at h
  exact h.1
theorem schTo_all {fs : List Fd} : ∀ n, schTo fs n = true → ∀ i, i < n → fOk fs i = true
  | 0, _, i, hi => absurd hi (Nat.not_lt_zero _)
  | n + 1, h, i, hi => by
    unfold schTo at h
    simp only [Bool.and_eq_true] at h
    by_cases e : i = n
    · subst e; exact h.2.1
    · exact schTo_all n h.1 i (by omega)
theorem schOk_all {fs : List Fd} (h : schOk fs = true) : ∀ i, i < fs.length → fOk fs i = true := by
  unfold schOk at h
  simp only [Bool.and_eq_true] at h
  exact schTo_all _ h.2
/-- The box of the holes that are taken. -/
def TkB (w wr : World) (x y : Int) : Prop := wr.heap[w.heap.size]? = some (.cells #[.int .u64 x, .int .u64 y] 51 (0, 0)) ∧ Below w.heap.size w wr
theorem tkB_start (w : World) : TkB w (w.alloc (.cells #[.int .u64 0, .int .u64 0] 51)) 0 0 := ⟨block_alloc _ _, below_new (Below.refl _ _) _⟩
theorem tkB_ab {w W W' : World} {x y : Int} (h : TkB w W x y) (hb : Ab W W') : TkB w W' x y := ⟨hb.block h.1, h.2.trans (Below.mono hb h.2.size)⟩
theorem tkB_set {w W : World} {x y : Int} (h : TkB w W x y) (u v : Int) : TkB w ((W.setCell ⟨w.heap.size, 0, none⟩ (.int .u64 u)).setCell ⟨w.heap.size, 1, none⟩ (.int .u64 v)) u v := by
  have h1 := block_setCell (j := 0) (.int .u64 u) h.1
  have h2 := block_setCell (j := 1) (.int .u64 v) h1
  exact ⟨h2, (h.2.setCell (Nat.le_refl _) _).setCell (Nat.le_refl _) _⟩

set_option maxHeartbeats 3200000 in
theorem sSch_any (ad : Option Addr) (fs : List Fd) (c : Nat) (w : World) (hc : FieldsIn w ad fs) :
    Calls Tryz.prog 17 #[.slice ad fs.length c] w fun e w' => e = .returned (.bool (schOk fs)) ∧ Below w.heap.size w w' := by
  have C := Lib.hid hc
  have hbw := cell_bw
  have he := eq_mask
  clear hc
  by_cases hl : fs.length ≤ 12
  · have HL := Lib.hid hl
    have hg : decide ((12 : Int) < (fs.length : Int)) = false := by simp; omega
    have TS := Lib.hid (tkB_start w)
    have TZ := Lib.hid (tkB_set (tkB_start w) 0 0)
    go_enter Tryz.func17, Tryz.ntmps17
    go_wp2
    go_loopw [4] (fun i wr => ∃ j : Nat, j ≤ fs.length ∧ i = .int .i64 j ∧ schTo fs j = true ∧ TkB w wr (tk0 fs j) (tk1 fs j)) (fun i _ => fs.length - (intOf i).toNat)
    case atStart => exact ⟨0, Nat.zero_le _, rfl, rfl, by first | exact TS.out | exact TZ.out⟩
    case round =>
      obtain ⟨j, hj, rfl, hs, hB⟩ := hrel
      have BB := Lib.hid hB
      have S := Lib.hid hs
      clear hs hg TS TZ
      by_cases hjl : j < fs.length
      · have hd : decide ((j : Int) < (fs.length : Int)) = true := by simpa using hjl
        obtain ⟨⟨f1, f2, f3, f4⟩, b1, o1, rfl, hb1, p0, p1, p2, p3⟩ := C.out j hjl
        have d0 := (hB.2.cell (p := ⟨b1, o1 + j * 4, none⟩) hb1).trans p0
        have d1 := (hB.2.cell (p := ⟨b1, o1 + j * 4 + 1, none⟩) hb1).trans p1
        have d2 := (hB.2.cell (p := ⟨b1, o1 + j * 4 + 2, none⟩) hb1).trans p2
        have d3 := (hB.2.cell (p := ⟨b1, o1 + j * 4 + 3, none⟩) hb1).trans p3
        have y1 : b1 < wr.heap.size := Nat.lt_of_lt_of_le hb1 hB.2.size
        have i1 : (0 : Int) ≤ (j : Int) := by omega
        have i2 : (j : Int) < (fs.length : Int) := by omega
        have no1 : Hid (fOk fs j = false → schOk fs = false) := Lib.hid fun h => schOk_no hjl (schTo_field h)
        have no2 : Hid (hasN (fNames fs j) (fdAt fs j).s = true → schOk fs = false) := Lib.hid fun h => schOk_no hjl (schTo_name h)
        have no3 : Hid (fFree fs j = false → schOk fs = false) := Lib.hid fun h => schOk_no hjl (schTo_hole h)
        have nx : Hid (fOk fs j = true → fFree fs j = true → hasN (fNames fs j) (fdAt fs j).s = false → schTo fs (j + 1) = true) := Lib.hid fun h1 h3 h2 => schTo_yes S.out h1 h2 h3
        have V := Lib.hid fun W c0 c1 c2 c3 => sVF_any (fdAt fs j).s (fdAt fs j).k (fdAt fs j).t (fdAt fs j).z f1 f3 f4 b1 (o1 + j * 4) W c0 c1 c2 c3
        have V : Hid (∀ W : World, W.cell? ⟨b1, o1 + j * 4, none⟩ = some (.string (fdAt fs j).s) → W.cell? ⟨b1, o1 + j * 4 + 1, none⟩ = some (.int .i8 (fdAt fs j).k) → W.cell? ⟨b1, o1 + j * 4 + 2, none⟩ = some (.int .i16 (fdAt fs j).t) → W.cell? ⟨b1, o1 + j * 4 + 3, none⟩ = some (.int .i16 (fdAt fs j).z) → Calls Tryz.prog 31 #[.pointer (some ⟨b1, o1 + j * 4, none⟩)] W fun e w' => e = .returned (.bool (fOk fs j)) ∧ Below W.heap.size W w') := V
        have P : Hid (fOk fs j = true → ∀ W : World, W.cell? ⟨b1, o1 + j * 4 + 1, none⟩ = some (.int .i8 (fdAt fs j).k) → W.cell? ⟨b1, o1 + j * 4 + 2, none⟩ = some (.int .i16 (fdAt fs j).t) → W.cell? ⟨b1, o1 + j * 4 + 3, none⟩ = some (.int .i16 (fdAt fs j).z) → Calls Tryz.prog 32 #[.pointer (some ⟨b1, o1 + j * 4, none⟩)] W fun e w' => e = .returned (.agg #[.int .u64 (fp0 fs j), .int .u64 (fp1 fs j)]) ∧ Below W.heap.size W w') := Lib.hid fun h W c1 c2 c3 => sPartOk (fdAt fs j).s _ _ _ h b1 (o1 + j * 4) W c1 c2 c3
        have P0 := Lib.hid p0
        clear hB p0 p1 p2 p3 S f1 f2 f3 f4
        cases hz : fOk fs j
        · rw [hz] at V
          clear P no2 no3 nx
          go_wp2_with (go_at_call 31; refine (V.out _ d0 d1 d2 d3).mono ?_; rintro e w1 ⟨rfl, hB1⟩; have B1 := Lib.hid (tkB_ab BB.out hB1); have e0 := (hB1.cell (p := ⟨b1, o1 + j * 4, none⟩) y1).trans d0; have e1 := (hB1.cell (p := ⟨b1, o1 + j * 4 + 1, none⟩) y1).trans d1; have e2 := (hB1.cell (p := ⟨b1, o1 + j * 4 + 2, none⟩) y1).trans d2; have e3 := (hB1.cell (p := ⟨b1, o1 + j * 4 + 3, none⟩) y1).trans d3; have y2 : b1 < w1.heap.size := Nat.lt_of_lt_of_le y1 hB1.size; clear hB1)
          go_ret
          exact ⟨retB (no1.out hz), B1.out.2⟩
        · rw [hz] at V
          have PT := Lib.hid (P.out hz)
          have NX := Lib.hid (nx.out hz)
          clear P nx no1 hz
          cases hq : fFree fs j
          · have nf := Lib.hid (no3.out hq)
            have hm : (bits .and .u64 (tk0 fs j) (fp0 fs j) == 0 && bits .and .u64 (tk1 fs j) (fp1 fs j) == 0) = false := hq
            clear no2 no3 NX hq
            generalize tk0 fs j = x at *
            generalize tk1 fs j = y at *
            generalize hPX : fp0 fs j = PX at *
            generalize hPY : fp1 fs j = PY at *
            go_wp2_with (first
              | (go_at_call 31; refine (V.out _ d0 d1 d2 d3).mono ?_; rintro e w1 ⟨rfl, hB1⟩; have B1 := Lib.hid (tkB_ab BB.out hB1); have e0 := (hB1.cell (p := ⟨b1, o1 + j * 4, none⟩) y1).trans d0; have e1 := (hB1.cell (p := ⟨b1, o1 + j * 4 + 1, none⟩) y1).trans d1; have e2 := (hB1.cell (p := ⟨b1, o1 + j * 4 + 2, none⟩) y1).trans d2; have e3 := (hB1.cell (p := ⟨b1, o1 + j * 4 + 3, none⟩) y1).trans d3; have y2 : b1 < w1.heap.size := Nat.lt_of_lt_of_le y1 hB1.size; clear hB1)
              | (go_at_call 32; refine (PT.out _ e1 e2 e3).mono ?_; rintro e w2 ⟨rfl, hB2⟩; have B2 := Lib.hid (tkB_ab B1.out hB2); have c0 := cell_of_block B2.out.1; have z0 := lt_of_block B2.out.1; have h0 := (hB2.cell (p := ⟨b1, o1 + j * 4, none⟩) y2).trans e0; have y3 : b1 < w2.heap.size := Nat.lt_of_lt_of_le y2 hB2.size; clear hB2 e0 e1 e2 e3)
              | (go_at_call 33; refine (sMeet_below _ _ _ _ _).mono ?_; rintro e w3 ⟨rfl, hB3⟩; have A3 : Ab w2 w3 := ((below_new (Below.refl w2.heap.size w2) _).trans (Below.mono hB3 (by simp))); have B3 := Lib.hid (tkB_ab B2.out A3); have q0 : w3.cell? ⟨w2.heap.size, 0, none⟩ = some (.int .u64 PX) := (hB3.cell (by simp)).trans (by simp); have q1 : w3.cell? ⟨w2.heap.size, 1, none⟩ = some (.int .u64 PY) := (hB3.cell (by simp)).trans (by simp); have zo : w2.heap.size < w3.heap.size := Nat.lt_of_lt_of_le (by simp) hB3.size; have k0 := (A3.cell (p := ⟨b1, o1 + j * 4, none⟩) y3).trans h0; have y4 : b1 < w3.heap.size := Nat.lt_of_lt_of_le y3 A3.size; clear c0 z0 hB3 h0; have c0 := cell_of_block B3.out.1; have g0 := free_of_block B3.out.1; have z0 := lt_of_block B3.out.1))
            go_ret
            exact ⟨retB nf.out, B3.out.2⟩
          · have NX := Lib.hid (NX.out hq)
            have hm : (bits .and .u64 (tk0 fs j) (fp0 fs j) == 0 && bits .and .u64 (tk1 fs j) (fp1 fs j) == 0) = true := hq
            have tx : bits .or .u64 (tk0 fs j) (fp0 fs j) = tk0 fs (j + 1) := rfl
            have ty : bits .or .u64 (tk1 fs j) (fp1 fs j) = tk1 fs (j + 1) := rfl
            have TX := Lib.hid tx
            have TY := Lib.hid ty
            clear no3 hq tx ty
            generalize tk0 fs j = x at *
            generalize tk1 fs j = y at *
            generalize hPX : fp0 fs j = PX at *
            generalize hPY : fp1 fs j = PY at *
            go_wp2_with (first
              | (go_at_call 31; refine (V.out _ d0 d1 d2 d3).mono ?_; rintro e w1 ⟨rfl, hB1⟩; have B1 := Lib.hid (tkB_ab BB.out hB1); have e0 := (hB1.cell (p := ⟨b1, o1 + j * 4, none⟩) y1).trans d0; have e1 := (hB1.cell (p := ⟨b1, o1 + j * 4 + 1, none⟩) y1).trans d1; have e2 := (hB1.cell (p := ⟨b1, o1 + j * 4 + 2, none⟩) y1).trans d2; have e3 := (hB1.cell (p := ⟨b1, o1 + j * 4 + 3, none⟩) y1).trans d3; have y2 : b1 < w1.heap.size := Nat.lt_of_lt_of_le y1 hB1.size; clear hB1)
              | (go_at_call 32; refine (PT.out _ e1 e2 e3).mono ?_; rintro e w2 ⟨rfl, hB2⟩; have B2 := Lib.hid (tkB_ab B1.out hB2); have c0 := cell_of_block B2.out.1; have z0 := lt_of_block B2.out.1; have h0 := (hB2.cell (p := ⟨b1, o1 + j * 4, none⟩) y2).trans e0; have y3 : b1 < w2.heap.size := Nat.lt_of_lt_of_le y2 hB2.size; clear hB2 e0 e1 e2 e3)
              | (go_at_call 33; refine (sMeet_below _ _ _ _ _).mono ?_; rintro e w3 ⟨rfl, hB3⟩; have A3 : Ab w2 w3 := ((below_new (Below.refl w2.heap.size w2) _).trans (Below.mono hB3 (by simp))); have B3 := Lib.hid (tkB_ab B2.out A3); have q0 : w3.cell? ⟨w2.heap.size, 0, none⟩ = some (.int .u64 PX) := (hB3.cell (by simp)).trans (by simp); have q1 : w3.cell? ⟨w2.heap.size, 1, none⟩ = some (.int .u64 PY) := (hB3.cell (by simp)).trans (by simp); have zo : w2.heap.size < w3.heap.size := Nat.lt_of_lt_of_le (by simp) hB3.size; have k0 := (A3.cell (p := ⟨b1, o1 + j * 4, none⟩) y3).trans h0; have y4 : b1 < w3.heap.size := Nat.lt_of_lt_of_le y3 A3.size; clear c0 z0 hB3 h0; have c0 := cell_of_block B3.out.1; have g0 := free_of_block B3.out.1; have z0 := lt_of_block B3.out.1)
              | (go_at_call 34; refine (sJoin_below _ _ _ _ _).mono ?_; rintro e w4 ⟨rfl, hB4⟩; have B4 := Lib.hid (tkB_ab B3.out hB4); have k4 := (hB4.cell (p := ⟨b1, o1 + j * 4, none⟩) y4).trans k0; have y5 : b1 < w4.heap.size := Nat.lt_of_lt_of_le y4 hB4.size; clear c0 g0 z0 hB4; have c0 := cell_of_block B4.out.1; have g0 := free_of_block B4.out.1; have z0 := lt_of_block B4.out.1))
            have B5 := Lib.hid (tkB_set B4.out (bits .or .u64 x PX) (bits .or .u64 y PY))
            go_loopw [6] (fun u wr => ∃ k : Nat, k ≤ j ∧ u = .int .i64 k ∧ hasN (fNames fs k) (fdAt fs j).s = false ∧ TkB w wr (bits .or .u64 x PX) (bits .or .u64 y PY)) (fun u _ => j - (intOf u).toNat)
            case atStart => exact ⟨0, Nat.zero_le _, rfl, rfl, B5.out⟩
            case round =>
              obtain ⟨k, hk, rfl, hs, hB⟩ := hrel
              have BC := Lib.hid hB
              have S := Lib.hid hs
              clear hs c0 g0 z0
              by_cases hkl : k < j
              · have hd : decide ((k : Int) < (j : Int)) = true := by simpa using hkl
                obtain ⟨_, b2, o2, he2, hb2, q0, _, _, _⟩ := C.out k (Nat.lt_trans hkl hjl)
                cases he2
                have e0 := (hB.2.cell (p := ⟨b1, o1 + j * 4, none⟩) hb1).trans P0.out
                have e1 := (hB.2.cell (p := ⟨b1, o1 + k * 4, none⟩) hb1).trans q0
                have y6 : b1 < wr.heap.size := Nat.lt_of_lt_of_le hb1 hB.2.size
                have i3 : (0 : Int) ≤ (k : Int) := by omega
                have i4 : (k : Int) < (fs.length : Int) := by omega
                have n2 : Hid (((fdAt fs k).s == (fdAt fs j).s) = true → schOk fs = false) := Lib.hid fun h => no2.out (fHas_mono h j hkl)
                have n3 : Hid (((fdAt fs k).s == (fdAt fs j).s) = false → hasN (fNames fs (k + 1)) (fdAt fs j).s = false) := Lib.hid fun h => by rw [fHas_next, S.out, h]; rfl
                clear hB q0 hb2
                cases hx : ((fdAt fs k).s == (fdAt fs j).s)
                · have ht : ((fdAt fs k).s.toList == (fdAt fs j).s.toList) = false := by rw [← beq_toListBytes]; exact hx
                  go_wp2_with fail
                  refine region_bw (by kernel_rfl) (by kernel_rfl) ?_
                  repeat (go_big_quiet_step (fail))
                  refine wpQuiet_nil ?_; intro wq hq; replace hq := below_of_bw hq; obtain ⟨qc, qf, qz⟩ := bcell hq
                  go_wp2_with fail
                  exact ⟨⟨k + 1, hkl, by rw [Int.natCast_succ], n3.out hx, tkB_ab BC.out hq⟩, by (simp [intOf]) <;> omega⟩
                · have ht : ((fdAt fs k).s.toList == (fdAt fs j).s.toList) = true := by rw [← beq_toListBytes]; exact hx
                  go_wp2_with fail
                  refine region_bw (by kernel_rfl) (by kernel_rfl) ?_
                  repeat (go_big_quiet_step (fail))
                  refine wpQuiet_nil ?_; intro wq hq; replace hq := below_of_bw hq; obtain ⟨qc, qf, qz⟩ := bcell hq
                  go_wp2_with fail
                  go_ret
                  exact ⟨retB (n2.out hx), BC.out.2.trans (hq.mono BC.out.2.size)⟩
              · have e : k = j := by omega
                subst e
                have hd : decide ((k : Int) < (k : Int)) = false := by simp
                clear hB
                go_wp2
                exact ⟨⟨k + 1, hjl, by rw [Int.natCast_succ], NX.out S.out, by rw [← TX.out, ← TY.out]; exact BC.out⟩, by (simp [intOf]) <;> omega⟩
      · have e : j = fs.length := by omega
        subst e
        have hd : decide ((fs.length : Int) < (fs.length : Int)) = false := by simp
        clear hB
        go_wp2
        go_ret
        exact ⟨retB (schOk_yes HL.out S.out), BB.out.2⟩
  · have hg : decide ((12 : Int) < (fs.length : Int)) = true := by simp; omega
    go_enter Tryz.func17, Tryz.ntmps17
    go_wp2
    go_ret
    exact ⟨retB (schOk_long hl), Below.refl _ _⟩
end Go.Proofs.YtnbijfeidgddmaaGreatDoor

namespace Go.Proofs.YtnbijfeidgddmaaGreatDoor
open Go.ChangeShapes Go.WideShapes Go.ChangeAt Go.RowKit

theorem NamesIn.of_block {P : Program} {k e : TypeId} {w w' : World} {b : Nat} {ns : List ByteArray} (h : NamesIn P k e w b ns) (hb : w'.heap[b]? = w.heap[b]?) : NamesIn P k e w' b ns := by
  obtain ⟨D, hown, hm, hat⟩ := h
  refine ⟨D, ?_, hm, hat⟩
  obtain ⟨es, clock, hc, F, hs, hD⟩ := hown
  exact ⟨es, clock, hb.trans hc, F, hs, hD⟩

theorem iMeet_b2 (a b c d : Int) (w : World) : Calls Tryz.prog 42 #[.agg #[.int .u64 a, .int .u64 b], .agg #[.int .u64 c, .int .u64 d]] w fun e w' => e = .returned (.agg #[.int .u64 (bits .and .u64 a c), .int .u64 (bits .and .u64 b d)]) ∧ Below w.heap.size w w' :=
  (iMeet_any a b c d w).mono fun e w' ⟨he, hw⟩ => ⟨he, by subst hw; exact (by repeat' (first | (with_reducible exact Below.refl _ _) | (with_reducible assumption) | (with_reducible refine below_drewN ?_ _) | (with_reducible refine Below.drew ?_) | (with_reducible refine below_new ?_ _) | (with_reducible refine below_next ?_ (by with_reducible assumption)) | (with_reducible refine Below.setCell ?_ ?_ _) | go_size))⟩
/-- The holes taken and the names seen. -/
def ScB (w wr : World) (x y : Int) (ns : List ByteArray) : Prop := TkB w wr x y ∧ NamesIn Tryz.prog 9 4 wr (w.heap.size + 1) ns
theorem scB_ab {w W W' : World} {x y : Int} {ns : List ByteArray} (h : ScB w W x y ns) (hb : Ab W W') : ScB w W' x y ns := ⟨tkB_ab h.1 hb, h.2.below hb⟩
theorem scB_set {w W : World} {x y : Int} {ns : List ByteArray} (h : ScB w W x y ns) (u v : Int) : ScB w ((W.setCell ⟨w.heap.size, 0, none⟩ (.int .u64 u)).setCell ⟨w.heap.size, 1, none⟩ (.int .u64 v)) u v ns :=
  ⟨tkB_set h.1 u v, h.2.of_block (by rw [Below.heap_setCell _ _ _ _ (by show w.heap.size + 1 ≠ w.heap.size; omega), Below.heap_setCell _ _ _ _ (by show w.heap.size + 1 ≠ w.heap.size; omega)])⟩
theorem scB_start (w : World) : ScB w ((w.alloc (.cells #[.int .u64 0, .int .u64 0] 51)).alloc (.map #[] 0)) 0 0 [] := by
  refine ⟨tkB_ab (tkB_start w) (below_new (Below.refl _ _) _), ?_⟩
  have h := namesIn_made Tryz.prog 9 4 (w.alloc (.cells #[.int .u64 0, .int .u64 0] 51))
  simpa using h

set_option maxRecDepth 100000 in
set_option maxHeartbeats 3200000 in
theorem iSch_any (ad : Option Addr) (fs : List Fd) (c : Nat) (w : World) (hc : FieldsIn w ad fs) :
    Calls Tryz.prog 21 #[.slice ad fs.length c] w fun e w' => e = .returned (.bool (schOk fs)) ∧ Below w.heap.size w w' := by
  have C := Lib.hid hc
  have he := eq_mask
  clear hc
  by_cases hl : fs.length ≤ 12
  · have HL := Lib.hid hl
    have hg : decide ((12 : Int) < (fs.length : Int)) = false := by simp; omega
    have hmm := fun n W => run_makeMapN Tryz.underlying73 n W
    have TS := Lib.hid (scB_start w)
    go_enter Tryz.func21, Tryz.ntmps21
    go_wp2
    go_loopw [15] (fun i wr => ∃ j : Nat, j ≤ fs.length ∧ i = .int .i64 j ∧ schTo fs j = true ∧ ScB w wr (tk0 fs j) (tk1 fs j) (fNames fs j)) (fun i _ => fs.length - (intOf i).toNat)
    case atStart => exact ⟨0, Nat.zero_le _, rfl, rfl, TS.out⟩
    case round =>
      obtain ⟨j, hj, rfl, hs, hB⟩ := hrel
      have BB := Lib.hid hB
      have S := Lib.hid hs
      clear hs hg TS hmm
      by_cases hjl : j < fs.length
      · have hd : decide ((j : Int) < (fs.length : Int)) = true := by simpa using hjl
        obtain ⟨⟨f1, f2, f3, f4⟩, b1, o1, rfl, hb1, p0, p1, p2, p3⟩ := C.out j hjl
        have d0 := (hB.1.2.cell (p := ⟨b1, o1 + j * 4, none⟩) hb1).trans p0
        have d1 := (hB.1.2.cell (p := ⟨b1, o1 + j * 4 + 1, none⟩) hb1).trans p1
        have d2 := (hB.1.2.cell (p := ⟨b1, o1 + j * 4 + 2, none⟩) hb1).trans p2
        have d3 := (hB.1.2.cell (p := ⟨b1, o1 + j * 4 + 3, none⟩) hb1).trans p3
        have i1 : (0 : Int) ≤ (j : Int) := by omega
        have i2 : (j : Int) < (fs.length : Int) := by omega
        have no1 : Hid (fOk fs j = false → schOk fs = false) := Lib.hid fun h => schOk_no hjl (schTo_field h)
        have no2 : Hid (hasN (fNames fs j) (fdAt fs j).s = true → schOk fs = false) := Lib.hid fun h => schOk_no hjl (schTo_name h)
        have no3 : Hid (fFree fs j = false → schOk fs = false) := Lib.hid fun h => schOk_no hjl (schTo_hole h)
        have nx : Hid (fOk fs j = true → fFree fs j = true → hasN (fNames fs j) (fdAt fs j).s = false → schTo fs (j + 1) = true) := Lib.hid fun h1 h3 h2 => schTo_yes S.out h1 h2 h3
        have V : Hid (∀ W : World, Calls Tryz.prog 41 #[.agg #[.string (fdAt fs j).s, .int .i8 (fdAt fs j).k, .int .i16 (fdAt fs j).t, .int .i16 (fdAt fs j).z]] W fun e w' => e = .returned (.bool (fOk fs j)) ∧ Below W.heap.size W w') := Lib.hid fun W => iVF_any _ _ _ _ f1 f2 f3 f4 W
        have P : Hid (fOk fs j = true → ∀ W : World, Calls Tryz.prog 43 #[.agg #[.string (fdAt fs j).s, .int .i8 (fdAt fs j).k, .int .i16 (fdAt fs j).t, .int .i16 (fdAt fs j).z]] W fun e w' => e = .returned (.agg #[.int .u64 (fp0 fs j), .int .u64 (fp1 fs j)]) ∧ Below W.heap.size W w') := Lib.hid fun h W => iPartOk _ _ _ _ h W
        have F := Lib.hid f1
        have J := Lib.hid (show (fNames fs j).length < maxLen by rw [fNames_len]; unfold maxLen; omega)
        have FN := Lib.hid (fNames_next fs j)
        have TX := Lib.hid (show bits .or .u64 (tk0 fs j) (fp0 fs j) = tk0 fs (j + 1) from rfl)
        have TY := Lib.hid (show bits .or .u64 (tk1 fs j) (fp1 fs j) = tk1 fs (j + 1) from rfl)
        have FF := Lib.hid (show (bits .and .u64 (tk0 fs j) (fp0 fs j) == 0 && bits .and .u64 (tk1 fs j) (fp1 fs j) == 0) = fFree fs j from rfl)
        clear hB p0 p1 p2 p3 S f1 f2 f3 f4
        generalize fp0 fs j = PX at *
        generalize fp1 fs j = PY at *
        generalize tk0 fs j = x at *
        generalize tk1 fs j = y at *
        generalize fNames fs j = ns at *
        generalize fdAt fs j = fd at *
        obtain ⟨s, k, t, z⟩ := fd
        simp only at d0 d1 d2 d3 no2 nx V P F FN
        go_upto_region 8 with fail
        have HF := Lib.hid (block_alloc wr (.cells #[.string s, .int .i8 k, .int .i16 t, .int .i16 z] 38))
        have hA : Ab wr (wr.alloc (.cells #[.string s, .int .i8 k, .int .i16 t, .int .i16 z] 38)) := below_new (Below.refl _ _) _
        have B1 := Lib.hid (scB_ab BB.out hA)
        have gne : wr.heap.size ≠ w.heap.size + 1 := by
          have := BB.out.2
          obtain ⟨D, ⟨es, clock, hc9, _⟩, _⟩ := this
          have := (Array.getElem?_eq_some_iff.1 hc9).1
          omega
        clear d0 d1 d2 d3 hA
        generalize wr.alloc (.cells #[.string s, .int .i8 k, .int .i16 t, .int .i16 z] 38) = V1 at *
        generalize wr.heap.size = g at *
        have L : ∀ p : Regrown, (Instr.lookup 73 (.map (some (w.heap.size + 1))) (.string s) false).run Tryz.prog (bw V1 p) = .ok (.bool (hasN ns s)) (bw V1 p) := fun p => (B1.out.2.below (below_bw V1 p)).asked Tryz.underlying73 Tryz.underlying9 Tryz.underlying4 (zero_bool _) s F.out
        have hbw := cell_bw
        have c0 := cell_of_block HF.out
        have z0 := lt_of_block HF.out
        have c1 := cell_of_block B1.out.1.1
        have z1 := lt_of_block B1.out.1.1
        cases hz : fOk fs j
        · rw [hz] at V
          clear P no2 no3 nx L
          refine region_bw (by kernel_rfl) (by kernel_rfl) ?_
          repeat (go_big_quiet_step (first | (go_at_call 41; exact calls_bw (V.out _))))
          refine wpQuiet_nil ?_; intro wq hq; replace hq := below_of_bw hq; obtain ⟨qc, qf, qz⟩ := bcell hq
          go_wp2
          go_ret
          exact ⟨retB (no1.out hz), B1.out.1.2.trans (hq.mono B1.out.1.2.size)⟩
        · rw [hz] at V
          have PT := Lib.hid (P.out hz)
          have NX := Lib.hid (nx.out hz)
          clear P nx no1 hz
          cases hn : hasN ns s
          · rw [hn] at L
            cases hfr : fFree fs j
            · have hm : (bits .and .u64 x PX == 0 && bits .and .u64 y PY == 0) = false := FF.out.trans hfr
              have nf := Lib.hid (no3.out hfr)
              clear no2 no3 NX hfr hn
              refine region_bw (by kernel_rfl) (by kernel_rfl) ?_
              repeat (go_big_quiet_step (first | (go_at_call 41; exact calls_bw (V.out _)) | (go_at_call 43; exact calls_bw (PT.out _)) | (go_at_call 42; exact calls_bw (iMeet_b2 _ _ _ _ _))))
              refine wpQuiet_nil ?_; intro wq hq; replace hq := below_of_bw hq; obtain ⟨qc, qf, qz⟩ := bcell hq
              go_wp2
              go_ret
              exact ⟨retB nf.out, B1.out.1.2.trans (hq.mono B1.out.1.2.size)⟩
            · have hm : (bits .and .u64 x PX == 0 && bits .and .u64 y PY == 0) = true := FF.out.trans hfr
              have NX := Lib.hid (NX.out hfr hn)
              clear no2 no3 hfr hn
              refine region_bw (by kernel_rfl) (by kernel_rfl) ?_
              repeat (go_big_quiet_step (first | (go_at_call 41; exact calls_bw (V.out _)) | (go_at_call 43; exact calls_bw (PT.out _)) | (go_at_call 42; exact calls_bw (iMeet_b2 _ _ _ _ _))))
              refine wpQuiet_nil ?_; intro wq hq; replace hq : Ab V1 wq := below_of_bw hq
              have B2 := Lib.hid (scB_ab B1.out hq)
              have HF2 := Lib.hid (hq.block HF.out)
              clear L c0 z0 c1 z1 hq hm
              have c0 := cell_of_block HF2.out
              have z0 := lt_of_block HF2.out
              obtain ⟨w3, U, N3, hg3⟩ := B2.out.2.added Tryz.underlying73 Tryz.underlying9 Tryz.underlying4 s F.out J.out
              rw [← FN.out] at N3
              have HF3 := Lib.hid ((hg3.block g z0 (by simpa using gne)).trans HF2.out)
              have T3 : TkB w w3 x y := ⟨(hg3.block w.heap.size (lt_of_block B2.out.1.1) (by simp)).trans B2.out.1.1, Below.grown B2.out.1.2 hg3 B2.out.1.2.size (fun k hk => by cases hk; exact Nat.le_add_right _ _)⟩
              have B3 : Hid (ScB w w3 x y _) := Lib.hid ⟨T3, N3⟩
              clear N3 T3 hg3
              go_upto_region 11 with fail
              clear c0 z0
              refine wp_region_last 4 (by kernel_rfl) rfl rfl (by kernel_rfl) (by kernel_rfl) rfl ?_
              simp only [List.take_succ_cons, List.take_zero]
              intro v1 hv1
              have c0 := cell_of_block (hv1.block HF3.out)
              have z0 := lt_of_block (hv1.block HF3.out)
              have c1 := cell_of_block (hv1.block B3.out.1.1)
              have z1 := lt_of_block (hv1.block B3.out.1.1)
              repeat (go_big_quiet_step (first | (go_at_call 43; exact calls_bw (PT.out _)) | (go_at_call 44; exact calls_bw (iJoin_below _ _ _ _ _))))
              refine wpQuiet_nil ?_
              intro v3 hv3
              have B4 := Lib.hid (scB_ab B3.out hv3)
              clear c0 z0 c1 z1 hv1 hv3 hbw
              have c1 := cell_of_block B4.out.1.1
              have g1 := free_of_block B4.out.1.1
              go_simp
              simp only [Yld]
              go_wp2
              exact ⟨⟨j + 1, hjl, by rw [Int.natCast_succ], NX.out, by rw [← TX.out, ← TY.out]; exact scB_set B4.out _ _⟩, by (simp [intOf]) <;> omega⟩
          · rw [hn] at L
            clear no3 NX PT
            refine region_bw (by kernel_rfl) (by kernel_rfl) ?_
            repeat (go_big_quiet_step (first | (go_at_call 41; exact calls_bw (V.out _))))
            refine wpQuiet_nil ?_; intro wq hq; replace hq := below_of_bw hq; obtain ⟨qc, qf, qz⟩ := bcell hq
            go_wp2
            go_ret
            exact ⟨retB (no2.out hn), B1.out.1.2.trans (hq.mono B1.out.1.2.size)⟩
      · have e : j = fs.length := by omega
        subst e
        have hd : decide ((fs.length : Int) < (fs.length : Int)) = false := by simp
        clear hB
        go_wp2
        go_ret
        exact ⟨retB (schOk_yes HL.out S.out), BB.out.1.2⟩
  · have hg : decide ((12 : Int) < (fs.length : Int)) = true := by simp; omega
    go_enter Tryz.func21, Tryz.ntmps21
    go_wp2
    go_ret
    exact ⟨retB (schOk_long hl), Below.refl _ _⟩
end Go.Proofs.YtnbijfeidgddmaaGreatDoor

namespace Go.Proofs.YtnbijfeidgddmaaGreatDoor
open Go.ChangeShapes Go.WideShapes Go.ChangeAt Go.RowKit

set_option maxRecDepth 100000 in
set_option maxHeartbeats 6400000 in
theorem iSxText_any (ad : Option Addr) (fs : List Fd) (c : Nat) (w : World) (hc : FieldsIn w ad fs) (ht : TxIs Tryz.prog w "loop.example/g01261/impl.kindWords" kdWd) :
    Calls Tryz.prog 22 #[.slice ad fs.length c] w fun e w' => e = .returned (.string (if schOk fs = true then fsN fs fs.length else ByteArray.empty)) ∧ Below w.heap.size w w' := by
  obtain ⟨i0, hi, hz0, hz1, hz2⟩ := info_parts info_by
  have V := fun W h => iSch_any ad fs c W h
  have C := Lib.hid hc
  have T0 := Lib.hid ht
  cases hk : schOk fs
  · rw [hk] at V
    replace V := Lib.hid V
    simp only [Bool.false_eq_true, if_false]
    clear hk hc ht hi hz0 hz1 hz2
    go_enter Tryz.func22, Tryz.ntmps22
    go_wp2_with (go_at_call 21; refine (V.out _ C.out).mono ?_; rintro e w1 ⟨rfl, hB⟩; have B1 := Lib.hid hB; clear hB)
    go_returns
    exact ⟨rfl, B1.out⟩
  · rw [hk] at V
    simp only [if_true]
    have OK := Lib.hid (schOk_all hk)
    have SZ := Lib.hid (fsN_size (fs := fs) fun i hi => schOk_all hk i hi)
    have l12 := schOk_12 hk
    have cv0 : ∀ W : World, (convert 76 9 (.slice none 0 0)).run Tryz.prog W = .ok (.string ⟨#[]⟩) W := fun _ => by kernel_rfl
    replace V := Lib.hid V
    clear hk hc ht
    go_enter Tryz.func22, Tryz.ntmps22
    go_wp2_with (go_at_call 21; refine (V.out _ C.out).mono ?_; rintro e w1 ⟨rfl, hB⟩; have B1 := Lib.hid hB; clear hB)
    go_loopw [3, 11] (fun v i wr => ∃ j : Nat, j ≤ fs.length ∧ i = .int .i64 (j : Int) ∧ OwnS w.heap.size (fsN fs j).data.toList v wr ∧ Below w.heap.size w wr) (fun _ i _ => fs.length - (intOf i).toNat)
    case atStart => exact ⟨0, Nat.zero_le _, rfl, .inl ⟨rfl, rfl⟩, B1.out⟩
    case round =>
      obtain ⟨j, hj, rfl, hO, hB⟩ := hrel
      have O5 := Lib.hid hO
      have B5 := Lib.hid hB
      clear hO
      by_cases hjl : j < fs.length
      · have hd : decide ((j : Int) < (fs.length : Int)) = true := by simpa using hjl
        obtain ⟨_, b1, o1, rfl, hb1, p0, p1, p2, p3⟩ := C.out j hjl
        have d0 := (hB.cell (p := ⟨b1, o1 + j * 4, none⟩) hb1).trans p0
        have d1 := (hB.cell (p := ⟨b1, o1 + j * 4 + 1, none⟩) hb1).trans p1
        have d2 := (hB.cell (p := ⟨b1, o1 + j * 4 + 2, none⟩) hb1).trans p2
        have d3 := (hB.cell (p := ⟨b1, o1 + j * 4 + 3, none⟩) hb1).trans p3
        have i1 : (0 : Int) ≤ (j : Int) := by omega
        have i2 : (j : Int) < (fs.length : Int) := by omega
        have ok := OK.out j hjl
        unfold fOk at ok
        obtain ⟨n0, n1, k0, k3, t0, t9, z0, z9⟩ := fd_inv ok
        have sz := SZ.out j hj
        have skw := kwOf_size (fdAt fs j).k
        have NX := fdL_bytes (fsN fs j) (fdAt fs j).s (kwOf (fdAt fs j).k) (dec2 (fdAt fs j).t.toNat) (dec2 (fdAt fs j).z.toNat)
        rw [← fsN_next] at NX
        have KW := Lib.hid fun W h => kw_cell (W := W) h k0 k3
        have sbs : (fsN fs j).data.toList.length = (fsN fs j).size := Array.length_toList
        have sl1 : (fdAt fs j).s.data.toList.length = (fdAt fs j).s.size := Array.length_toList
        have sl2 : (kwOf (fdAt fs j).k).data.toList.length = (kwOf (fdAt fs j).k).size := Array.length_toList
        have sy1 := dec2_le (n := (fdAt fs j).t.toNat) (by omega)
        have sy2 := dec2_le (n := (fdAt fs j).z.toNat) (by omega)
        have sl3 : (dec2 (fdAt fs j).t.toNat).data.toList.length = (dec2 (fdAt fs j).t.toNat).size := Array.length_toList
        have sl4 : (dec2 (fdAt fs j).z.toNat).data.toList.length = (dec2 (fdAt fs j).z.toNat).size := Array.length_toList
        obtain ⟨m, hm⟩ := Int.eq_ofNat_of_zero_le t0
        obtain ⟨n, hn⟩ := Int.eq_ofNat_of_zero_le z0
        rw [hm] at d2 NX sy1 sl3 t9
        rw [hn] at d3 NX sy2 sl4 z9
        rw [Int.toNat_natCast] at NX sy1 sl3
        rw [Int.toNat_natCast] at NX sy2 sl4
        have m95 : m ≤ 95 := by omega
        have n95 : n ≤ 95 := by omega
        have x1 : IntKind.i64.wrap (m : Int) = (m : Int) := IntWalk.i64_in _ (by omega)
        have x2 : IntKind.i64.wrap (n : Int) = (n : Int) := IntWalk.i64_in _ (by omega)
        have NX := Lib.hid NX
        have s5 := B5.out.size
        clear hB p0 p1 p2 p3 ok hm hn t0 t9 z0 z9
        generalize (fsN fs j).data.toList = bs at *
        generalize kwOf (fdAt fs j).k = kw at *
        generalize (fdAt fs j).k = k at *
        generalize (fdAt fs j).s = s at *
        generalize eym : dec2 m = y1 at NX sy1 sl3
        generalize eyn : dec2 n = y2 at NX sy2 sl4
        have O3 := Lib.hid (ownS_kept O5.out (below_new (Below.refl wr.heap.size wr) (.cells #[.string s, .int .i8 k, .int .i16 (m : Int), .int .i16 (n : Int)] 38)))
        have K0 := Lib.hid (boxK_start O5.out (.cells #[.string s, .int .i8 k, .int .i16 (m : Int), .int .i16 (n : Int)] 38))
        have L0 := Lib.hid (below_new B5.out (.cells #[.string s, .int .i8 k, .int .i16 (m : Int), .int .i16 (n : Int)] 38))
        have tok1 : True := trivial
        have tok2 : True := trivial
        have tok3 : True := trivial
        have tok4 : True := trivial
        have tok5 : True := trivial
        have tok6 : True := trivial
        have tok7 : True := trivial
        have tok8 : True := trivial
        go_wp2_with (first
          | (at_builtin; have _t := tok1; clear _t tok1; refine wp_pushS0 _ rfl _ _ 76 9 rfl 5 i0 Tryz.underlying76 Tryz.underlying9 hi hz0 hz1 hz2 w.heap.size bs _ rfl O3.out (by have := L0.out.size; simp; omega) (by (try simp only [List.length_append, List.length_cons, List.length_nil]); omega) s rfl (by omega) (by omega) ?_; intro v1 w1 hG; have G1 := Lib.hid hG; have K1 := Lib.hid (boxK_next K0.out hG); have L1 := Lib.hid (Below.grown L0.out hG.2.1 L0.out.size (fun k hk => (ownS_lt O3.out k hk).1)); clear hG)
          | (at_builtin; have _t := tok2; clear _t tok2; refine wp_pushG _ rfl _ _ 76 rfl 5 i0 Tryz.underlying76 hi hz0 hz1 hz2 w.heap.size (bs ++ s.data.toList) _ rfl (ownG_kept G1.out.1 (below_new (Below.refl w1.heap.size w1) _)) (by have := L1.out.size; simp; omega) (by (try simp only [List.length_append, List.length_cons, List.length_nil]); omega) ⟨w1.heap.size, 0, none⟩ 1 32 rfl (newB _ _) ?_; intro v2 w2 hG; have G2 := Lib.hid hG; have K2 := Lib.hid (boxK_next (boxK_alloc K1.out _) hG); have L2 := Lib.hid (Below.grown (below_new L1.out _) hG.2.1 (by have := L1.out.size; simp; omega) (ownG_lt G1.out.1)); have c1 := cell_of_block K2.out.1 1; have tc := KW.out _ (tx_below T0.out L2.out); clear hG)
          | (at_builtin; have _t := tok3; clear _t tok3; refine wp_pushS _ rfl _ _ 76 9 rfl 5 i0 Tryz.underlying76 Tryz.underlying9 hi hz0 hz1 hz2 w.heap.size ((bs ++ s.data.toList) ++ [32]) _ rfl G2.out.1 L2.out.size (by (try simp only [List.length_append, List.length_cons, List.length_nil]); omega) (by (try simp only [List.length_append, List.length_cons, List.length_nil]); omega) kw rfl (by omega) ?_; intro v3 w3 hG; have G3 := Lib.hid hG; have K3 := Lib.hid (boxK_next K2.out hG); have L3 := Lib.hid (Below.grown L2.out hG.2.1 L2.out.size (ownG_lt G2.out.1)); clear hG)
          | (at_builtin; have _t := tok4; clear _t tok4; refine wp_pushG _ rfl _ _ 76 rfl 5 i0 Tryz.underlying76 hi hz0 hz1 hz2 w.heap.size (((bs ++ s.data.toList) ++ [32]) ++ kw.data.toList) _ rfl (ownG_kept G3.out.1 (below_new (Below.refl w3.heap.size w3) _)) (by have := L3.out.size; simp; omega) (by (try simp only [List.length_append, List.length_cons, List.length_nil]); omega) ⟨w3.heap.size, 0, none⟩ 1 32 rfl (newB _ _) ?_; intro v4 w4 hG; have G4 := Lib.hid hG; have K4 := Lib.hid (boxK_next (boxK_alloc K3.out _) hG); have L4 := Lib.hid (Below.grown (below_new L3.out _) hG.2.1 (by have := L3.out.size; simp; omega) (ownG_lt G3.out.1)); have c2 := cell_of_block K4.out.1 2; clear hG)
          | (go_at_call 45; have _t := tok5; clear _t tok5; refine (appI_any w.heap.size ((((bs ++ s.data.toList) ++ [32]) ++ kw.data.toList) ++ [32]) _ m (by omega) _ G4.out.1 L4.out.size (by (try simp only [List.length_append, List.length_cons, List.length_nil]); omega) (by (try simp only [List.length_append, List.length_cons, List.length_nil]); omega)).mono ?_; rintro e w5 ⟨v5, rfl, hG⟩; have hG : Grn w.heap.size (((((bs ++ s.data.toList) ++ [32]) ++ kw.data.toList) ++ [32]) ++ (dec2 m).data.toList) _ _ _ _ := hG; rw [eym] at hG; have G5 := Lib.hid hG; have K5 := Lib.hid (boxK_next K4.out hG); have L5 := Lib.hid (Below.grown L4.out hG.2.1 L4.out.size (ownG_lt G4.out.1)); clear hG)
          | (at_builtin; have _t := tok6; clear _t tok6; refine wp_pushG _ rfl _ _ 76 rfl 5 i0 Tryz.underlying76 hi hz0 hz1 hz2 w.heap.size (((((bs ++ s.data.toList) ++ [32]) ++ kw.data.toList) ++ [32]) ++ y1.data.toList) _ rfl (ownG_kept G5.out.1 (below_new (Below.refl w5.heap.size w5) _)) (by have := L5.out.size; simp; omega) (by (try simp only [List.length_append, List.length_cons, List.length_nil]); omega) ⟨w5.heap.size, 0, none⟩ 1 32 rfl (newB _ _) ?_; intro v6 w6 hG; have G6 := Lib.hid hG; have K6 := Lib.hid (boxK_next (boxK_alloc K5.out _) hG); have L6 := Lib.hid (Below.grown (below_new L5.out _) hG.2.1 (by have := L5.out.size; simp; omega) (ownG_lt G5.out.1)); have c3 := cell_of_block K6.out.1 3; clear hG)
          | (go_at_call 45; have _t := tok7; clear _t tok7; refine (appI_any w.heap.size ((((((bs ++ s.data.toList) ++ [32]) ++ kw.data.toList) ++ [32]) ++ y1.data.toList) ++ [32]) _ n (by omega) _ G6.out.1 L6.out.size (by (try simp only [List.length_append, List.length_cons, List.length_nil]); omega) (by (try simp only [List.length_append, List.length_cons, List.length_nil]); omega)).mono ?_; rintro e w7 ⟨v7, rfl, hG⟩; have hG : Grn w.heap.size (((((((bs ++ s.data.toList) ++ [32]) ++ kw.data.toList) ++ [32]) ++ y1.data.toList) ++ [32]) ++ (dec2 n).data.toList) _ _ _ _ := hG; rw [eyn] at hG; have G7 := Lib.hid hG; have K7 := Lib.hid (boxK_next K6.out hG); have L7 := Lib.hid (Below.grown L6.out hG.2.1 L6.out.size (ownG_lt G6.out.1)); clear hG)
          | (at_builtin; have _t := tok8; clear _t tok8; refine wp_pushG _ rfl _ _ 76 rfl 5 i0 Tryz.underlying76 hi hz0 hz1 hz2 w.heap.size (((((((bs ++ s.data.toList) ++ [32]) ++ kw.data.toList) ++ [32]) ++ y1.data.toList) ++ [32]) ++ y2.data.toList) _ rfl (ownG_kept G7.out.1 (below_new (Below.refl w7.heap.size w7) _)) (by have := L7.out.size; simp; omega) (by (try simp only [List.length_append, List.length_cons, List.length_nil]); omega) ⟨w7.heap.size, 0, none⟩ 1 10 rfl (newB10 _ _) ?_; intro v8 w8 hG; have G8 := Lib.hid hG; have K8 := Lib.hid (boxK_next (boxK_alloc K7.out _) hG); have L8 := Lib.hid (Below.grown (below_new L7.out _) hG.2.1 (by have := L7.out.size; simp; omega) (ownG_lt G7.out.1)); clear hG))
        exact ⟨⟨j + 1, hjl, by rw [Int.natCast_succ], by rw [NX.out]; exact .inr ⟨by (try simp only [List.length_append, List.length_cons, List.length_nil]); omega, G8.out.1⟩, L8.out⟩, by (simp [intOf]) <;> omega⟩
      · have e : j = fs.length := by omega
        subst e
        have hd : decide ((fs.length : Int) < (fs.length : Int)) = false := by simp
        have BE := Lib.hid (back_eq (fsN fs fs.length))
        generalize (fsN fs fs.length).data.toList = bs at *
        clear hB
        rcases O5.out with ⟨rfl, hv⟩ | ⟨_, hG⟩
        · subst hv
          go_wp2
          go_returns
          exact ⟨ret_strC BE.out, B5.out⟩
        · have cvb := conv_backG (P := Tryz.prog) (src := 76) (dst := 9) (e := 5) hG Tryz.underlying76 Tryz.underlying5 Tryz.underlying9
          obtain ⟨g5, p5, hv, _⟩ := hG
          subst hv
          go_wp2
          go_returns
          exact ⟨ret_strC BE.out, B5.out⟩
end Go.Proofs.YtnbijfeidgddmaaGreatDoor

namespace Go.Proofs.YtnbijfeidgddmaaGreatDoor
open Go.ChangeShapes Go.WideShapes Go.ChangeAt Go.RowKit

/-- The text of a scheme. -/
def sxT (fs : List Fd) : ByteArray := if schOk fs = true then fsN fs fs.length else ByteArray.empty
def rsI (s : ByteArray) : Option (List Fd) := match rdF rfI (tl s) with
  | some fs => if schOk fs = true ∧ sxT fs = s then some fs else none
  | none => none
theorem rsI_prefix {s : ByteArray} {pre : List ByteArray} (hp : pre <+: lns s) (h : rdF rfI (pre.map trimB) = none) : rsI s = none := by
  obtain ⟨r, hr⟩ := hp
  unfold rsI tl
  rw [← hr, List.map_append, rdF_none_app h]
end Go.Proofs.YtnbijfeidgddmaaGreatDoor

namespace Go.Proofs.YtnbijfeidgddmaaGreatDoor
open Go.ChangeShapes Go.WideShapes Go.ChangeAt Go.RowKit
attribute [local go_sem] Oper.semAt_some

theorem new4R (w : World) (n : Nat) (hn : n = w.heap.size) (x0 x1 x2 x3 : Value) (t : TypeId) : ∀ j u, [x0, x1, x2, x3][j]? = some u → (w.alloc (.cells #[x0, x1, x2, x3] t)).cell? ((⟨n, 0, none⟩ : Addr).add j) = some u := by
  subst hn
  intro j u h
  match j, h with
  | 0, h => simp at h; subst h; simp [Addr.add]
  | 1, h => simp at h; subst h; simp [Addr.add]
  | 2, h => simp at h; subst h; simp [Addr.add]
  | 3, h => simp at h; subst h; simp [Addr.add]
/-- The answer of ReadScheme. -/
def RsR (o : Option (List Fd)) (w : World) (e : Ending) (w' : World) : Prop := ∃ v, e = .returned (.tuple #[v, .int .i64 (if o.isSome then 0 else 5)]) ∧ OwnFds w.heap.size (o.getD []) v w' ∧ Below w.heap.size w w'
theorem iReadField_no (line : ByteArray) (hs : line.size ≤ 1048576) (h : rfI line = none) (w : World) (hP : PE w) (ht : TxIs Tryz.prog w "loop.example/g01261/impl.kindWords" kdWd) :
    Calls Tryz.prog 19 #[.string line] w fun e w' => ∃ s k t z, e = .returned (.tuple #[.agg #[.string s, .int .i8 k, .int .i16 t, .int .i16 z], .bool false]) ∧ Below w.heap.size w w' :=
  (iReadField_any line hs w hP ht).mono fun e w' h' => by
    obtain ⟨⟨s, k, t, z⟩, he, _, hb⟩ := h'
    exact ⟨s, k, t, z, by rw [he, h]; rfl, hb⟩
theorem iReadField_yes (line : ByteArray) (hs : line.size ≤ 1048576) (s : ByteArray) (k t z : Int) (h : rfI line = some ⟨s, k, t, z⟩) (w : World) (hP : PE w) (ht : TxIs Tryz.prog w "loop.example/g01261/impl.kindWords" kdWd) :
    Calls Tryz.prog 19 #[.string line] w fun e w' => e = .returned (.tuple #[.agg #[.string s, .int .i8 k, .int .i16 t, .int .i16 z], .bool true]) ∧ Below w.heap.size w w' :=
  (iReadField_any line hs w hP ht).mono fun e w' h' => by
    obtain ⟨x, he, hq, hb⟩ := h'
    have hq := hq _ h
    subst hq
    exact ⟨by rw [he, h]; rfl, hb⟩
theorem iSxT_any (ad : Option Addr) (fs : List Fd) (c : Nat) (w : World) (hc : FieldsIn w ad fs) (ht : TxIs Tryz.prog w "loop.example/g01261/impl.kindWords" kdWd) :
    Calls Tryz.prog 22 #[.slice ad fs.length c] w fun e w' => e = .returned (.string (sxT fs)) ∧ Below w.heap.size w w' := iSxText_any ad fs c w hc ht

set_option maxRecDepth 100000 in
set_option maxHeartbeats 6400000 in
theorem iReadScheme_any (s : ByteArray) (hs : s.size ≤ 1048576) (w : World) (hP : PE w) (ht : TxIs Tryz.prog w "loop.example/g01261/impl.kindWords" kdWd) :
    Calls Tryz.prog 6 #[.string s] w (RsR (rsI s) w) := by
  obtain ⟨i0, hi, hz0, hz1, hz2⟩ := info_parts info_field
  have P0 := Lib.hid hP
  have T0 := Lib.hid ht
  have HZ := Lib.hid (show ∀ t ∈ tl s, t.size ≤ 1048576 from fun t ht => by unfold tl at ht; obtain ⟨l, hl, rfl⟩ := List.mem_map.1 ht; exact Nat.le_trans (trimB_le l) (Nat.le_trans (lns_fit hl) hs))
  clear hP ht
  refine (callsIn_wide (n := 0)).1 (callsIn_of_wp_marks Tryz.func6 rfl trivial ?_ rfl)
  simp only [Tryz.ntmps6, List.size_toArray, List.length_cons, List.length_nil, Nat.reduceAdd, Nat.reduceSub, Array.replicate_succ, Array.replicate_zero, List.push_toArray, List.append_toArray, List.nil_append, List.cons_append]
  refine wpIn_wide.2 ?_
  go_wp2_with (go_at_call 18; refine (lines_any s _).mono ?_; rintro e w1 ⟨rfl, hw⟩; have HW := Lib.hid hw; clear hw)
  have sz1 : w1.heap.size = w.heap.size + 4 := by rw [← HW.out]; simp
  obtain ⟨q0, q1, q2, q3⟩ := block_four w (.cells #[.slice none 0 0] 22) (.cells #[.int .i64 0] 2) (.cells #[.slice none 0 0] 22) (.cells #[.string s] 9)
  rw [HW.out] at q0 q1 q2 q3
  have c0 := cell_of_block q0 0
  have c1 := cell_of_block q1 0
  have c2 := cell_of_block q2 0
  have c3 := cell_of_block q3 0
  have f0 := free_of_block q0 0
  have f1 := free_of_block q1 0
  have f2 := free_of_block q2 0
  have f3 := free_of_block q3 0
  clear q0 q1 q2 q3
  have B0 : Below w.heap.size w w1 := by rw [← HW.out]; exact (by repeat' (first | (with_reducible exact Below.refl _ _) | (with_reducible assumption) | (with_reducible refine below_drewN ?_ _) | (with_reducible refine Below.drew ?_) | (with_reducible refine below_new ?_ _) | (with_reducible refine below_next ?_ (by with_reducible assumption)) | (with_reducible refine Below.setCell ?_ ?_ _) | go_size))
  clear HW
  have hq := lines_by _ s (by unfold maxLen; omega) w1 (by omega) c3 f3
  have hfit := fun x (hx : x ∈ lns s) => Nat.le_trans (Nat.le_trans (trimB_le x) (lns_fit hx)) hs
  have hlen := lns_len s
  refine wp_rangeO rfl (enters_of Tryz.func35 (by kernel_rfl) rfl) hq (fun _ => rfl) (fun h k => ⟨Nat.le_trans h.1 k.1, k.2.trans h.2⟩)
    (fun A B hAB => ⟨hAB.size, hAB.block _ (by omega)⟩) (fun A B hAB k hk hk2 => hAB.block k (by omega) hk2)
    (fun pre W => ∃ ds v, rdF rfI (pre.map trimB) = some ds ∧ W.cell? ⟨w.heap.size + 1 + 1, 0, none⟩ = some v ∧ OwnFds (w1.heap.size + 2) ds v W ∧ W.cell? ⟨w.heap.size, 0, none⟩ = some (.slice none 0 0) ∧ W.cell? ⟨w.heap.size + 1, 0, none⟩ = some (.int .i64 0) ∧ W.frozen? ⟨w.heap.size, 0, none⟩ = false ∧ W.frozen? ⟨w.heap.size + 1, 0, none⟩ = false ∧ W.frozen? ⟨w.heap.size + 1 + 1, 0, none⟩ = false ∧ w1.heap.size ≤ W.heap.size ∧ Below w.heap.size w W)
    (fun c pre W => (c = .ret ∧ rdF rfI (pre.map trimB) = none) ∧ W.cell? ⟨w.heap.size, 0, none⟩ = some (.slice none 0 0) ∧ W.cell? ⟨w.heap.size + 1, 0, none⟩ = some (.int .i64 5) ∧ w1.heap.size ≤ W.heap.size ∧ Below w.heap.size w W)
    ?i1 ?i2 ?i3 ?i4 ?i5 (fun _ _ _ => trivial) ⟨[], _, rfl, c2, ownFds_nil _ _, c0, c1, f0, f1, f2, Nat.le_refl _, B0⟩
    (fun x => { tmps := #[.string s, undef, .pointer (some ⟨w.heap.size, 0, none⟩), .pointer (some ⟨w.heap.size + 1, 0, none⟩), .pointer (some ⟨w.heap.size + 1 + 1, 0, none⟩), .string x, undef, undef, .string s, .func (.func 35) #[] #[.pointer (some ⟨w.heap.size + 1 + 1 + 1, 0, none⟩)], .string x, undef, undef, undef, undef, undef, undef, undef, undef, undef, undef, undef, undef, undef, undef, undef, undef, undef, undef, undef, undef, undef, undef], defers := [] }) ?assign ?body ?done ?stop
  case i1 =>
    rintro pre A B ⟨ds, v, h1, h2, h3, h4, h5, h6, h7, h8, h9, h10⟩ hs
    exact ⟨ds, v, h1, (cell_same (hs.block _ (by omega) (by omega))).trans h2, ownFds_oth h3 hs (by omega), (cell_same (hs.block _ (by omega) (by omega))).trans h4, (cell_same (hs.block _ (by omega) (by omega))).trans h5, (frozen_same (hs.block _ (by omega) (by omega))).trans h6, (frozen_same (hs.block _ (by omega) (by omega))).trans h7, (frozen_same (hs.block _ (by omega) (by omega))).trans h8, Nat.le_trans h9 hs.size, h10.trans (Below.mono (hs.below (by omega)) (by omega))⟩
  case i2 =>
    rintro c pre A B ⟨h1, h4, h5, h9, h10⟩ hs
    exact ⟨h1, (cell_same (hs.block _ (by omega) (by omega))).trans h4, (cell_same (hs.block _ (by omega) (by omega))).trans h5, Nat.le_trans h9 hs.size, h10.trans (Below.mono (hs.below (by omega)) (by omega))⟩
  case i3 =>
    rintro pre A o hA ⟨ds, v, h1, h2, h3, h4, h5, h6, h7, h8, h9, h10⟩
    have hs := below_new (Below.refl A.heap.size A) o
    exact ⟨ds, v, h1, (hs.cell (p := ⟨_, 0, none⟩) (by simp; omega)).trans h2, World.ownsRow.alloc h3 _, (hs.cell (p := ⟨_, 0, none⟩) (by simp; omega)).trans h4, (hs.cell (p := ⟨_, 0, none⟩) (by simp; omega)).trans h5, (hs.frozen (p := ⟨_, 0, none⟩) (by simp; omega)).trans h6, (hs.frozen (p := ⟨_, 0, none⟩) (by simp; omega)).trans h7, (hs.frozen (p := ⟨_, 0, none⟩) (by simp; omega)).trans h8, Nat.le_trans h9 hs.size, h10.trans (hs.mono (by omega))⟩
  case i4 =>
    rintro pre A k o o' hk hl ho ⟨ds, v, h1, h2, h3, h4, h5, h6, h7, h8, h9, h10⟩
    have hs : Below w1.heap.size A (A.putObj k o') := below_put hk
    exact ⟨ds, v, h1, (hs.cell (p := ⟨_, 0, none⟩) (by simp; omega)).trans h2, ownsRow_putObj h3 o' hl ho, (hs.cell (p := ⟨_, 0, none⟩) (by simp; omega)).trans h4, (hs.cell (p := ⟨_, 0, none⟩) (by simp; omega)).trans h5, (hs.frozen (p := ⟨_, 0, none⟩) (by simp; omega)).trans h6, (hs.frozen (p := ⟨_, 0, none⟩) (by simp; omega)).trans h7, (hs.frozen (p := ⟨_, 0, none⟩) (by simp; omega)).trans h8, by simpa using h9, h10.trans (hs.mono (by omega))⟩
  case i5 =>
    rintro c pre A k o o' hk hl ho ⟨h1, h4, h5, h9, h10⟩
    have hs : Below w1.heap.size A (A.putObj k o') := below_put hk
    exact ⟨h1, (hs.cell (p := ⟨_, 0, none⟩) (by simp; omega)).trans h4, (hs.cell (p := ⟨_, 0, none⟩) (by simp; omega)).trans h5, by simpa using h9, h10.trans (hs.mono (by omega))⟩
  case assign =>
    intro l x W K hK
    gi_wp2
    exact hK
  case body =>
    rintro l pre x W ⟨ds, v, h1, h2, h3, h4, h5, h6, h7, h8, h9, h10⟩ hask hlt
    have hx := hask.subset (show x ∈ pre ++ [x] by simp)
    have fx := hfit x hx
    have T := Lib.hid fun W => trim_any x (by have := lns_fit hx; unfold maxLen; omega) W
    have pl : pre.length < 1048577 := by
      have := hask.length_le
      simp at this
      omega
    have em : (pre ++ [x]).map trimB = pre.map trimB ++ [trimB x] := by rw [List.map_append]; rfl
    have dl := rdF_len h1
    rw [List.length_map] at dl
    have C := fun h W hP ht => iReadField_no (trimB x) fx h W hP ht
    have D := fun nm k a b h W hP ht => iReadField_yes (trimB x) fx nm k a b h W hP ht
    have TW := Lib.hid (tx_below T0.out h10)
    have PW := Lib.hid (P0.out.kept (Below.refl _ _) h10 (Nat.le_refl _))
    have HH := Lib.hid h1
    have OO := Lib.hid h3
    have BB := Lib.hid h10
    have EM := Lib.hid em
    clear hq hask hfit hx em h1 h3 h10
    generalize trimB x = y at *
    cases hr : rfI y with
    | none =>
      replace C := Lib.hid (C hr)
      clear D
      have EQ := Lib.hid (show rdF rfI (List.map trimB (pre ++ [x])) = none by rw [EM.out]; exact rdF_bad hr [])
      gi_wp2_with (first
        | (refine ⟨trivial, rfl, ?_⟩; gi_at_call 20; refine (CallsIn.inRound l (callsIn_wide.2 (T.out _))).mono ?_; rintro e w2 ⟨rfl, rfl⟩)
        | (refine ⟨trivial, rfl, ?_⟩; gi_at_call 19; refine (CallsIn.inRound l (callsIn_wide.2 (C.out _ PW.out TW.out))).mono ?_; rintro e w3 ⟨es, ek, ea, eb, rfl, hB⟩; have hB3 := below_new hB (.cells #[.string es, .int .i8 ek, .int .i16 ea, .int .i16 eb] 38); have B3 := Lib.hid hB3; have k0 := (hB3.cell (p := ⟨w.heap.size, 0, none⟩) (by simp; omega)).trans h4; have k1 := (hB3.cell (p := ⟨w.heap.size + 1, 0, none⟩) (by simp; omega)).trans h5; have z0 := (hB3.frozen (p := ⟨w.heap.size, 0, none⟩) (by simp; omega)).trans h6; have z1 := (hB3.frozen (p := ⟨w.heap.size + 1, 0, none⟩) (by simp; omega)).trans h7; clear hB hB3))
      generalize w3.alloc (.cells #[.string es, .int .i8 ek, .int .i16 ea, .int .i16 eb] 38) = w4 at *
      have s4 := B3.out.size
      refine ⟨((Kept.of B3.out hlt).trans (Kept.set w4 0 _ (by omega))).trans (Kept.set _ 0 _ (by omega)), ⟨rfl, EQ.out⟩, ?_, ?_, by simp [World.setCell]; omega, ((BB.out.trans (B3.out.mono BB.out.size)).setCell (p := ⟨w.heap.size, 0, none⟩) (Nat.le_refl _) _).setCell (p := ⟨w.heap.size + 1, 0, none⟩) (by simp) _⟩
      · rw [World.cell?_setCell_other (h := by simp)]
        exact World.cell?_setCell_same' _ _ _ (by rw [k0]; rfl)
      · exact World.cell?_setCell_same' _ _ _ (by rw [World.cell?_setCell_other (h := by simp), k1]; rfl)
    | some c =>
      obtain ⟨nm, k, a, b⟩ := c
      replace D := Lib.hid (D nm k a b hr)
      clear C
      have EQ := Lib.hid (show rdF rfI (List.map trimB (pre ++ [x])) = some (ds ++ [Fd.mk nm k a b]) by rw [EM.out]; exact rdF_snoc HH.out hr)
      gi_wp2_with (first
        | (refine ⟨trivial, rfl, ?_⟩; gi_at_call 20; refine (CallsIn.inRound l (callsIn_wide.2 (T.out _))).mono ?_; rintro e w2 ⟨rfl, rfl⟩)
        | (refine ⟨trivial, rfl, ?_⟩; gi_at_call 19; refine (CallsIn.inRound l (callsIn_wide.2 (D.out _ PW.out TW.out))).mono ?_; rintro e w3 ⟨rfl, hB⟩; go_loud (have O3 := Lib.hid (World.ownsRow.alloc (ownFds_kept OO.out hB) (.cells #[.string nm, .int .i8 k, .int .i16 a, .int .i16 b] 38))); go_loud (have B3 := Lib.hid hB); go_loud (have k2 := (hB.cell (p := ⟨w.heap.size + 1 + 1, 0, none⟩) (by first | (simp; done) | (simp; omega))).trans h2); go_loud (have z2 := (hB.frozen (p := ⟨w.heap.size + 1 + 1, 0, none⟩) (by first | (simp; done) | (simp; omega))).trans h8); go_loud (have s3 := hB.size); go_loud (have y2 : w.heap.size + 1 + 1 < w3.heap.size := by omega); clear hB)
        | (gi_at_builtin; go_loud (refine wpListIn_append_own _ rfl _ _ 22 rfl (w1.heap.size + 2) 38 i0 (.agg #[.string ByteArray.empty, .int .i8 0, .int .i16 0, .int .i16 0]) 4 24 Tryz.underlying22 hi hz0 hz1 hz2 rfl (by decide) _ _ _ rfl (World.ownsRow.alloc O3.out _) ⟨w3.heap.size + 1, 0, none⟩ 1 1 [.string nm, .int .i8 k, .int .i16 a, .int .i16 b] rfl rfl (new4R _ _ (by simp) _ _ _ _ _) (fun x hx => by simp at hx; rcases hx with rfl | rfl | rfl | rfl <;> rfl) (by unfold maxLen; omega) (by omega) (by first | (simp; done) | (simp; omega)) ?_; intro v' w5 hown hgrow _; have P0 := ownFds_push hown; obtain ⟨av, cv, rfl, _⟩ := ownFds_in P0; have P := Lib.hid P0; clear P0; have G := Lib.hid (Below.grown (((Below.mono B3.out (show w1.heap.size + 2 ≤ _ by omega)).alloc (by omega) (.cells #[.string nm, .int .i8 k, .int .i16 a, .int .i16 b] 38)).alloc (by first | (simp; done) | (simp; omega)) (.cells #[.string nm, .int .i8 k, .int .i16 a, .int .i16 b] 38)) hgrow (by first | (simp; done) | (simp; omega)) (fun j hj => (World.ownsRow.lt OO.out j hj).1)); have k5 := (G.out.cell (p := ⟨w.heap.size + 1 + 1, 0, none⟩) (by first | (simp; done) | (simp; omega))).trans h2; have z5 := (G.out.frozen (p := ⟨w.heap.size + 1 + 1, 0, none⟩) (by first | (simp; done) | (simp; omega))).trans h8; clear hown hgrow)))
      have hL : (ds ++ [Fd.mk nm k a b]).length = pre.length + 1 := by simp [dl]
      have PP : OwnFds (w1.heap.size + 2) (ds ++ [Fd.mk nm k a b]) (.slice av (pre.length + 1) cv) w5 := hL ▸ P.out
      have bk : ∀ k, k < w1.heap.size + 2 → k ≠ w.heap.size + 1 + 1 → (w5.setCell ⟨w.heap.size + 1 + 1, 0, none⟩ (.slice av (pre.length + 1) cv)).heap[k]? = w2.heap[k]? := fun k hk hne => (Below.heap_setCell _ _ _ _ (by simp; omega)).trans (G.out.block k hk)
      have gs := G.out.size
      refine ⟨⟨bk _ (by omega) (by omega), bk _ (by omega) (by omega)⟩, ⟨by simp [World.setCell]; omega, bk _ (by omega) (by omega)⟩, _, _, EQ.out, World.cell?_setCell_same' _ _ _ (by rw [k5]; rfl), ownsRow_setCell_below PP (by simp; omega) _, (cell_same (bk _ (by omega) (by omega))).trans h4, (cell_same (bk _ (by omega) (by omega))).trans h5, (frozen_same (bk _ (by omega) (by omega))).trans h6, (frozen_same (bk _ (by omega) (by omega))).trans h7, by rw [World.frozen?_setCell]; exact z5, by simp [World.setCell]; omega, (BB.out.trans (G.out.mono (by omega))).setCell (p := ⟨w.heap.size + 1 + 1, 0, none⟩) (by simp; omega) _⟩
  case done =>
    rintro xs W rfl ⟨ds, v, h1, h2, h3, h4, h5, h6, h7, h8, h9, h10⟩ hK
    obtain ⟨ad, c, rfl, hC⟩ := ownFds_in h3
    have hC := fieldsIn_ofO hC (rdF_fits HZ.out h1)
    have V := fun W h => iSch_any ad ds c W h
    have X := Lib.hid fun W h ht => iSxT_any ad ds c W h ht
    have TW := Lib.hid (tx_below T0.out h10)
    have er : rsI s = if schOk ds = true ∧ sxT ds = s then some ds else none := by
      unfold rsI tl
      rw [h1]
    have HC := Lib.hid hC
    have OO := Lib.hid h3
    have BB := Lib.hid h10
    have lt1 : w1.heap.size < W.heap.size := (Array.getElem?_eq_some_iff.1 hK).1
    clear hq hfit hC h3 h10 h1
    cases hk : schOk ds
    · rw [hk] at V
      rw [if_neg (by rw [hk]; simp)] at er
      have EQ := Lib.hid er
      replace V := Lib.hid V
      clear er hk
      go_wp2_with (first
        | (go_at_call 21; refine (V.out _ HC.out).mono ?_; rintro e w3 ⟨rfl, hB⟩; have B3 := Lib.hid hB; have k0 := (hB.cell (p := ⟨w.heap.size, 0, none⟩) (by first | (simp; done) | (simp; omega))).trans h4; have k1 := (hB.cell (p := ⟨w.heap.size + 1, 0, none⟩) (by first | (simp; done) | (simp; omega))).trans h5; have z0 := (hB.frozen (p := ⟨w.heap.size, 0, none⟩) (by first | (simp; done) | (simp; omega))).trans h6; have z1 := (hB.frozen (p := ⟨w.heap.size + 1, 0, none⟩) (by first | (simp; done) | (simp; omega))).trans h7; clear hB))
      have BL := B3
      have c5 : ((w3.setCell ⟨w.heap.size, 0, none⟩ (.slice none 0 0)).setCell ⟨w.heap.size + 1, 0, none⟩ (.int .i64 5)).cell? ⟨w.heap.size, 0, none⟩ = some (.slice none 0 0) := by
        rw [World.cell?_setCell_other (h := by simp)]
        exact World.cell?_setCell_same' _ _ _ (by rw [k0]; rfl)
      have c6 : ((w3.setCell ⟨w.heap.size, 0, none⟩ (.slice none 0 0)).setCell ⟨w.heap.size + 1, 0, none⟩ (.int .i64 5)).cell? ⟨w.heap.size + 1, 0, none⟩ = some (.int .i64 5) := World.cell?_setCell_same' _ _ _ (by rw [World.cell?_setCell_other (h := by simp), k1]; rfl)
      have k9 : ((w3.setCell ⟨w.heap.size, 0, none⟩ (.slice none 0 0)).setCell ⟨w.heap.size + 1, 0, none⟩ (.int .i64 5)).heap[w.heap.size + 4]? = some (.deferred (some [])) := (Below.heap_setCell _ _ _ _ (by simp)).trans ((Below.heap_setCell _ _ _ _ (by simp)).trans ((BL.out.block _ (by omega)).trans (sz1 ▸ hK)))
      have BF : Below w.heap.size w ((w3.setCell ⟨w.heap.size, 0, none⟩ (.slice none 0 0)).setCell ⟨w.heap.size + 1, 0, none⟩ (.int .i64 5)) := ((BB.out.trans (BL.out.mono BB.out.size)).setCell (p := ⟨w.heap.size, 0, none⟩) (Nat.le_refl _) _).setCell (p := ⟨w.heap.size + 1, 0, none⟩) (by simp) _
      generalize (w3.setCell ⟨w.heap.size, 0, none⟩ (.slice none 0 0)).setCell ⟨w.heap.size + 1, 0, none⟩ (.int .i64 5) = w9 at *
      refine ⟨by simp, .inl ⟨_, _, rfl, run_takeDeferred k9, ?_⟩⟩
      have c7 := (cell_same (o := 0) (World.putObj_heap_other (w := w9) (o := .deferred none) (show w.heap.size ≠ w.heap.size + 4 by omega))).trans c5
      have c8 := (cell_same (o := 0) (World.putObj_heap_other (w := w9) (o := .deferred none) (show w.heap.size + 1 ≠ w.heap.size + 4 by omega))).trans c6
      refine ⟨.tuple #[(.slice none 0 0), .int .i64 5], ?_, (.slice none 0 0), by rw [EQ.out]; rfl, ?_, BF.trans (below_put (by omega))⟩
      · simp [results, Tryz.results6, go_sem, c7, c8]
      · rw [EQ.out]; exact ownFds_nil _ _
    · rw [hk] at V
      replace V := Lib.hid V
      generalize hT0 : sxT ds = T at *
      by_cases hT : T = s
      · subst hT
        rw [if_pos ⟨hk, rfl⟩] at er
        have n1 : (T.toList == T.toList) = true := by simp
        have EQ := Lib.hid er
        clear er hk hT0
        go_wp2_with (first
          | (go_at_call 21; refine (V.out _ HC.out).mono ?_; rintro e w3 ⟨rfl, hB⟩; have B3 := Lib.hid hB; have H3 := Lib.hid (fieldsIn_below HC.out hB); have k2 := (hB.cell (p := ⟨w.heap.size + 1 + 1, 0, none⟩) (by first | (simp; done) | (simp; omega))).trans h2; have s3 := hB.size; have y2 : w.heap.size + 1 + 1 < w3.heap.size := (by omega); clear hB)
          | (go_at_call 22; refine (X.out _ H3.out (tx_below TW.out B3.out)).mono ?_; rintro e w4 ⟨rfl, hB⟩; have BL := Lib.hid (B3.out.trans (Below.mono hB B3.out.size)); have k2 := (BL.out.cell (p := ⟨w.heap.size + 1 + 1, 0, none⟩) (by first | (simp; done) | (simp; omega))).trans h2; have s4 := BL.out.size; have y2 : w.heap.size + 1 + 1 < w4.heap.size := (by omega); have k0 := (BL.out.cell (p := ⟨w.heap.size, 0, none⟩) (by first | (simp; done) | (simp; omega))).trans h4; have k1 := (BL.out.cell (p := ⟨w.heap.size + 1, 0, none⟩) (by first | (simp; done) | (simp; omega))).trans h5; have z0 := (BL.out.frozen (p := ⟨w.heap.size, 0, none⟩) (by first | (simp; done) | (simp; omega))).trans h6; have z1 := (BL.out.frozen (p := ⟨w.heap.size + 1, 0, none⟩) (by first | (simp; done) | (simp; omega))).trans h7; clear hB))
        have c5 : ((w4.setCell ⟨w.heap.size, 0, none⟩ (.slice ad ds.length c)).setCell ⟨w.heap.size + 1, 0, none⟩ (.int .i64 0)).cell? ⟨w.heap.size, 0, none⟩ = some (.slice ad ds.length c) := by
          rw [World.cell?_setCell_other (h := by simp)]
          exact World.cell?_setCell_same' _ _ _ (by rw [k0]; rfl)
        have c6 : ((w4.setCell ⟨w.heap.size, 0, none⟩ (.slice ad ds.length c)).setCell ⟨w.heap.size + 1, 0, none⟩ (.int .i64 0)).cell? ⟨w.heap.size + 1, 0, none⟩ = some (.int .i64 0) := World.cell?_setCell_same' _ _ _ (by rw [World.cell?_setCell_other (h := by simp), k1]; rfl)
        have k9 : ((w4.setCell ⟨w.heap.size, 0, none⟩ (.slice ad ds.length c)).setCell ⟨w.heap.size + 1, 0, none⟩ (.int .i64 0)).heap[w.heap.size + 4]? = some (.deferred (some [])) := (Below.heap_setCell _ _ _ _ (by simp)).trans ((Below.heap_setCell _ _ _ _ (by simp)).trans ((BL.out.block _ (by omega)).trans (sz1 ▸ hK)))
        have BF : Below w.heap.size w ((w4.setCell ⟨w.heap.size, 0, none⟩ (.slice ad ds.length c)).setCell ⟨w.heap.size + 1, 0, none⟩ (.int .i64 0)) := ((BB.out.trans (BL.out.mono BB.out.size)).setCell (p := ⟨w.heap.size, 0, none⟩) (Nat.le_refl _) _).setCell (p := ⟨w.heap.size + 1, 0, none⟩) (by simp) _
        have OF : OwnFds (w1.heap.size + 2) ds (.slice ad ds.length c) ((w4.setCell ⟨w.heap.size, 0, none⟩ (.slice ad ds.length c)).setCell ⟨w.heap.size + 1, 0, none⟩ (.int .i64 0)) := ownsRow_setCell_below (ownsRow_setCell_below (ownFds_kept OO.out BL.out) (by simp; omega) _) (by simp; omega) _
        generalize (w4.setCell ⟨w.heap.size, 0, none⟩ (.slice ad ds.length c)).setCell ⟨w.heap.size + 1, 0, none⟩ (.int .i64 0) = w9 at *
        refine ⟨by simp, .inl ⟨_, _, rfl, run_takeDeferred k9, ?_⟩⟩
        have c7 := (cell_same (o := 0) (World.putObj_heap_other (w := w9) (o := .deferred none) (show w.heap.size ≠ w.heap.size + 4 by omega))).trans c5
        have c8 := (cell_same (o := 0) (World.putObj_heap_other (w := w9) (o := .deferred none) (show w.heap.size + 1 ≠ w.heap.size + 4 by omega))).trans c6
        refine ⟨.tuple #[(.slice ad ds.length c), .int .i64 0], ?_, (.slice ad ds.length c), by rw [EQ.out]; rfl, ?_, BF.trans (below_put (by omega))⟩
        · simp [results, Tryz.results6, go_sem, c7, c8]
        · rw [EQ.out]; exact ownFds_weaken (ownsRow_putObj OF _ k9 rfl) (by omega)
      · rw [if_neg (fun q => hT q.2)] at er
        have n1 := str_neC hT
        have EQ := Lib.hid er
        clear er hk hT0
        go_wp2_with (first
          | (go_at_call 21; refine (V.out _ HC.out).mono ?_; rintro e w3 ⟨rfl, hB⟩; have B3 := Lib.hid hB; have H3 := Lib.hid (fieldsIn_below HC.out hB); have k2 := (hB.cell (p := ⟨w.heap.size + 1 + 1, 0, none⟩) (by first | (simp; done) | (simp; omega))).trans h2; have s3 := hB.size; have y2 : w.heap.size + 1 + 1 < w3.heap.size := (by omega); clear hB)
          | (go_at_call 22; refine (X.out _ H3.out (tx_below TW.out B3.out)).mono ?_; rintro e w4 ⟨rfl, hB⟩; have BL := Lib.hid (B3.out.trans (Below.mono hB B3.out.size)); have k0 := (BL.out.cell (p := ⟨w.heap.size, 0, none⟩) (by first | (simp; done) | (simp; omega))).trans h4; have k1 := (BL.out.cell (p := ⟨w.heap.size + 1, 0, none⟩) (by first | (simp; done) | (simp; omega))).trans h5; have z0 := (BL.out.frozen (p := ⟨w.heap.size, 0, none⟩) (by first | (simp; done) | (simp; omega))).trans h6; have z1 := (BL.out.frozen (p := ⟨w.heap.size + 1, 0, none⟩) (by first | (simp; done) | (simp; omega))).trans h7; clear hB))
        have c5 : ((w4.setCell ⟨w.heap.size, 0, none⟩ (.slice none 0 0)).setCell ⟨w.heap.size + 1, 0, none⟩ (.int .i64 5)).cell? ⟨w.heap.size, 0, none⟩ = some (.slice none 0 0) := by
          rw [World.cell?_setCell_other (h := by simp)]
          exact World.cell?_setCell_same' _ _ _ (by rw [k0]; rfl)
        have c6 : ((w4.setCell ⟨w.heap.size, 0, none⟩ (.slice none 0 0)).setCell ⟨w.heap.size + 1, 0, none⟩ (.int .i64 5)).cell? ⟨w.heap.size + 1, 0, none⟩ = some (.int .i64 5) := World.cell?_setCell_same' _ _ _ (by rw [World.cell?_setCell_other (h := by simp), k1]; rfl)
        have k9 : ((w4.setCell ⟨w.heap.size, 0, none⟩ (.slice none 0 0)).setCell ⟨w.heap.size + 1, 0, none⟩ (.int .i64 5)).heap[w.heap.size + 4]? = some (.deferred (some [])) := (Below.heap_setCell _ _ _ _ (by simp)).trans ((Below.heap_setCell _ _ _ _ (by simp)).trans ((BL.out.block _ (by omega)).trans (sz1 ▸ hK)))
        have BF : Below w.heap.size w ((w4.setCell ⟨w.heap.size, 0, none⟩ (.slice none 0 0)).setCell ⟨w.heap.size + 1, 0, none⟩ (.int .i64 5)) := ((BB.out.trans (BL.out.mono BB.out.size)).setCell (p := ⟨w.heap.size, 0, none⟩) (Nat.le_refl _) _).setCell (p := ⟨w.heap.size + 1, 0, none⟩) (by simp) _
        generalize (w4.setCell ⟨w.heap.size, 0, none⟩ (.slice none 0 0)).setCell ⟨w.heap.size + 1, 0, none⟩ (.int .i64 5) = w9 at *
        refine ⟨by simp, .inl ⟨_, _, rfl, run_takeDeferred k9, ?_⟩⟩
        have c7 := (cell_same (o := 0) (World.putObj_heap_other (w := w9) (o := .deferred none) (show w.heap.size ≠ w.heap.size + 4 by omega))).trans c5
        have c8 := (cell_same (o := 0) (World.putObj_heap_other (w := w9) (o := .deferred none) (show w.heap.size + 1 ≠ w.heap.size + 4 by omega))).trans c6
        refine ⟨.tuple #[(.slice none 0 0), .int .i64 5], ?_, (.slice none 0 0), by rw [EQ.out]; rfl, ?_, BF.trans (below_put (by omega))⟩
        · simp [results, Tryz.results6, go_sem, c7, c8]
        · rw [EQ.out]; exact ownFds_nil _ _
  case stop =>
    rintro c pre W hpre ⟨⟨rfl, h1⟩, h4, h5, h9, h10⟩ hK
    go_wp2
    refine ⟨by simp, .inl ⟨_, _, rfl, run_takeDeferred hK, ?_⟩⟩
    have c5 : (W.putObj w1.heap.size (.deferred none)).cell? ⟨w.heap.size, 0, none⟩ = some (.slice none 0 0) := (cell_same (World.putObj_heap_other (by omega))).trans h4
    have c6 : (W.putObj w1.heap.size (.deferred none)).cell? ⟨w.heap.size + 1, 0, none⟩ = some (.int .i64 5) := (cell_same (World.putObj_heap_other (by omega))).trans h5
    refine ⟨.tuple #[.slice none 0 0, .int .i64 5], ?_, .slice none 0 0, ?_, ?_, h10.trans (below_put (by omega))⟩
    · simp [results, Tryz.results6, go_sem, c5, c6]
    · rw [rsI_prefix hpre h1]; rfl
    · rw [rsI_prefix hpre h1]; exact ownFds_nil _ _
end Go.Proofs.YtnbijfeidgddmaaGreatDoor
