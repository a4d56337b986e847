/- Contract: a merged catalogue, the program's. -/
import Derived.Test.YtcbcggnpbjcdfabDoorMrg
import Derived.Test.YtcbcggnpbjcdfabDoorEPutS
namespace Go.Proofs.YtcbcggnpbjcdfabDoor
open Go.ChangeShapes Go.WideShapes Go.ChangeAt Go.RowKit

theorem flatE_set1 : ∀ (cs : List Et) (i : Nat) (a : Int), (flatE cs).set (i * 3 + 1) (.int .i64 a) = flatE (cs.set i ⟨(etAt cs i).s, a, (etAt cs i).b⟩)
  | [], i, a => rfl
  | d :: cs, 0, a => rfl
  | d :: cs, i + 1, a => by
    rw [show (i + 1) * 3 + 1 = i * 3 + 1 + 1 + 1 + 1 by omega, etAt_succ]
    have := flatE_set1 cs i a
    simp only [flatE, List.set_cons_succ, this]
/-- A row of n entries of the call's own, where it lies. -/
def RowN (B n gg cap : Nat) (rs : List Et) (w : World) : Prop := rs.length = n ∧ OwnEnts B rs (.slice (some ⟨gg, 0, none⟩) n cap) w
theorem RowN.see {B n gg cap : Nat} {rs : List Et} {w : World} (h : RowN B n gg cap rs w) (l : Nat) (a : Int) : RowN B n gg cap (rs.set l ⟨(etAt rs l).s, a, (etAt rs l).b⟩) (w.setCell ⟨gg, l * 3 + 1, none⟩ (.int .i64 a)) := by
  obtain ⟨hl, h⟩ := h
  subst hl
  have s0 := (World.ownsRow.stored h (l * 3 + 1) (.int .i64 a)).1
  rw [flatE_set1] at s0
  refine ⟨by rw [List.length_set], ?_⟩
  unfold OwnEnts
  rw [List.length_set]
  exact s0
theorem RowN.bro {B n gg cap : Nat} {rs : List Et} {w : World} (h : RowN B n gg cap rs w) (l : Nat) (b : Int) : RowN B n gg cap (rs.set l ⟨(etAt rs l).s, (etAt rs l).a, b⟩) (w.setCell ⟨gg, l * 3 + 2, none⟩ (.int .i64 b)) := by
  obtain ⟨hl, h⟩ := h
  subst hl
  have s0 := (World.ownsRow.stored h (l * 3 + 2) (.int .i64 b)).1
  rw [flatE_set2] at s0
  refine ⟨by rw [List.length_set], ?_⟩
  unfold OwnEnts
  rw [List.length_set]
  exact s0
theorem RowN.cells {B n gg cap : Nat} {rs : List Et} {w : World} (h : RowN B n gg cap rs w) {l : Nat} (hl : l < n) :
    w.cell? ⟨gg, l * 3, none⟩ = some (.string (etAt rs l).s) ∧ w.cell? ⟨gg, l * 3 + 1, none⟩ = some (.int .i64 (etAt rs l).a) ∧ w.cell? ⟨gg, l * 3 + 2, none⟩ = some (.int .i64 (etAt rs l).b) ∧ (∀ j, w.frozen? ⟨gg, j, none⟩ = false) ∧ gg < w.heap.size ∧ B ≤ gg := by
  obtain ⟨hn, h⟩ := h
  subst hn
  have g := flatE_get rs l hl
  have lt := World.ownsRow.lt h gg rfl
  exact ⟨(World.ownsRow.cellAt h _ (by omega)).trans g.1, (World.ownsRow.cellAt h _ (by omega)).trans g.2.1, (World.ownsRow.cellAt h _ (by omega)).trans g.2.2, fun j => World.ownsRow.frozenAt h j, lt.2, lt.1⟩
theorem RowN.alloc {B n gg cap : Nat} {rs : List Et} {w : World} (h : RowN B n gg cap rs w) (o : Obj) : RowN B n gg cap rs (w.alloc o) := ⟨h.1, World.ownsRow.alloc h.2 o⟩
/-- What becomes of an entry that is not the merged one. -/
def fixE (i k : Int) (e : Et) : Et := ⟨e.s, if e.a = i then k else e.a, if e.b = i then k else e.b⟩
/-- The first l ones, and the merged one, are done. -/
def rowM (cs : List Et) (i k : Int) (l : Nat) : List Et := (List.range cs.length).map fun n => if n < l ∨ (n : Int) = i then mE i k n (etAt cs n) else etAt cs n
theorem rowM_len (cs : List Et) (i k : Int) (l : Nat) : (rowM cs i k l).length = cs.length := by unfold rowM; simp
theorem rowM_at {cs : List Et} (i k : Int) (l : Nat) {n : Nat} (h : n < cs.length) : etAt (rowM cs i k l) n = if n < l ∨ (n : Int) = i then mE i k n (etAt cs n) else etAt cs n := etAt_map _ _ _ h
theorem ext_et {xs ys : List Et} (hl : xs.length = ys.length) (h : ∀ n, n < xs.length → etAt xs n = etAt ys n) : xs = ys := by
  refine List.ext_getElem hl fun n h1 h2 => ?_
  have := h n h1
  unfold etAt at this
  rw [List.getD, List.getD, List.getElem?_eq_getElem h1, List.getElem?_eq_getElem h2] at this
  exact this
theorem rowM_zero {cs : List Et} {k : Int} {j : Nat} (hj : j < cs.length) : rowM cs (j : Int) k 0 = cs.set j ⟨(etAt cs j).s, k, -1⟩ := by
  refine ext_et (by rw [rowM_len, List.length_set]) fun n hn => ?_
  rw [rowM_len] at hn
  rw [rowM_at _ _ _ hn, etAt_set hn]
  by_cases e : j = n
  · subst e; rw [if_pos (.inr rfl), if_pos rfl]; unfold mE; rw [if_pos rfl]
  · rw [if_neg (by omega), if_neg e]
theorem rowM_all (cs : List Et) (i k : Int) : rowM cs i k cs.length = mgL cs i k := by
  refine ext_et (by rw [rowM_len, mg_len]) fun n hn => ?_
  rw [rowM_len] at hn
  rw [rowM_at _ _ _ hn, mg_at _ _ hn, if_pos (.inl hn)]
theorem rowM_next {cs : List Et} {i k : Int} (hi : 0 ≤ i) (hk : k ≠ i) {l : Nat} (hl : l < cs.length) : rowM cs i k (l + 1) = (rowM cs i k l).set l (fixE i k (etAt (rowM cs i k l) l)) := by
  refine ext_et (by rw [List.length_set, rowM_len, rowM_len]) fun n hn => ?_
  rw [rowM_len] at hn
  rw [rowM_at _ _ _ hn, etAt_set (by rw [rowM_len]; exact hn), rowM_at _ _ _ hn, rowM_at _ _ _ hl]
  by_cases e : l = n
  · subst e
    rw [if_pos (.inl (Nat.lt_succ_self _)), if_pos rfl]
    by_cases e2 : (l : Int) = i
    · rw [if_pos (.inr e2)]
      unfold mE fixE
      rw [if_pos e2]
      simp only
      rw [if_neg hk, if_neg (by omega)]
    · rw [if_neg (by omega)]
      unfold mE fixE
      rw [if_neg e2]
  · rw [if_neg e]
    by_cases e2 : n < l ∨ (n : Int) = i
    · rw [if_pos (by omega), if_pos e2]
    · rw [if_neg (by omega), if_neg e2]
theorem set_same {rs : List Et} {l : Nat} {e : Et} (h : e = etAt rs l) : rs.set l e = rs := by
  refine ext_et (by rw [List.length_set]) fun n hn => ?_
  rw [List.length_set] at hn
  rw [etAt_set hn]
  split
  · next q => subst q; exact h
  · rfl

theorem row_two {cs : List Et} {B gg cap j : Nat} {w : World} (hj : j < cs.length) (k : Int) (h : RowN B cs.length gg cap ((cs.set j ⟨(etAt cs j).s, k, (etAt cs j).b⟩).set j ⟨(etAt (cs.set j ⟨(etAt cs j).s, k, (etAt cs j).b⟩) j).s, (etAt (cs.set j ⟨(etAt cs j).s, k, (etAt cs j).b⟩) j).a, -1⟩) w) : RowN B cs.length gg cap (rowM cs (j : Int) k 0) w := by
  rw [rowM_zero hj]
  rw [List.set_set, etAt_set hj, if_pos rfl] at h
  exact h

set_option maxRecDepth 100000 in
set_option maxHeartbeats 3200000 in
theorem merged_any (ad : Option Addr) (cs : List Et) (c j : Nat) (hj : j < cs.length) (k : Int) (hk : k ≠ j) (hn : cs.length ≤ 40) (w : World) (hc : EntsIn w ad cs) :
    Calls Tryd.prog 74 #[.slice ad cs.length c, .int .i64 j, .int .i64 k] w (EListR (mgL cs j k) w) := by
  have CL := Lib.hid (iClone_any ad cs c w hc (by omega))
  have i1 : (0 : Int) ≤ (j : Int) := by omega
  have i2 : (j : Int) < (cs.length : Int) := by omega
  have HJ := Lib.hid hj
  clear hc
  go_enter Tryd.func74, Tryd.ntmps74
  go_wp2_with (go_at_call 65; refine CL.out.mono ?_; rintro e w3 ⟨v, rfl, hO, hB⟩; obtain ⟨gg, cap, rfl, hgb, hgl⟩ := World.ownsRow.form hO (Nat.lt_of_le_of_lt (Nat.zero_le _) hj); have R0 : RowN w.heap.size cs.length gg cap cs w3 := ⟨rfl, hO⟩; have b3 := Lib.hid hB; obtain ⟨t0, t1, t2, u, gl, _⟩ := R0.cells hj; have R1 := R0.see j k; have t2' := (World.cell?_setCell_other w3 ⟨gg, j * 3 + 1, none⟩ ⟨gg, j * 3 + 2, none⟩ (.int .i64 k) (by intro hc; simp at hc)).trans t2; have R2 := Lib.hid (row_two HJ.out k (R1.bro j (-1))); have B2 := Lib.hid ((b3.out.setCell (p := ⟨gg, j * 3 + 1, none⟩) hgb (.int .i64 k)).setCell (p := ⟨gg, j * 3 + 2, none⟩) hgb (.int .i64 (-1))); clear hO hB R0 R1)
  go_loopw [23] (fun q wr => ∃ l : Nat, l ≤ cs.length ∧ q = .int .i64 l ∧ RowN w.heap.size cs.length gg cap (rowM cs (j : Int) k l) wr ∧ Below w.heap.size w wr) (fun q _ => cs.length - (intOf q).toNat)
  case atStart => exact ⟨0, Nat.zero_le _, rfl, R2.out, B2.out⟩
  case round =>
    obtain ⟨l, hl, rfl, hR, hB⟩ := hrel
    have RR := Lib.hid hR
    have BB := Lib.hid hB
    by_cases hll : l < cs.length
    · have hd : decide ((l : Int) < (cs.length : Int)) = true := by simpa using hll
      have l1 : (0 : Int) ≤ (l : Int) := by omega
      have l2 : (l : Int) < (cs.length : Int) := by omega
      have hw : IntKind.i64.wrap ((l : Int) + 1) = (l : Int) + 1 := IntWalk.i64_in _ (by omega)
      obtain ⟨t0, t1, t2, _, gl, hg⟩ := hR.cells hll
      have NX := Lib.hid (rowM_next (cs := cs) i1 hk hll)
      have sz := hB.size
      generalize he : etAt (rowM cs (j : Int) k l) l = x at *
      obtain ⟨s, a, b⟩ := x
      simp only at t0 t1 t2
      unfold fixE at NX
      simp only at NX
      have O : (.cells #[.string s, .int .i64 a, .int .i64 b] 63 : Obj) = .cells #[.string s, .int .i64 a, .int .i64 b] 63 := rfl
      have RA := hR.alloc (.cells #[.string s, .int .i64 a, .int .i64 b] 63)
      have BA := below_new hB (.cells #[.string s, .int .i64 a, .int .i64 b] 63)
      obtain ⟨a0, a1, a2, u, gl2, _⟩ := RA.cells hll
      rw [he] at a0 a1 a2
      simp only at a0 a1 a2
      have ne : wr.heap.size ≠ gg := by omega
      have x2 : (wr.alloc (.cells #[.string s, .int .i64 a, .int .i64 b] 63)).cell? ⟨wr.heap.size, 2, none⟩ = some (.int .i64 b) := by simp
      have y2 := (World.cell?_setCell_other (wr.alloc (.cells #[.string s, .int .i64 a, .int .i64 b] 63)) ⟨gg, l * 3 + 1, none⟩ ⟨wr.heap.size, 2, none⟩ (.int .i64 k) (by intro hc; simp at hc <;> omega)).trans x2
      have z2 := (World.cell?_setCell_other (wr.alloc (.cells #[.string s, .int .i64 a, .int .i64 b] 63)) ⟨gg, l * 3 + 1, none⟩ ⟨gg, l * 3 + 2, none⟩ (.int .i64 k) (by intro hc; simp at hc)).trans a2
      have RS := hR.see l k
      have RB := hR.bro l k
      have RSB := RS.bro l k
      rw [he] at RS RB RSB
      rw [etAt_set (by rw [rowM_len]; exact hll), if_pos rfl, List.set_set] at RSB
      simp only at RS RB RSB
      have RA := Lib.hid RA
      have RS := Lib.hid RS
      have RB := Lib.hid RB
      have RSB := Lib.hid RSB
      have BA := Lib.hid BA
      have BW := Lib.hid hB
      have SAME := Lib.hid (set_same (rs := rowM cs (j : Int) k l) (l := l) (e := ⟨s, a, b⟩) he.symm)
      clear hR hB he O
      by_cases ea : a = (j : Int)
      · have da : (a == (j : Int)) = true := by simpa using ea
        rw [if_pos ea] at NX
        by_cases eb : b = (j : Int)
        · have db : (b == (j : Int)) = true := by simpa using eb
          rw [if_pos eb] at NX
          clear ea eb
          go_wp2
          exact ⟨⟨l + 1, hll, by rw [Int.natCast_succ], by rw [NX.out]; exact RSB.out.alloc _, below_new ((BW.out.setCell (p := ⟨gg, l * 3 + 1, none⟩) hg _).setCell (p := ⟨gg, l * 3 + 2, none⟩) hg _) _⟩, by (simp [intOf]) <;> omega⟩
        · have db : (b == (j : Int)) = false := by simpa using eb
          rw [if_neg eb] at NX
          clear ea eb
          go_wp2
          exact ⟨⟨l + 1, hll, by rw [Int.natCast_succ], by rw [NX.out]; exact RS.out.alloc _, below_new (BW.out.setCell (p := ⟨gg, l * 3 + 1, none⟩) hg _) _⟩, by (simp [intOf]) <;> omega⟩
      · have da : (a == (j : Int)) = false := by simpa using ea
        rw [if_neg ea] at NX
        by_cases eb : b = (j : Int)
        · have db : (b == (j : Int)) = true := by simpa using eb
          rw [if_pos eb] at NX
          clear ea eb
          go_wp2
          exact ⟨⟨l + 1, hll, by rw [Int.natCast_succ], by rw [NX.out]; exact RB.out.alloc _, below_new (BW.out.setCell (p := ⟨gg, l * 3 + 2, none⟩) hg _) _⟩, by (simp [intOf]) <;> omega⟩
        · have db : (b == (j : Int)) = false := by simpa using eb
          rw [if_neg eb] at NX
          clear ea eb
          go_wp2
          exact ⟨⟨l + 1, hll, by rw [Int.natCast_succ], by rw [NX.out, SAME.out]; exact RA.out, BA.out⟩, by (simp [intOf]) <;> omega⟩
    · have e : l = cs.length := by omega
      subst e
      have hd : decide ((cs.length : Int) < (cs.length : Int)) = false := by simp
      have R9 := Lib.hid (show OwnEnts w.heap.size (mgL cs (j : Int) k) (.slice (some ⟨gg, 0, none⟩) cs.length cap) wr from by rw [← rowM_all]; exact hR.2)
      clear hR hB
      go_wp2
      go_ret
      exact ⟨_, rfl, R9.out, BB.out⟩
end Go.Proofs.YtcbcggnpbjcdfabDoor
