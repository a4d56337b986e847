/- Contracts: PutBelow: the closure's. -/
import Derived.Test.YtcbcggnpbjcdfabDoorEChk
import Derived.Deep.AppendLies
namespace Go.Proofs.YtcbcggnpbjcdfabDoor
open Go.ChangeShapes Go.WideShapes Go.ChangeAt Go.RowKit

theorem cell_ltE {w : World} {k j : Nat} {v : Value} (h : w.cell? ⟨k, j, none⟩ = some v) : k < w.heap.size := by
  rcases Nat.lt_or_ge k w.heap.size with q | q
  · exact q
  · have e : w.heap[k]? = none := Array.getElem?_eq_none q
    simp [World.cell?, e] at h
/-- One entry of a row of the call's own is written. -/
theorem put_row {B : Nat} {cs : List Et} {gg cap : Nat} {w : World} {j : Nat} (_hj : j < cs.length) (s : ByteArray) (xa br : Int) (h : OwnEnts B cs (.slice (some ⟨gg, 0, none⟩) cs.length cap) w) :
    OwnEnts B (cs.set j ⟨s, xa, br⟩) (.slice (some ⟨gg, 0, none⟩) cs.length cap) (((w.setCell ⟨gg, j * 3, none⟩ (.string s)).setCell ⟨gg, j * 3 + 1, none⟩ (.int .i64 xa)).setCell ⟨gg, j * 3 + 2, none⟩ (.int .i64 br)) := by
  have s0 := World.ownsRow.stored h (j * 3) (.string s)
  have s1 := s0.1.stored (j * 3 + 1) (.int .i64 xa)
  have s2 := s1.1.stored (j * 3 + 2) (.int .i64 br)
  have o := s2.1
  have st := flatE_set cs j ⟨s, xa, br⟩
  simp only at st
  rw [st] at o
  unfold OwnEnts
  rw [List.length_set]
  exact o
def puL (cs : List Et) (j : Nat) (br : Int) : List Et := cs.set j ⟨(etAt cs j).s, (etAt cs j).a, br⟩
def puR (cs : List Et) (j : Nat) (br : Int) : List Et := if catOk (puL cs j br) then puL cs j br else []
def puC (cs : List Et) (j : Nat) (br : Int) : Int := if catOk (puL cs j br) then 0 else 4
theorem pu_no {cs : List Et} {j : Nat} {br : Int} (h : catOk (puL cs j br) = false) : puR cs j br = [] ∧ puC cs j br = 4 := by unfold puR puC; rw [h]; exact ⟨rfl, rfl⟩
theorem pu_yes {cs : List Et} {j : Nat} {br : Int} (h : catOk (puL cs j br) = true) : puR cs j br = puL cs j br ∧ puC cs j br = 0 := by unfold puR puC; rw [h]; exact ⟨rfl, rfl⟩
theorem etAt_set {cs : List Et} {x : Et} {i j : Nat} (hi : i < cs.length) : etAt (cs.set j x) i = if j = i then x else etAt cs i := by
  unfold etAt
  rw [List.getD, List.getElem?_set]
  split
  · subst_vars; simp [hi]
  · rfl
theorem set_fits {cs : List Et} {x : Et} {j : Nat} (hx : x.fits) (h : ∀ i, i < cs.length → (etAt cs i).fits) : ∀ i, i < (cs.set j x).length → (etAt (cs.set j x) i).fits := fun i hi => by
  rw [List.length_set] at hi
  rw [etAt_set hi]
  split
  · exact hx
  · exact h i hi

set_option maxRecDepth 100000 in
set_option maxHeartbeats 1600000 in
theorem putBelow1_ok (ad : Option Addr) (cs : List Et) (c j : Nat) (hj : j < cs.length) (br : Int) (hbr : I64 br) (hz : catOk cs = true) (g g2 : Nat) (w : World) (hc : EntsIn w ad cs) (hg : w.cell? ⟨g, 0, none⟩ = some (.int .i64 j)) (hg2 : w.cell? ⟨g2, 0, none⟩ = some (.int .i64 br)) :
    Calls Tryd.prog 63 #[.slice ad cs.length c, .pointer (some ⟨g, 0, none⟩), .pointer (some ⟨g2, 0, none⟩)] w (EEL (puR cs j br) (puC cs j br) w) := by
  have hn := (cat_parts hz).1
  have gl := cell_ltE hg
  have gl2 := cell_ltE hg2
  have EN := Lib.hid (entry_any ad cs c j hj w hc (by omega))
  unfold etVal at EN
  have C := Lib.hid hc
  have fj := (hc j hj).1
  have FITS := Lib.hid (set_fits (j := j) (x := ⟨(etAt cs j).s, (etAt cs j).a, br⟩) ⟨fj.1, fj.2.1, hbr⟩ (fun i hi => (hc i hi).1))
  have CL := Lib.hid fun W (h : EntsIn W ad cs) => iClone_any ad cs c W h (by omega)
  have i1 : (0 : Int) ≤ (j : Int) := by omega
  have i2 : (j : Int) < (cs.length : Int) := by omega
  clear hc hz fj
  cases hk : catOk (puL cs j br)
  · rw [(pu_no hk).1, (pu_no hk).2]
    have CH := fun a c W hE => checked_no a (puL cs j br) c W hE hk
    unfold puL at CH
    simp only [List.length_set] at CH
    clear hk
    generalize etAt cs j = x at *
    obtain ⟨s, xa, xb⟩ := x
    simp only at EN CH FITS
    have CH := Lib.hid CH
    go_enter Tryd.func63, Tryd.ntmps63
    go_wp2_with (first
      | (go_at_call 64; refine EN.out.mono ?_; rintro e w1 ⟨rfl, hB⟩; have b1 := Lib.hid hB; have z1 := hB.size; have nw := below_new (Below.refl w1.heap.size w1) (.cells #[.string s, .int .i64 xa, .int .i64 xb] 63); have k2 := (nw.cell (p := ⟨g2, 0, none⟩) (Nat.lt_of_lt_of_le gl2 z1)).trans ((hB.cell (p := ⟨g2, 0, none⟩) gl2).trans hg2); have k1 := (hB.cell (p := ⟨g, 0, none⟩) gl).trans hg; have B2 := Lib.hid (below_new b1.out (.cells #[.string s, .int .i64 xa, .int .i64 br] 63)); have y0 := Lib.hid (show (w1.alloc (.cells #[.string s, .int .i64 xa, .int .i64 br] 63)).cell? ⟨w1.heap.size, 0, none⟩ = some (.string s) from (by simp)); have y1 := Lib.hid (show (w1.alloc (.cells #[.string s, .int .i64 xa, .int .i64 br] 63)).cell? ⟨w1.heap.size, 1, none⟩ = some (.int .i64 xa) from (by simp)); have y2 := Lib.hid (show (w1.alloc (.cells #[.string s, .int .i64 xa, .int .i64 br] 63)).cell? ⟨w1.heap.size, 2, none⟩ = some (.int .i64 br) from (by simp)); clear hB nw)
      | (go_at_call 65; go_loud (refine (CL.out _ (entsIn_below C.out B2.out)).mono ?_; rintro e w3 ⟨v, rfl, hO, hB⟩; obtain ⟨gg, cap, rfl, hgb, hgl⟩ := World.ownsRow.form hO (Nat.lt_of_le_of_lt (Nat.zero_le _) hj); have b3 := Lib.hid (B2.out.trans (hB.mono B2.out.size)); have x0 := (hB.cell (p := ⟨w1.heap.size, 0, none⟩) (by simp)).trans y0.out; have x1 := (hB.cell (p := ⟨w1.heap.size, 1, none⟩) (by simp)).trans y1.out; have x2 := (hB.cell (p := ⟨w1.heap.size, 2, none⟩) (by simp)).trans y2.out; have i3 := (b3.out.cell (p := ⟨g, 0, none⟩) gl).trans hg; have g3 := flatE_get cs j hj; have t0 := (World.ownsRow.cellAt hO (j * 3) (by omega)).trans g3.1; have t1 := (World.ownsRow.cellAt hO (j * 3 + 1) (by omega)).trans g3.2.1; have t2 := (World.ownsRow.cellAt hO (j * 3 + 2) (by omega)).trans g3.2.2; have u := fun j => World.ownsRow.frozenAt hO j; have P4 := put_row hj s xa br hO; have hw : w.heap.size ≤ gg := Nat.le_trans B2.out.size hgb; have b4 := Lib.hid (((b3.out.setCell (p := ⟨gg, j * 3, none⟩) hw (.string s)).setCell (p := ⟨gg, j * 3 + 1, none⟩) hw (.int .i64 xa)).setCell (p := ⟨gg, j * 3 + 2, none⟩) hw (.int .i64 br)); obtain ⟨a4, c4, hv4, hC4⟩ := ownEnts_in P4; rw [List.length_set] at hv4; cases hv4; have E4 := Lib.hid (entsIn_of hC4 FITS.out); have P4 := Lib.hid (ownEnts_weaken P4 B2.out.size); clear hB hO g3 hC4 hgb hgl hw))
      | (go_at_call 66; refine (CH.out _ _ _ E4.out).mono ?_; rintro e w5 ⟨rfl, hB⟩; have b5 := Lib.hid (b4.out.trans (hB.mono b4.out.size)); clear hB))
    go_ret2
    exact ⟨_, rfl, ownE_nil _ _, b5.out⟩
  · rw [(pu_yes hk).1, (pu_yes hk).2]
    have CH := fun a c W hE => checked_yes a (puL cs j br) c W hE hk
    unfold puL at CH ⊢
    simp only [List.length_set] at CH
    clear hk
    generalize etAt cs j = x at *
    obtain ⟨s, xa, xb⟩ := x
    simp only at EN CH FITS ⊢
    have CH := Lib.hid CH
    go_enter Tryd.func63, Tryd.ntmps63
    go_wp2_with (first
      | (go_at_call 64; refine EN.out.mono ?_; rintro e w1 ⟨rfl, hB⟩; have b1 := Lib.hid hB; have z1 := hB.size; have nw := below_new (Below.refl w1.heap.size w1) (.cells #[.string s, .int .i64 xa, .int .i64 xb] 63); have k2 := (nw.cell (p := ⟨g2, 0, none⟩) (Nat.lt_of_lt_of_le gl2 z1)).trans ((hB.cell (p := ⟨g2, 0, none⟩) gl2).trans hg2); have k1 := (hB.cell (p := ⟨g, 0, none⟩) gl).trans hg; have B2 := Lib.hid (below_new b1.out (.cells #[.string s, .int .i64 xa, .int .i64 br] 63)); have y0 := Lib.hid (show (w1.alloc (.cells #[.string s, .int .i64 xa, .int .i64 br] 63)).cell? ⟨w1.heap.size, 0, none⟩ = some (.string s) from (by simp)); have y1 := Lib.hid (show (w1.alloc (.cells #[.string s, .int .i64 xa, .int .i64 br] 63)).cell? ⟨w1.heap.size, 1, none⟩ = some (.int .i64 xa) from (by simp)); have y2 := Lib.hid (show (w1.alloc (.cells #[.string s, .int .i64 xa, .int .i64 br] 63)).cell? ⟨w1.heap.size, 2, none⟩ = some (.int .i64 br) from (by simp)); clear hB nw)
      | (go_at_call 65; go_loud (refine (CL.out _ (entsIn_below C.out B2.out)).mono ?_; rintro e w3 ⟨v, rfl, hO, hB⟩; obtain ⟨gg, cap, rfl, hgb, hgl⟩ := World.ownsRow.form hO (Nat.lt_of_le_of_lt (Nat.zero_le _) hj); have b3 := Lib.hid (B2.out.trans (hB.mono B2.out.size)); have x0 := (hB.cell (p := ⟨w1.heap.size, 0, none⟩) (by simp)).trans y0.out; have x1 := (hB.cell (p := ⟨w1.heap.size, 1, none⟩) (by simp)).trans y1.out; have x2 := (hB.cell (p := ⟨w1.heap.size, 2, none⟩) (by simp)).trans y2.out; have i3 := (b3.out.cell (p := ⟨g, 0, none⟩) gl).trans hg; have g3 := flatE_get cs j hj; have t0 := (World.ownsRow.cellAt hO (j * 3) (by omega)).trans g3.1; have t1 := (World.ownsRow.cellAt hO (j * 3 + 1) (by omega)).trans g3.2.1; have t2 := (World.ownsRow.cellAt hO (j * 3 + 2) (by omega)).trans g3.2.2; have u := fun j => World.ownsRow.frozenAt hO j; have P4 := put_row hj s xa br hO; have hw : w.heap.size ≤ gg := Nat.le_trans B2.out.size hgb; have b4 := Lib.hid (((b3.out.setCell (p := ⟨gg, j * 3, none⟩) hw (.string s)).setCell (p := ⟨gg, j * 3 + 1, none⟩) hw (.int .i64 xa)).setCell (p := ⟨gg, j * 3 + 2, none⟩) hw (.int .i64 br)); obtain ⟨a4, c4, hv4, hC4⟩ := ownEnts_in P4; rw [List.length_set] at hv4; cases hv4; have E4 := Lib.hid (entsIn_of hC4 FITS.out); have P4 := Lib.hid (ownEnts_weaken P4 B2.out.size); clear hB hO g3 hC4 hgb hgl hw))
      | (go_at_call 66; refine (CH.out _ _ _ E4.out).mono ?_; rintro e w5 ⟨rfl, hB⟩; have P5 := Lib.hid (ownEnts_kept P4.out hB); have b5 := Lib.hid (b4.out.trans (hB.mono b4.out.size)); clear hB))
    go_ret2
    exact ⟨_, rfl, P5.out, b5.out⟩
theorem putBelow1_missing (ad : Option Addr) (n c : Nat) (x : Int) (hx : hasX n x = false) (g g2 : Nat) (w : World) (hg : w.cell? ⟨g, 0, none⟩ = some (.int .i64 x)) :
    Calls Tryd.prog 63 #[.slice ad n c, .pointer (some ⟨g, 0, none⟩), .pointer (some ⟨g2, 0, none⟩)] w fun e w' => e = Missing x ∧ Below w.heap.size w w' := by
  have P := Lib.hid (entry_missing ad n c x hx w)
  unfold Missing at P
  clear hx
  go_enter Tryd.func63, Tryd.ntmps63
  go_wp2_with (go_at_call 64; refine P.out.mono ?_; rintro e w1 ⟨rfl, hB⟩; have b1 := Lib.hid hB; clear hB)
  exact ⟨rfl, rfl, b1.out⟩
end Go.Proofs.YtcbcggnpbjcdfabDoor
