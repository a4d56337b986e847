/- Contracts: PutBelow, the program's and the model's. -/
import Derived.Test.YtcbcggnpbjcdfabDoorEPut
namespace Go.Proofs.YtcbcggnpbjcdfabDoor
open Go.ChangeShapes Go.WideShapes Go.ChangeAt Go.RowKit

theorem flatE_set2 : ∀ (cs : List Et) (i : Nat) (b : Int), (flatE cs).set (i * 3 + 2) (.int .i64 b) = flatE (cs.set i ⟨(etAt cs i).s, (etAt cs i).a, b⟩)
  | [], i, b => rfl
  | d :: cs, 0, b => rfl
  | d :: cs, i + 1, b => by
    rw [show (i + 1) * 3 + 2 = i * 3 + 2 + 1 + 1 + 1 by omega, etAt_succ]
    have := flatE_set2 cs i b
    simp only [flatE, List.set_cons_succ, this]
theorem put_last {B : Nat} {cs : List Et} {gg cap : Nat} {w : World} (j : Nat) (br : Int) (h : OwnEnts B cs (.slice (some ⟨gg, 0, none⟩) cs.length cap) w) :
    OwnEnts B (puL cs j br) (.slice (some ⟨gg, 0, none⟩) cs.length cap) (w.setCell ⟨gg, j * 3 + 2, none⟩ (.int .i64 br)) := by
  have s0 := (World.ownsRow.stored h (j * 3 + 2) (.int .i64 br)).1
  rw [flatE_set2] at s0
  unfold OwnEnts puL
  rw [List.length_set]
  exact s0
def puER (cs : List Et) (x br : Int) (w : World) (e : Ending) (w' : World) : Prop := EEL (if catOk cs && hasX cs.length x then puR cs x.toNat br else []) (if catOk cs then (if hasX cs.length x then puC cs x.toNat br else 2) else 1) w e w'
theorem puER_bad {cs : List Et} (x br : Int) (h : catOk cs = false) : puER cs x br = EEL [] 1 := by funext w e w'; unfold puER; rw [h]; rfl
theorem puER_none {cs : List Et} {x : Int} (br : Int) (h : catOk cs = true) (h2 : hasX cs.length x = false) : puER cs x br = EEL [] 2 := by funext w e w'; unfold puER; rw [h, h2]; rfl
theorem puER_ok {cs : List Et} {x : Int} (br : Int) (h : catOk cs = true) (h2 : hasX cs.length x = true) : puER cs x br = EEL (puR cs x.toNat br) (puC cs x.toNat br) := by funext w e w'; unfold puER; rw [h, h2]; rfl

set_option maxRecDepth 100000 in
set_option maxHeartbeats 1600000 in
theorem iPutBelow_any (ad : Option Addr) (cs : List Et) (c : Nat) (x br : Int) (hbr : I64 br) (w : World) (hc : EntsIn w ad cs) :
    Calls Tryd.prog 16 #[.slice ad cs.length c, .int .i64 x, .int .i64 br] w (puER cs x br w) := by
  have hmf : ∀ (fn : Fn) (first cap : Array Value) (w : World), (Instr.makeFunc fn first cap).run Tryd.prog w = .ok (.func fn first cap) w := fun _ _ _ _ => rfl
  have b0 : Hid (Below w.heap.size w ((w.alloc (.cells #[.int .i64 x] 2)).alloc (.cells #[.int .i64 br] 2))) := Lib.hid (below_new (below_new (Below.refl w.heap.size w) _) _)
  have k0 : ((w.alloc (.cells #[.int .i64 x] 2)).alloc (.cells #[.int .i64 br] 2)).cell? ⟨w.heap.size, 0, none⟩ = some (.int .i64 x) := (box2_0 ..).trans rfl
  have k1 : ((w.alloc (.cells #[.int .i64 x] 2)).alloc (.cells #[.int .i64 br] 2)).cell? ⟨w.heap.size + 1, 0, none⟩ = some (.int .i64 br) := (box2_1 ..).trans rfl
  have H0 := entsIn_below hc b0.out
  clear hc
  cases hz : catOk cs
  · have V := Lib.hid fun fv => search_bad_e ad cs c fv _ H0 hz
    rw [puER_bad x br hz]
    clear hz H0 k0 k1
    go_enter Tryd.func16, Tryd.ntmps16
    go_wp2_with (go_at_call 62; refine (V.out _).mono ?_; rintro e w1 ⟨rfl, hB⟩; have b1 := Lib.hid (b0.out.trans (Below.mono hB b0.out.size)); clear hB)
    go_returns
    exact ⟨_, rfl, ownE_nil _ _, b1.out⟩
  · cases hx : hasX cs.length x
    · have V := Lib.hid (search_missing_e ad cs c 63 #[.pointer (some ⟨w.heap.size, 0, none⟩), .pointer (some ⟨w.heap.size + 1, 0, none⟩)] x _ H0 hz (enters_of Tryd.func63 (by kernel_rfl) rfl) (fun W hB _ => putBelow1_missing ad cs.length c x hx w.heap.size (w.heap.size + 1) W ((hB.cell (p := ⟨w.heap.size, 0, none⟩) (by simp; omega)).trans k0)))
      rw [puER_none br hz hx]
      clear hz H0 k0 k1 hx
      go_enter Tryd.func16, Tryd.ntmps16
      go_wp2_with (go_at_call 62; refine V.out.mono ?_; rintro e w1 ⟨rfl, hB⟩; have b1 := Lib.hid (b0.out.trans (Below.mono hB b0.out.size)); clear hB)
      go_returns
      exact ⟨_, rfl, ownE_nil _ _, b1.out⟩
    · obtain ⟨q1, q2⟩ := hasX_yes hx
      have ex : ((x.toNat : Nat) : Int) = x := by omega
      have V := Lib.hid (search_ok_e ad cs c 63 #[.pointer (some ⟨w.heap.size, 0, none⟩), .pointer (some ⟨w.heap.size + 1, 0, none⟩)] _ H0 hz (enters_of Tryd.func63 (by kernel_rfl) rfl) (fun v n W => OwnEnts (((w.alloc (.cells #[.int .i64 x] 2)).alloc (.cells #[.int .i64 br] 2)).heap.size + 1) (puR cs x.toNat br) v W ∧ n = puC cs x.toNat br) (fun v n W u h => ⟨ownsRow_setCell_below h.1 (by simp) u, h.2⟩)
        (fun W hB hl hE => (putBelow1_ok ad cs c x.toNat (by omega) br hbr hz w.heap.size (w.heap.size + 1) W hE ((hB.cell (p := ⟨w.heap.size, 0, none⟩) (by simp; omega)).trans (by rw [ex]; exact k0)) ((hB.cell (p := ⟨w.heap.size + 1, 0, none⟩) (by simp)).trans k1)).mono fun e w' ⟨v, he, ho, hb⟩ => ⟨v, _, he, ⟨ownEnts_weaken ho (by omega), rfl⟩, hb⟩))
      rw [puER_ok br hz hx]
      clear hz H0 k0 k1 hx ex q1 q2
      generalize puR cs x.toNat br = zs at *
      generalize puC cs x.toNat br = cd at *
      go_enter Tryd.func16, Tryd.ntmps16
      go_wp2_with (go_at_call 62; refine V.out.mono ?_; rintro e w1 ⟨v, _, rfl, ⟨ho, rfl⟩, hB⟩; have b1 := Lib.hid (b0.out.trans (Below.mono hB b0.out.size)); have O1 := Lib.hid (ownEnts_weaken ho (show w.heap.size ≤ _ by simp <;> omega)); clear hB ho)
      go_returns
      exact ⟨_, rfl, O1.out, b1.out⟩

set_option maxRecDepth 100000 in
set_option maxHeartbeats 1600000 in
theorem sPutBelow_any (ad : Option Addr) (cs : List Et) (c : Nat) (x br : Int) (hbr : I64 br) (w : World) (hc : EntsIn w ad cs) :
    Calls Tryd.prog 14 #[.slice ad cs.length c, .int .i64 x, .int .i64 br] w (puER cs x br w) := by
  have C := Lib.hid hc
  have A := sAt_any ad cs c x w hc
  have cf : ∀ i, i < cs.length → (etAt cs i).fits := fun i hi => (hc i hi).1
  clear hc
  cases hz : catOk cs
  · rw [atC_bad x hz] at A
    rw [puER_bad x br hz]
    have A := Lib.hid A
    clear hz
    go_enter Tryd.func14, Tryd.ntmps14
    go_wp2_with (go_at_call 58; refine A.out.mono ?_; rintro e w1 ⟨rfl, hB⟩; have b1 := Lib.hid hB; clear hB)
    go_ret2
    exact ⟨_, rfl, ownE_made rfl b1.out.size, below_new b1.out _⟩
  cases hx : hasX cs.length x
  · rw [atC_none hz hx] at A
    rw [puER_none br hz hx]
    have A := Lib.hid A
    clear hz hx
    go_enter Tryd.func14, Tryd.ntmps14
    go_wp2_with (go_at_call 58; refine A.out.mono ?_; rintro e w1 ⟨rfl, hB⟩; have b1 := Lib.hid hB; clear hB)
    go_ret2
    exact ⟨_, rfl, ownE_made rfl b1.out.size, below_new b1.out _⟩
  rw [atC_ok hz hx] at A
  rw [puER_ok br hz hx]
  have hn := (cat_parts hz).1
  obtain ⟨q1, q2⟩ := hasX_yes hx
  have CL := Lib.hid fun W (h : EntsIn W ad cs) => sCopy_any ad cs c W h (by omega)
  obtain ⟨j, hxj⟩ : ∃ j : Nat, x = (j : Int) := ⟨x.toNat, by omega⟩
  subst hxj
  rw [show ((j : Int)).toNat = j by omega]
  have hj : j < cs.length := by omega
  have A := Lib.hid A
  have fj := cf j hj
  have FITS := Lib.hid (set_fits (j := j) (x := ⟨(etAt cs j).s, (etAt cs j).a, br⟩) ⟨fj.1, fj.2.1, hbr⟩ cf)
  have i1 : (0 : Int) ≤ (j : Int) := by omega
  have i2 : (j : Int) < (cs.length : Int) := by omega
  clear hz hx q1 q2 fj cf
  cases hk : catOk (puL cs j br)
  · rw [(pu_no hk).1, (pu_no hk).2]
    have CH := fun a c W hE => made_no a (puL cs j br) c W hE hk
    unfold puL at CH
    simp only [List.length_set] at CH
    clear hk
    have CH := Lib.hid CH
    go_enter Tryd.func14, Tryd.ntmps14
    go_wp2_with (first
      | (go_at_call 58; refine A.out.mono ?_; rintro e w1 ⟨rfl, hB⟩; have b1 := Lib.hid hB; clear hB)
      | (go_at_call 59; refine (CL.out _ (entsIn_below C.out b1.out)).mono ?_; rintro e w3 ⟨v, rfl, hO, hB⟩; obtain ⟨gg, cap, rfl, hgb, hgl⟩ := World.ownsRow.form hO (Nat.lt_of_le_of_lt (Nat.zero_le _) hj); have b3 := Lib.hid (b1.out.trans (hB.mono b1.out.size)); have t2 := (World.ownsRow.cellAt hO (j * 3 + 2) (by omega)).trans (flatE_get cs j hj).2.2; have u := fun j => World.ownsRow.frozenAt hO j; have P4 := put_last j br hO; have hw : w.heap.size ≤ gg := Nat.le_trans b1.out.size hgb; have b4 := Lib.hid (b3.out.setCell (p := ⟨gg, j * 3 + 2, none⟩) hw (.int .i64 br)); obtain ⟨a4, c4, hv4, hC4⟩ := ownEnts_in P4; unfold puL at hv4; rw [List.length_set] at hv4; cases hv4; have E4 := Lib.hid (entsIn_of hC4 FITS.out); have P4 := Lib.hid (ownEnts_weaken P4 b1.out.size); clear hB hO hC4 hgb hgl hw)
      | (go_at_call 60; refine (CH.out _ _ _ E4.out).mono ?_; rintro e w5 ⟨v5, rfl, hO5, hB⟩; have P5 := Lib.hid (ownEnts_weaken hO5 b4.out.size); have b5 := Lib.hid (b4.out.trans (hB.mono b4.out.size)); clear hB hO5))
    go_ret2
    exact ⟨_, rfl, P5.out, b5.out⟩
  · rw [(pu_yes hk).1, (pu_yes hk).2]
    have CH := fun a c W hE => made_yes a (puL cs j br) c W hE hk
    unfold puL at CH
    simp only [List.length_set] at CH
    clear hk
    have CH := Lib.hid CH
    go_enter Tryd.func14, Tryd.ntmps14
    go_wp2_with (first
      | (go_at_call 58; refine A.out.mono ?_; rintro e w1 ⟨rfl, hB⟩; have b1 := Lib.hid hB; clear hB)
      | (go_at_call 59; refine (CL.out _ (entsIn_below C.out b1.out)).mono ?_; rintro e w3 ⟨v, rfl, hO, hB⟩; obtain ⟨gg, cap, rfl, hgb, hgl⟩ := World.ownsRow.form hO (Nat.lt_of_le_of_lt (Nat.zero_le _) hj); have b3 := Lib.hid (b1.out.trans (hB.mono b1.out.size)); have t2 := (World.ownsRow.cellAt hO (j * 3 + 2) (by omega)).trans (flatE_get cs j hj).2.2; have u := fun j => World.ownsRow.frozenAt hO j; have P4 := put_last j br hO; have hw : w.heap.size ≤ gg := Nat.le_trans b1.out.size hgb; have b4 := Lib.hid (b3.out.setCell (p := ⟨gg, j * 3 + 2, none⟩) hw (.int .i64 br)); obtain ⟨a4, c4, hv4, hC4⟩ := ownEnts_in P4; unfold puL at hv4; rw [List.length_set] at hv4; cases hv4; have E4 := Lib.hid (entsIn_of hC4 FITS.out); have P4 := Lib.hid (ownEnts_weaken P4 b1.out.size); clear hB hO hC4 hgb hgl hw)
      | (go_at_call 60; refine (CH.out _ _ _ E4.out).mono ?_; rintro e w5 ⟨rfl, hB⟩; have P5 := Lib.hid (ownEnts_kept P4.out hB); have b5 := Lib.hid (b4.out.trans (hB.mono b4.out.size)); clear hB))
    go_ret2
    exact ⟨_, rfl, P5.out, b5.out⟩
end Go.Proofs.YtcbcggnpbjcdfabDoor
