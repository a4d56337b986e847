/- Contract: MergeEntries, the model's. -/
import Derived.Test.YtcbcggnpbjcdfabDoorMrgS
namespace Go.Proofs.YtcbcggnpbjcdfabDoor
open Go.ChangeShapes Go.WideShapes Go.ChangeAt Go.RowKit

theorem mg_fits {cs : List Et} {i k : Int} (hc : ∀ n, n < cs.length → (etAt cs n).fits) (hk : I64 k) : ∀ n, n < (mgL cs i k).length → (etAt (mgL cs i k) n).fits := fun n hn => by
  rw [mg_len] at hn
  rw [mg_at _ _ hn]
  obtain ⟨h1, h2, h3⟩ := hc n hn
  unfold mE
  split
  · exact ⟨h1, hk, (show I64 (-1 : Int) from ⟨by omega, by omega⟩)⟩
  · refine ⟨h1, ?_, ?_⟩
    · show I64 (if (etAt cs n).a = i then k else (etAt cs n).a)
      split
      · exact hk
      · exact h2
    · show I64 (if (etAt cs n).b = i then k else (etAt cs n).b)
      split
      · exact hk
      · exact h3

set_option maxRecDepth 100000 in
set_option maxHeartbeats 3200000 in
theorem sMergeEntries_any (ad : Option Addr) (cs : List Et) (c : Nat) (x y : Int) (w : World) (hc : EntsIn w ad cs) :
    Calls Tryd.prog 20 #[.slice ad cs.length c, .int .i64 x, .int .i64 y] w (meER cs x y w) := by
  have C := Lib.hid hc
  have A := fun W h => sAt_any ad cs c x W h
  have A2 := fun W h => sAt_any ad cs c y W h
  have tk : True := trivial
  cases hz : catOk cs
  · simp only [atC_bad x hz] at A
    rw [meER_bad x y hz]
    have A := Lib.hid A
    clear hz A2 hc
    go_enter Tryd.func20, Tryd.ntmps20
    go_wp2_with (go_at_call 58; have _t := tk; clear _t tk; refine (A.out _ C.out).mono ?_; rintro e w1 ⟨rfl, hB⟩; have b1 := Lib.hid hB; clear hB)
    go_ret2
    exact ⟨_, rfl, ownE_made rfl b1.out.size, below_new b1.out _⟩
  cases hx : hasX cs.length x
  · simp only [atC_none hz hx] at A
    rw [meER_none hz (by rw [hx, Bool.false_and])]
    have A := Lib.hid A
    clear hz hx A2 hc
    go_enter Tryd.func20, Tryd.ntmps20
    go_wp2_with (go_at_call 58; have _t := tk; clear _t tk; refine (A.out _ C.out).mono ?_; rintro e w1 ⟨rfl, hB⟩; have b1 := Lib.hid hB; clear hB)
    go_ret2
    exact ⟨_, rfl, ownE_made rfl b1.out.size, below_new b1.out _⟩
  simp only [atC_ok hz hx] at A
  obtain ⟨q1, q2⟩ := hasX_yes hx
  cases hy : hasX cs.length y
  · simp only [atC_none hz hy] at A2
    rw [meER_none hz (by rw [hy, Bool.and_false])]
    have A := Lib.hid A
    have A2 := Lib.hid A2
    clear hz hx hy hc
    go_enter Tryd.func20, Tryd.ntmps20
    go_wp2_with (first
      | (go_at_call 58; have _t := tk; clear _t tk; refine (A.out _ C.out).mono ?_; rintro e w1 ⟨rfl, hB⟩; have b1 := Lib.hid hB; clear hB)
      | (go_at_call 58; refine (A2.out _ (entsIn_below C.out b1.out)).mono ?_; rintro e w2 ⟨rfl, hB⟩; have b2 := Lib.hid (b1.out.trans (hB.mono b1.out.size)); clear hB))
    go_ret2
    exact ⟨_, rfl, ownE_made rfl b2.out.size, below_new b2.out _⟩
  simp only [atC_ok hz hy] at A2
  obtain ⟨p1, p2⟩ := hasX_yes hy
  rw [meER_ok hz (by rw [hx, hy]; rfl)]
  obtain ⟨i, hxi⟩ : ∃ i : Nat, x = (i : Int) := ⟨x.toNat, by omega⟩
  obtain ⟨k, hyk⟩ : ∃ k : Nat, y = (k : Int) := ⟨y.toNat, by omega⟩
  subst hxi hyk
  rw [show ((i : Int)).toNat = i by omega, show ((k : Int)).toNat = k by omega]
  have hi : i < cs.length := by omega
  have hk : k < cs.length := by omega
  have hn := (cat_parts hz).1
  have SP := Lib.hid fun W (h : EntsIn W ad cs) => sPath_any ad cs c k hk hz W h
  have PL : plen cs (firstE cs k) ≤ 40 := Nat.le_trans (plen_le (end_of hz hk)) hn
  have CL := Lib.hid fun W (h : EntsIn W ad cs) => sCopy_any ad cs c W h (by omega)
  have MOK := Lib.hid fun (h : meNo cs i k = false) => (have ⟨h1, h2, h3⟩ := me_parts hi hk h; mg_ok hz h1 h2 h3)
  have KNE := Lib.hid fun (h : meNo cs i k = false) => (show (k : Int) ≠ (i : Int) from fun e => by
    obtain ⟨h1, h2, h3⟩ := me_parts hi hk h
    have hp := pref_iff.1 h2
    have := end_of hz hk
    unfold firstE at this
    rw [if_pos (by simpa using hp.2)] at this
    rw [leads_yes (m := 0) (plen_lt this (by unfold up; omega)) (by unfold up; exact e)] at h3
    cases h3)
  have cf : ∀ n, n < cs.length → (etAt cs n).fits := fun n hn => (hc n hn).1
  obtain ⟨_, bi, oi, hai, hbi, _, pi1, _⟩ := hc i hi
  obtain ⟨_, bk, ok, hak, _, _, pk1, _⟩ := hc k hk
  rw [hai] at hak
  cases hak
  have A := Lib.hid A
  have A2 := Lib.hid A2
  have i1 : (0 : Int) ≤ (i : Int) := by omega
  have i2 : (i : Int) < (cs.length : Int) := by omega
  have k1 : (0 : Int) ≤ (k : Int) := by omega
  have k2 : (k : Int) < (cs.length : Int) := by omega
  have HI := Lib.hid hi
  have HK := Lib.hid hk
  subst hai
  clear hz hx hy hc q1 q2 p1 p2 hi hk
  have tk2 : True := trivial
  cases f1 : ((etAt cs i).a != -1)
  · cases f2 : ((etAt cs k).a != -1)
    · cases f3 : leads cs (firstE cs k) i
      · have no : meNo cs i k = false := by unfold meNo; rw [f1, f2, f3]; rfl
        rw [(me_yes no).1, (me_yes no).2]
        have MOK := Lib.hid (MOK.out no)
        have KNE := KNE.out no
        have HA := Lib.hid (show decide ((i : Int) ∈ segI cs (firstE cs k) (plen cs (firstE cs k))) = false from by unfold leads at f3; exact f3)
        clear f3 no
        go_enter Tryd.func20, Tryd.ntmps20
        go_wp2_with (first
          | (go_at_call 58; have _t := tk; clear _t tk; refine (A.out _ C.out).mono ?_; rintro e w1 ⟨rfl, hB⟩; have b1 := Lib.hid hB; clear hB)
          | (go_at_call 58; refine (A2.out _ (entsIn_below C.out b1.out)).mono ?_; rintro e w2 ⟨rfl, hB⟩; have b2 := Lib.hid (b1.out.trans (hB.mono b1.out.size)); have E2 := Lib.hid (entsIn_below C.out b2.out); have d1 := (b2.out.cell (p := ⟨bi, oi + i * 3 + 1, none⟩) hbi).trans pi1; have d2 := (b2.out.cell (p := ⟨bi, oi + k * 3 + 1, none⟩) hbi).trans pk1; clear hB)
          | (go_at_call 70; refine (SP.out _ E2.out).mono ?_; rintro e w3 ⟨vb, rfl, hO, hB⟩; obtain ⟨a3, c3, rfl, hi3⟩ := ownInts_in hO; have I3 := Lib.hid hi3; have b3 := Lib.hid (b2.out.trans (hB.mono b2.out.size)); clear hB hO hi3)
          | (go_at_call 69; have X := sIn_any a3 _ c3 (i : Int) w3 I3.out (by rw [segI_len]; omega); rw [HA.out] at X; refine X.mono ?_; rintro e w4 ⟨rfl, hB⟩; have b4 := Lib.hid (b3.out.trans (hB.mono b3.out.size)); clear X hB)
          | (go_at_call 59; refine (CL.out _ (entsIn_below C.out b4.out)).mono ?_; rintro e w5 ⟨v, rfl, hO, hB⟩; obtain ⟨gg, cap, rfl, hgb, hgl⟩ := World.ownsRow.form hO (Nat.lt_of_le_of_lt (Nat.zero_le _) HI.out); have R0 := Lib.hid (show RowN w4.heap.size cs.length gg cap (rowF cs (i : Int) (k : Int) 0) w5 from by rw [rowF_zero]; exact ⟨rfl, hO⟩); have b5 := Lib.hid (b4.out.trans (hB.mono b4.out.size)); have z4 := b4.out.size; clear hO hB))
        go_loopw [10] (fun q wr => ∃ l : Nat, l ≤ cs.length ∧ q = .int .i64 l ∧ RowN w4.heap.size cs.length gg cap (rowF cs (i : Int) (k : Int) l) wr ∧ Below w.heap.size w wr) (fun q _ => cs.length - (intOf q).toNat)
        case atStart => exact ⟨0, Nat.zero_le _, rfl, R0.out, b5.out⟩
        case round =>
          obtain ⟨l, hl, rfl, hR, hB⟩ := hrel
          have BW := Lib.hid hB
          by_cases hll : l < cs.length
          · have hd : decide ((l : Int) < (cs.length : Int)) = true := by simpa using hll
            have l1 : (0 : Int) ≤ (l : Int) := by omega
            have l2 : (l : Int) < (cs.length : Int) := by omega
            have hw : IntKind.i64.wrap ((l : Int) + 1) = (l : Int) + 1 := IntWalk.i64_in _ (by omega)
            obtain ⟨t0, t1, t2, u, gl, hg4⟩ := hR.cells hll
            have hg : w.heap.size ≤ gg := Nat.le_trans z4 hg4
            have NX := Lib.hid (rowF_next (cs := cs) (i : Int) (k : Int) hll)
            have RS := hR.see l k
            have RB := hR.bro l k
            have RSB := RS.bro l k
            rw [etAt_set (by rw [rowF_len]; exact hll), if_pos rfl, List.set_set] at RSB
            generalize he : etAt (rowF cs (i : Int) (k : Int) l) l = x at *
            obtain ⟨s, a, b⟩ := x
            simp only at t0 t1 t2 RS RB RSB
            unfold fixE at NX
            simp only at NX
            have y2 := (World.cell?_setCell_other wr ⟨gg, l * 3 + 1, none⟩ ⟨gg, l * 3 + 2, none⟩ (.int .i64 k) (by intro hc; simp at hc)).trans t2
            have SAME := Lib.hid (set_same (rs := rowF cs (i : Int) (k : Int) l) (l := l) (e := ⟨s, a, b⟩) he.symm)
            have RA := Lib.hid hR
            have RS := Lib.hid RS
            have RB := Lib.hid RB
            have RSB := Lib.hid RSB
            clear hR hB he
            by_cases ea : a = (i : Int)
            · have da : (a == (i : Int)) = true := by simpa using ea
              rw [if_pos ea] at NX
              by_cases eb : b = (i : Int)
              · have db : (b == (i : Int)) = true := by simpa using eb
                rw [if_pos eb] at NX
                clear ea eb
                go_wp2
                exact ⟨⟨l + 1, hll, by rw [Int.natCast_succ], by rw [NX.out]; exact RSB.out, (BW.out.setCell (p := ⟨gg, l * 3 + 1, none⟩) hg _).setCell (p := ⟨gg, l * 3 + 2, none⟩) hg _⟩, by (simp [intOf]) <;> omega⟩
              · have db : (b == (i : Int)) = false := by simpa using eb
                rw [if_neg eb] at NX
                clear ea eb
                go_wp2
                exact ⟨⟨l + 1, hll, by rw [Int.natCast_succ], by rw [NX.out]; exact RS.out, BW.out.setCell (p := ⟨gg, l * 3 + 1, none⟩) hg _⟩, by (simp [intOf]) <;> omega⟩
            · have da : (a == (i : Int)) = false := by simpa using ea
              rw [if_neg ea] at NX
              by_cases eb : b = (i : Int)
              · have db : (b == (i : Int)) = true := by simpa using eb
                rw [if_pos eb] at NX
                clear ea eb
                go_wp2
                exact ⟨⟨l + 1, hll, by rw [Int.natCast_succ], by rw [NX.out]; exact RB.out, BW.out.setCell (p := ⟨gg, l * 3 + 2, none⟩) hg _⟩, by (simp [intOf]) <;> omega⟩
              · have db : (b == (i : Int)) = false := by simpa using eb
                rw [if_neg eb] at NX
                clear ea eb
                go_wp2
                exact ⟨⟨l + 1, hll, by rw [Int.natCast_succ], by rw [NX.out, SAME.out]; exact RA.out, BW.out⟩, by (simp [intOf]) <;> omega⟩
          · have e : l = cs.length := by omega
            subst e
            have hd : decide ((cs.length : Int) < (cs.length : Int)) = false := by simp
            obtain ⟨t0, t1, t2, u, gl, hg4⟩ := hR.cells HI.out
            have hg : w.heap.size ≤ gg := Nat.le_trans z4 hg4
            have RSB := (hR.see i k).bro i (-1)
            rw [etAt_set (by rw [rowF_len]; exact HI.out), if_pos rfl, List.set_set] at RSB
            simp only at RSB
            rw [rowF_all HI.out] at RSB
            have y2 := (World.cell?_setCell_other wr ⟨gg, i * 3 + 1, none⟩ ⟨gg, i * 3 + 2, none⟩ (.int .i64 k) (by intro hc; simp at hc)).trans t2
            obtain ⟨a9, c9, hv9, hC9⟩ := ownEnts_in RSB.2
            rw [mg_len] at hv9
            cases hv9
            have E9 := Lib.hid (entsIn_of hC9 (mg_fits cf (show I64 (k : Int) from ⟨by omega, by omega⟩)))
            have R9 := Lib.hid (ownEnts_weaken RSB.2 z4)
            have B9 := Lib.hid ((hB.setCell (p := ⟨gg, i * 3 + 1, none⟩) hg (.int .i64 k)).setCell (p := ⟨gg, i * 3 + 2, none⟩) hg (.int .i64 (-1)))
            have CH := fun a c W hE => made_yes a (mgL cs (i : Int) (k : Int)) c W hE MOK.out
            simp only [mg_len] at CH
            have CH := Lib.hid CH
            clear hR hB RSB hC9 t0
            go_wp2_with (go_at_call 60; refine (CH.out _ _ _ E9.out).mono ?_; rintro e w9 ⟨rfl, hB⟩; have P9 := Lib.hid (ownEnts_kept R9.out hB); have b9 := Lib.hid (B9.out.trans (hB.mono B9.out.size)); clear hB)
            go_ret2
            exact ⟨_, rfl, P9.out, b9.out⟩
      · have no : meNo cs i k = true := by unfold meNo; rw [f3, Bool.or_true]
        rw [(me_no no).1, (me_no no).2]
        have HA := Lib.hid (show decide ((i : Int) ∈ segI cs (firstE cs k) (plen cs (firstE cs k))) = true from by unfold leads at f3; exact f3)
        clear f3 no MOK KNE
        go_enter Tryd.func20, Tryd.ntmps20
        go_wp2_with (first
          | (go_at_call 58; have _t := tk; clear _t tk; refine (A.out _ C.out).mono ?_; rintro e w1 ⟨rfl, hB⟩; have b1 := Lib.hid hB; clear hB)
          | (go_at_call 58; refine (A2.out _ (entsIn_below C.out b1.out)).mono ?_; rintro e w2 ⟨rfl, hB⟩; have b2 := Lib.hid (b1.out.trans (hB.mono b1.out.size)); have E2 := Lib.hid (entsIn_below C.out b2.out); have d1 := (b2.out.cell (p := ⟨bi, oi + i * 3 + 1, none⟩) hbi).trans pi1; have d2 := (b2.out.cell (p := ⟨bi, oi + k * 3 + 1, none⟩) hbi).trans pk1; clear hB)
          | (go_at_call 70; refine (SP.out _ E2.out).mono ?_; rintro e w3 ⟨vb, rfl, hO, hB⟩; obtain ⟨a3, c3, rfl, hi3⟩ := ownInts_in hO; have I3 := Lib.hid hi3; have b3 := Lib.hid (b2.out.trans (hB.mono b2.out.size)); clear hB hO hi3)
          | (go_at_call 69; have X := sIn_any a3 _ c3 (i : Int) w3 I3.out (by rw [segI_len]; omega); rw [HA.out] at X; refine X.mono ?_; rintro e w4 ⟨rfl, hB⟩; have b4 := Lib.hid (b3.out.trans (hB.mono b3.out.size)); clear X hB))
        go_ret2
        exact ⟨_, rfl, ownE_made rfl b4.out.size, below_new b4.out _⟩
    · have no : meNo cs i k = true := by unfold meNo; rw [f2, Bool.or_true, Bool.true_or]
      rw [(me_no no).1, (me_no no).2]
      clear no MOK KNE
      go_enter Tryd.func20, Tryd.ntmps20
      go_wp2_with (first
        | (go_at_call 58; have _t := tk; clear _t tk; refine (A.out _ C.out).mono ?_; rintro e w1 ⟨rfl, hB⟩; have b1 := Lib.hid hB; clear hB)
        | (go_at_call 58; refine (A2.out _ (entsIn_below C.out b1.out)).mono ?_; rintro e w2 ⟨rfl, hB⟩; have b2 := Lib.hid (b1.out.trans (hB.mono b1.out.size)); have E2 := Lib.hid (entsIn_below C.out b2.out); have d1 := (b2.out.cell (p := ⟨bi, oi + i * 3 + 1, none⟩) hbi).trans pi1; have d2 := (b2.out.cell (p := ⟨bi, oi + k * 3 + 1, none⟩) hbi).trans pk1; clear hB))
      go_ret2
      exact ⟨_, rfl, ownE_made rfl b2.out.size, below_new b2.out _⟩
  · have no : meNo cs i k = true := by unfold meNo; rw [f1, Bool.true_or, Bool.true_or]
    rw [(me_no no).1, (me_no no).2]
    clear no MOK KNE
    go_enter Tryd.func20, Tryd.ntmps20
    go_wp2_with (first
      | (go_at_call 58; have _t := tk; clear _t tk; refine (A.out _ C.out).mono ?_; rintro e w1 ⟨rfl, hB⟩; have b1 := Lib.hid hB; clear hB)
      | (go_at_call 58; refine (A2.out _ (entsIn_below C.out b1.out)).mono ?_; rintro e w2 ⟨rfl, hB⟩; have b2 := Lib.hid (b1.out.trans (hB.mono b1.out.size)); have E2 := Lib.hid (entsIn_below C.out b2.out); have d1 := (b2.out.cell (p := ⟨bi, oi + i * 3 + 1, none⟩) hbi).trans pi1; have d2 := (b2.out.cell (p := ⟨bi, oi + k * 3 + 1, none⟩) hbi).trans pk1; clear hB))
    go_ret2
    exact ⟨_, rfl, ownE_made rfl b2.out.size, below_new b2.out _⟩
end Go.Proofs.YtcbcggnpbjcdfabDoor
