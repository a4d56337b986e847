/- The model's ValidCatalogue: its contract. -/
import Derived.Test.YtppjmngnjdeigaaDoorCat
import Derived.Test.YtppjmngnjdeigaaDoorENameS
import Derived.Test.YtppjmngnjdeigaaDoorEnt3
import Derived.Deep.DeepCutAuto
namespace Go.Proofs.YtppjmngnjdeigaaDoor
open Go.ChangeShapes Go.WideShapes Go.ChangeAt Go.RowKit

set_option maxHeartbeats 1600000 in
theorem sPref_any (ad : Option Addr) (cs : List Et) (c : Nat) (x : Int) (w : World) (hc : EntsIn w ad cs) (hn : cs.length ≤ 1048576) :
    Calls Tryd.prog 80 #[.slice ad cs.length c, .int .i64 x] w fun e w' => e = .returned (.bool (pref cs x)) ∧ Below w.heap.size w w' := by
  have C := Lib.hid hc
  have H := fun W => in_any x 0 ((cs.length : Int) - 1) W
  have hw : IntKind.i64.wrap ((cs.length : Int) - 1) = (cs.length : Int) - 1 := IntWalk.i64_in _ (by omega)
  clear hc
  cases h2 : (decide ((0 : Int) ≤ x) && decide (x ≤ (cs.length : Int) - 1))
  · have e : pref cs x = false := by
      cases hp : pref cs x
      · rfl
      · have := pref_iff.1 hp
        simp at h2
        omega
    rw [h2] at H
    have H := Lib.hid H
    rw [e]
    clear h2 e
    go_enter Tryd.func80, Tryd.ntmps80
    go_wp2_with (go_at_call 57; refine (H.out _).mono ?_; rintro e w1 ⟨rfl, hB⟩; have B1 := Lib.hid hB; clear hB)
    go_returns
    exact ⟨rfl, B1.out⟩
  · rw [h2] at H
    have H := Lib.hid H
    simp only [Bool.and_eq_true, decide_eq_true_eq] at h2
    have hj : x.toNat < cs.length := by omega
    have ex : ((x.toNat : Nat) : Int) = x := by omega
    have q1 : 0 ≤ x := h2.1
    have q2 : x < (cs.length : Int) := by omega
    obtain ⟨_, b1, o1, rfl, hb1, p0, p1, p2⟩ := C.out x.toNat hj
    have e : pref cs x = ((etAt cs x.toNat).a == -1) := by unfold pref; rw [decide_eq_true q1, decide_eq_true q2]; rfl
    rw [e]
    clear h2 e
    go_enter Tryd.func80, Tryd.ntmps80
    go_wp2_with (go_at_call 57; refine (H.out _).mono ?_; rintro e w1 ⟨rfl, hB⟩; have B1 := Lib.hid hB; have d1 := (hB.cell (p := ⟨b1, o1 + x.toNat * 3 + 1, none⟩) hb1).trans p1; clear hB)
    go_returns
    exact ⟨rfl, B1.out⟩

theorem ent_a_no {cs : List Et} {e : Et} (h1 : (e.a == -1) = false) (h2 : pref cs e.a = false) : entOk cs e = false := by unfold entOk; rw [h1, h2]; rfl
theorem ent_ab_no {cs : List Et} {e : Et} (h1 : (e.a == -1) = false) (h2 : (e.b == -1) = false) : entOk cs e = false := by unfold entOk; rw [h1, h2]; simp
theorem ent_b_no {cs : List Et} {e : Et} (h1 : (e.b == -1) = false) (h2 : pref cs e.b = false) : entOk cs e = false := by unfold entOk; rw [h1, h2]; simp
theorem ent_a_yes {cs : List Et} {e : Et} (h1 : pref cs e.a = true) (h2 : (e.b == -1) = true) : entOk cs e = true := by unfold entOk; rw [h1, h2]; simp
theorem ent_b_yes {cs : List Et} {e : Et} (h1 : (e.a == -1) = true) (h2 : pref cs e.b = true) : entOk cs e = true := by unfold entOk; rw [h1, h2]; simp
theorem ent_ab_yes {cs : List Et} {e : Et} (h1 : (e.a == -1) = true) (h2 : (e.b == -1) = true) : entOk cs e = true := by unfold entOk; rw [h1, h2]; rfl

/-- What the model's test of one entry leaves behind. -/
def EntGo (cs : List Et) (j : Nat) (ok : Bool) : Prop := (ename (etAt cs j).s && entOk cs (etAt cs j)) = ok

set_option maxRecDepth 100000 in
set_option maxHeartbeats 3200000 in
theorem sCat_any (ad : Option Addr) (cs : List Et) (c : Nat) (w : World) (hc : EntsIn w ad cs) :
    Calls Tryd.prog 48 #[.slice ad cs.length c] w fun e w' => e = .returned (.bool (catOk cs)) ∧ Below w.heap.size w w' := by
  have C := Lib.hid hc
  have hbw := cell_bw
  clear hc
  by_cases hl : cs.length ≤ 40
  · have hg : decide ((40 : Int) < (cs.length : Int)) = false := by simp; omega
    go_enter Tryd.func48, Tryd.ntmps48
    go_wp2
    go_loopw [3, 4, 5] (fun i x k wr => ∃ j : Nat, j ≤ cs.length ∧ i = .int .i64 j ∧ eTo cs j = true ∧ Below w.heap.size w wr) (fun i _ _ _ => cs.length - (intOf i).toNat)
    case atStart => exact ⟨0, Nat.zero_le _, rfl, rfl, Below.refl _ _⟩
    case round =>
      obtain ⟨j, hj, rfl, hs, hB⟩ := hrel
      have BB := Lib.hid hB
      have S := Lib.hid hs
      clear hs hg
      by_cases hjl : j < cs.length
      · have hd : decide ((j : Int) < (cs.length : Int)) = true := by simpa using hjl
        obtain ⟨⟨hfit, _⟩, b1, o1, rfl, hb1, p0, p1, p2⟩ := C.out j hjl
        have d0 := (hB.cell (p := ⟨b1, o1 + j * 3, none⟩) hb1).trans p0
        have i1 : (0 : Int) ≤ (j : Int) := by omega
        have i2 : (j : Int) < (cs.length : Int) := by omega
        have no1 : Hid (ename (etAt cs j).s = false → catOk cs = false) := Lib.hid fun h => cat_bad hjl (eTo_name h)
        have no2 : Hid (hasN (enTo cs j) (etAt cs j).s = true → catOk cs = false) := Lib.hid fun h => cat_bad hjl (eTo_twice h)
        have no3 : Hid (entOk cs (etAt cs j) = false → catOk cs = false) := Lib.hid fun h => cat_bad hjl (eTo_ent h)
        have nx : Hid (ename (etAt cs j).s = true → entOk cs (etAt cs j) = true → hasN (enTo cs j) (etAt cs j).s = false → eTo cs (j + 1) = true) := Lib.hid fun h1 h2 h3 => eTo_yes S.out h1 h2 h3
        have P0 := Lib.hid p0
        have V := Lib.hid fun W => sEName_any (etAt cs j).s W hfit
        have PA := fun x W (h : EntsIn W (some ⟨b1, o1, none⟩) cs) => sPref_any (some ⟨b1, o1, none⟩) cs c x W h (by omega)
        clear hB p0 S hfit
        cases hz1 : ename (etAt cs j).s
        · rw [hz1] at V
          go_wp2_with (go_at_call 79; refine (V.out _).mono ?_; rintro e w1 ⟨rfl, hB⟩; have B1 := Lib.hid (BB.out.trans (Below.mono hB BB.out.size)); clear hB)
          go_ret
          exact ⟨retB9 (no1.out hz1), B1.out⟩
        · rw [hz1] at V
          have NX := Lib.hid (nx.out hz1)
          clear nx no1 hz1
          cases h1 : ((etAt cs j).a == -1)
          · have g1 : ((etAt cs j).a != -1) = true := by unfold bne; rw [h1]; rfl
            cases h2 : pref cs (etAt cs j).a
            · have R0 := Lib.hid (no3.out (ent_a_no h1 h2))
              have PX := PA (etAt cs j).a
              rw [h2] at PX
              have PX := Lib.hid PX
              clear h1 h2 PA
              go_wp2_with (first
                | (go_at_call 79; refine (V.out _).mono ?_; rintro e w1 ⟨rfl, hB⟩; have B1 := Lib.hid (BB.out.trans (Below.mono hB BB.out.size)); have e1 := (B1.out.cell (p := ⟨b1, o1 + j * 3 + 1, none⟩) hb1).trans p1; have e2 := (B1.out.cell (p := ⟨b1, o1 + j * 3 + 2, none⟩) hb1).trans p2; have E1 := Lib.hid (entsIn_below C.out B1.out); clear hB)
                | (go_at_call 80; refine (PX.out _ E1.out).mono ?_; rintro e w2 ⟨rfl, hB⟩; have B2 := Lib.hid (B1.out.trans (Below.mono hB B1.out.size)); have g2 := (B2.out.cell (p := ⟨b1, o1 + j * 3 + 2, none⟩) hb1).trans p2; clear hB))
              go_ret
              exact ⟨retB9 R0.out, B2.out⟩
            · have PX := PA (etAt cs j).a
              rw [h2] at PX
              have PX := Lib.hid PX
              cases h3 : ((etAt cs j).b == -1)
              · have R0 := Lib.hid (no3.out (ent_ab_no h1 h3))
                have g3 : ((etAt cs j).b != -1) = true := by unfold bne; rw [h3]; rfl
                clear h1 h2 h3 PA
                go_wp2_with (first
                  | (go_at_call 79; refine (V.out _).mono ?_; rintro e w1 ⟨rfl, hB⟩; have B1 := Lib.hid (BB.out.trans (Below.mono hB BB.out.size)); have e1 := (B1.out.cell (p := ⟨b1, o1 + j * 3 + 1, none⟩) hb1).trans p1; have e2 := (B1.out.cell (p := ⟨b1, o1 + j * 3 + 2, none⟩) hb1).trans p2; have E1 := Lib.hid (entsIn_below C.out B1.out); clear hB)
                  | (go_at_call 80; refine (PX.out _ E1.out).mono ?_; rintro e w2 ⟨rfl, hB⟩; have B2 := Lib.hid (B1.out.trans (Below.mono hB B1.out.size)); have g2 := (B2.out.cell (p := ⟨b1, o1 + j * 3 + 2, none⟩) hb1).trans p2; clear hB))
                go_ret
                exact ⟨retB9 R0.out, B2.out⟩
              · have NX := Lib.hid (NX.out (ent_a_yes h2 h3))
                have g3 : ((etAt cs j).b != -1) = false := by unfold bne; rw [h3]; rfl
                clear h1 h2 h3 PA
                go_wp2_with (first
                  | (go_at_call 79; refine (V.out _).mono ?_; rintro e w1 ⟨rfl, hB⟩; have B1 := Lib.hid (BB.out.trans (Below.mono hB BB.out.size)); have e1 := (B1.out.cell (p := ⟨b1, o1 + j * 3 + 1, none⟩) hb1).trans p1; have e2 := (B1.out.cell (p := ⟨b1, o1 + j * 3 + 2, none⟩) hb1).trans p2; have E1 := Lib.hid (entsIn_below C.out B1.out); clear hB)
                  | (go_at_call 80; refine (PX.out _ E1.out).mono ?_; rintro e w2 ⟨rfl, hB⟩; have B2 := Lib.hid (B1.out.trans (Below.mono hB B1.out.size)); have g2 := (B2.out.cell (p := ⟨b1, o1 + j * 3 + 2, none⟩) hb1).trans p2; clear hB))
                go_loopw [5] (fun u wr => ∃ k : Nat, k ≤ j ∧ u = .int .i64 k ∧ hasN (enTo cs k) (etAt cs j).s = false ∧ Below w.heap.size w wr) (fun u _ => j - (intOf u).toNat)
                case atStart => exact ⟨0, Nat.zero_le _, rfl, rfl, B2.out⟩
                case round =>
                  obtain ⟨k, hk, rfl, hs, hB⟩ := hrel
                  have BB := Lib.hid hB
                  have S := Lib.hid hs
                  clear hs
                  by_cases hkl : k < j
                  · have hd : decide ((k : Int) < (j : Int)) = true := by simpa using hkl
                    obtain ⟨_, b2, o2, he, hb2, q0, _, _⟩ := C.out k (Nat.lt_trans hkl hjl)
                    cases he
                    have e0 := (hB.cell (p := ⟨b1, o1 + j * 3, none⟩) hb1).trans P0.out
                    have e1 := (hB.cell (p := ⟨b1, o1 + k * 3, none⟩) hb1).trans q0
                    have y1 : b1 < wr.heap.size := Nat.lt_of_lt_of_le hb1 hB.size
                    have i3 : (0 : Int) ≤ (k : Int) := by omega
                    have i4 : (k : Int) < (cs.length : Int) := by omega
                    have n2 : Hid (((etAt cs k).s == (etAt cs j).s) = true → catOk cs = false) := Lib.hid fun h => no2.out (ehasN_mono h j hkl)
                    have n3 : Hid (((etAt cs k).s == (etAt cs j).s) = false → hasN (enTo cs (k + 1)) (etAt cs j).s = false) := Lib.hid fun h => by rw [ehasN_next, S.out, h]; rfl
                    clear hB q0 hb2
                    cases hx : ((etAt cs k).s == (etAt cs j).s)
                    · have ht : ((etAt cs k).s.toList == (etAt cs j).s.toList) = false := by rw [← beq_toListBytes]; exact hx
                      go_wp2_with fail
                      refine region_bw (by kernel_rfl) (by kernel_rfl) ?_
                      repeat (go_big_quiet_step (fail))
                      refine wpQuiet_nil ?_; intro wq hq; replace hq := below_of_bw hq; obtain ⟨qc, qf, qz⟩ := bcell hq
                      go_wp2_with fail
                      exact ⟨⟨k + 1, hkl, by rw [Int.natCast_succ], n3.out hx, BB.out.trans (hq.mono BB.out.size)⟩, by (simp [intOf]) <;> omega⟩
                    · have ht : ((etAt cs k).s.toList == (etAt cs j).s.toList) = true := by rw [← beq_toListBytes]; exact hx
                      go_wp2_with fail
                      refine region_bw (by kernel_rfl) (by kernel_rfl) ?_
                      repeat (go_big_quiet_step (fail))
                      refine wpQuiet_nil ?_; intro wq hq; replace hq := below_of_bw hq; obtain ⟨qc, qf, qz⟩ := bcell hq
                      go_wp2_with fail
                      go_ret
                      exact ⟨retB9 (n2.out hx), BB.out.trans (hq.mono BB.out.size)⟩
                  · have e : k = j := by omega
                    subst e
                    have hd : decide ((k : Int) < (k : Int)) = false := by simp
                    clear hB
                    go_wp2
                    exact ⟨⟨k + 1, hjl, by rw [Int.natCast_succ], NX.out S.out, BB.out⟩, by (simp [intOf]) <;> omega⟩
          · have g1 : ((etAt cs j).a != -1) = false := by unfold bne; rw [h1]; rfl
            cases h3 : ((etAt cs j).b == -1)
            · have g3 : ((etAt cs j).b != -1) = true := by unfold bne; rw [h3]; rfl
              have PX := PA (etAt cs j).b
              cases h2 : pref cs (etAt cs j).b
              · have R0 := Lib.hid (no3.out (ent_b_no h3 h2))
                rw [h2] at PX
                have PX := Lib.hid PX
                clear h1 h2 h3 PA
                go_wp2_with (first
                  | (go_at_call 79; refine (V.out _).mono ?_; rintro e w1 ⟨rfl, hB⟩; have B1 := Lib.hid (BB.out.trans (Below.mono hB BB.out.size)); have e1 := (B1.out.cell (p := ⟨b1, o1 + j * 3 + 1, none⟩) hb1).trans p1; have e2 := (B1.out.cell (p := ⟨b1, o1 + j * 3 + 2, none⟩) hb1).trans p2; have E1 := Lib.hid (entsIn_below C.out B1.out); clear hB)
                  | (go_at_call 80; refine (PX.out _ E1.out).mono ?_; rintro e w2 ⟨rfl, hB⟩; have B2 := Lib.hid (B1.out.trans (Below.mono hB B1.out.size)); have g2 := (B2.out.cell (p := ⟨b1, o1 + j * 3 + 2, none⟩) hb1).trans p2; clear hB))
                go_ret
                exact ⟨retB9 R0.out, B2.out⟩
              · have NX := Lib.hid (NX.out (ent_b_yes h1 h2))
                rw [h2] at PX
                have PX := Lib.hid PX
                clear h1 h2 h3 PA
                go_wp2_with (first
                  | (go_at_call 79; refine (V.out _).mono ?_; rintro e w1 ⟨rfl, hB⟩; have B1 := Lib.hid (BB.out.trans (Below.mono hB BB.out.size)); have e1 := (B1.out.cell (p := ⟨b1, o1 + j * 3 + 1, none⟩) hb1).trans p1; have e2 := (B1.out.cell (p := ⟨b1, o1 + j * 3 + 2, none⟩) hb1).trans p2; have E1 := Lib.hid (entsIn_below C.out B1.out); clear hB)
                  | (go_at_call 80; refine (PX.out _ E1.out).mono ?_; rintro e w2 ⟨rfl, hB⟩; have B2 := Lib.hid (B1.out.trans (Below.mono hB B1.out.size)); have g2 := (B2.out.cell (p := ⟨b1, o1 + j * 3 + 2, none⟩) hb1).trans p2; clear hB))
                go_loopw [5] (fun u wr => ∃ k : Nat, k ≤ j ∧ u = .int .i64 k ∧ hasN (enTo cs k) (etAt cs j).s = false ∧ Below w.heap.size w wr) (fun u _ => j - (intOf u).toNat)
                case atStart => exact ⟨0, Nat.zero_le _, rfl, rfl, B2.out⟩
                case round =>
                  obtain ⟨k, hk, rfl, hs, hB⟩ := hrel
                  have BB := Lib.hid hB
                  have S := Lib.hid hs
                  clear hs
                  by_cases hkl : k < j
                  · have hd : decide ((k : Int) < (j : Int)) = true := by simpa using hkl
                    obtain ⟨_, b2, o2, he, hb2, q0, _, _⟩ := C.out k (Nat.lt_trans hkl hjl)
                    cases he
                    have e0 := (hB.cell (p := ⟨b1, o1 + j * 3, none⟩) hb1).trans P0.out
                    have e1 := (hB.cell (p := ⟨b1, o1 + k * 3, none⟩) hb1).trans q0
                    have y1 : b1 < wr.heap.size := Nat.lt_of_lt_of_le hb1 hB.size
                    have i3 : (0 : Int) ≤ (k : Int) := by omega
                    have i4 : (k : Int) < (cs.length : Int) := by omega
                    have n2 : Hid (((etAt cs k).s == (etAt cs j).s) = true → catOk cs = false) := Lib.hid fun h => no2.out (ehasN_mono h j hkl)
                    have n3 : Hid (((etAt cs k).s == (etAt cs j).s) = false → hasN (enTo cs (k + 1)) (etAt cs j).s = false) := Lib.hid fun h => by rw [ehasN_next, S.out, h]; rfl
                    clear hB q0 hb2
                    cases hx : ((etAt cs k).s == (etAt cs j).s)
                    · have ht : ((etAt cs k).s.toList == (etAt cs j).s.toList) = false := by rw [← beq_toListBytes]; exact hx
                      go_wp2_with fail
                      refine region_bw (by kernel_rfl) (by kernel_rfl) ?_
                      repeat (go_big_quiet_step (fail))
                      refine wpQuiet_nil ?_; intro wq hq; replace hq := below_of_bw hq; obtain ⟨qc, qf, qz⟩ := bcell hq
                      go_wp2_with fail
                      exact ⟨⟨k + 1, hkl, by rw [Int.natCast_succ], n3.out hx, BB.out.trans (hq.mono BB.out.size)⟩, by (simp [intOf]) <;> omega⟩
                    · have ht : ((etAt cs k).s.toList == (etAt cs j).s.toList) = true := by rw [← beq_toListBytes]; exact hx
                      go_wp2_with fail
                      refine region_bw (by kernel_rfl) (by kernel_rfl) ?_
                      repeat (go_big_quiet_step (fail))
                      refine wpQuiet_nil ?_; intro wq hq; replace hq := below_of_bw hq; obtain ⟨qc, qf, qz⟩ := bcell hq
                      go_wp2_with fail
                      go_ret
                      exact ⟨retB9 (n2.out hx), BB.out.trans (hq.mono BB.out.size)⟩
                  · have e : k = j := by omega
                    subst e
                    have hd : decide ((k : Int) < (k : Int)) = false := by simp
                    clear hB
                    go_wp2
                    exact ⟨⟨k + 1, hjl, by rw [Int.natCast_succ], NX.out S.out, BB.out⟩, by (simp [intOf]) <;> omega⟩
            · have NX := Lib.hid (NX.out (ent_ab_yes h1 h3))
              have g3 : ((etAt cs j).b != -1) = false := by unfold bne; rw [h3]; rfl
              clear h1 h3 PA
              go_wp2_with (go_at_call 79; refine (V.out _).mono ?_; rintro e w1 ⟨rfl, hB⟩; have B2 := Lib.hid (BB.out.trans (Below.mono hB BB.out.size)); have e1 := (B2.out.cell (p := ⟨b1, o1 + j * 3 + 1, none⟩) hb1).trans p1; have e2 := (B2.out.cell (p := ⟨b1, o1 + j * 3 + 2, none⟩) hb1).trans p2; have E1 := Lib.hid (entsIn_below C.out B2.out); clear hB)
              go_loopw [5] (fun u wr => ∃ k : Nat, k ≤ j ∧ u = .int .i64 k ∧ hasN (enTo cs k) (etAt cs j).s = false ∧ Below w.heap.size w wr) (fun u _ => j - (intOf u).toNat)
              case atStart => exact ⟨0, Nat.zero_le _, rfl, rfl, B2.out⟩
              case round =>
                obtain ⟨k, hk, rfl, hs, hB⟩ := hrel
                have BB := Lib.hid hB
                have S := Lib.hid hs
                clear hs
                by_cases hkl : k < j
                · have hd : decide ((k : Int) < (j : Int)) = true := by simpa using hkl
                  obtain ⟨_, b2, o2, he, hb2, q0, _, _⟩ := C.out k (Nat.lt_trans hkl hjl)
                  cases he
                  have e0 := (hB.cell (p := ⟨b1, o1 + j * 3, none⟩) hb1).trans P0.out
                  have e1 := (hB.cell (p := ⟨b1, o1 + k * 3, none⟩) hb1).trans q0
                  have y1 : b1 < wr.heap.size := Nat.lt_of_lt_of_le hb1 hB.size
                  have i3 : (0 : Int) ≤ (k : Int) := by omega
                  have i4 : (k : Int) < (cs.length : Int) := by omega
                  have n2 : Hid (((etAt cs k).s == (etAt cs j).s) = true → catOk cs = false) := Lib.hid fun h => no2.out (ehasN_mono h j hkl)
                  have n3 : Hid (((etAt cs k).s == (etAt cs j).s) = false → hasN (enTo cs (k + 1)) (etAt cs j).s = false) := Lib.hid fun h => by rw [ehasN_next, S.out, h]; rfl
                  clear hB q0 hb2
                  cases hx : ((etAt cs k).s == (etAt cs j).s)
                  · have ht : ((etAt cs k).s.toList == (etAt cs j).s.toList) = false := by rw [← beq_toListBytes]; exact hx
                    go_wp2_with fail
                    refine region_bw (by kernel_rfl) (by kernel_rfl) ?_
                    repeat (go_big_quiet_step (fail))
                    refine wpQuiet_nil ?_; intro wq hq; replace hq := below_of_bw hq; obtain ⟨qc, qf, qz⟩ := bcell hq
                    go_wp2_with fail
                    exact ⟨⟨k + 1, hkl, by rw [Int.natCast_succ], n3.out hx, BB.out.trans (hq.mono BB.out.size)⟩, by (simp [intOf]) <;> omega⟩
                  · have ht : ((etAt cs k).s.toList == (etAt cs j).s.toList) = true := by rw [← beq_toListBytes]; exact hx
                    go_wp2_with fail
                    refine region_bw (by kernel_rfl) (by kernel_rfl) ?_
                    repeat (go_big_quiet_step (fail))
                    refine wpQuiet_nil ?_; intro wq hq; replace hq := below_of_bw hq; obtain ⟨qc, qf, qz⟩ := bcell hq
                    go_wp2_with fail
                    go_ret
                    exact ⟨retB9 (n2.out hx), BB.out.trans (hq.mono BB.out.size)⟩
                · have e : k = j := by omega
                  subst e
                  have hd : decide ((k : Int) < (k : Int)) = false := by simp
                  clear hB
                  go_wp2
                  exact ⟨⟨k + 1, hjl, by rw [Int.natCast_succ], NX.out S.out, BB.out⟩, by (simp [intOf]) <;> omega⟩
      · have e : j = cs.length := by omega
        subst e
        have hd : decide ((cs.length : Int) < (cs.length : Int)) = false := by simp
        clear hB
        have UT := Lib.hid S.out
        have RG := Lib.hid fun j (hj : j < cs.length) (h : up cs (cs.length + 1) j ≠ -1) => cat_ring (cs := cs) hj h
        have YS := Lib.hid fun (h : endS cs cs.length) => cat_yes hl S.out h
        clear S
        go_wp2
        go_loopw [6, 7, 8] (fun i x y wr => ∃ j : Nat, j ≤ cs.length ∧ i = .int .i64 j ∧ endS cs j ∧ Below w.heap.size w wr) (fun i _ _ _ => cs.length - (intOf i).toNat)
        case atStart => exact ⟨0, Nat.zero_le _, rfl, fun _ h => absurd h (Nat.not_lt_zero _), BB.out⟩
        case round =>
          obtain ⟨j, hj, rfl, hI, hB⟩ := hrel
          have B3 := Lib.hid hB
          have I0 := Lib.hid hI
          clear hB hI BB
          by_cases hjl : j < cs.length
          · have hd : decide ((j : Int) < (cs.length : Int)) = true := by simpa using hjl
            have NXT := Lib.hid fun (h : up cs (cs.length + 1) j = -1) => (show endS cs (j + 1) from fun k hk => by
              by_cases e : k = j
              · subst e; exact h
              · exact I0.out k (by omega))
            have RGJ := Lib.hid fun (h : up cs (cs.length + 1) j ≠ -1) => RG.out j hjl h
            clear RG YS I0
            go_wp2
            go_loopw [7, 8] (fun x y wr => ∃ k q : Nat, k ≤ cs.length ∧ y = .int .i64 k ∧ x = .int .i64 q ∧ q < cs.length ∧ up cs k j = q ∧ Below w.heap.size w wr) (fun _ y _ => cs.length - (intOf y).toNat)
            case atStart => exact ⟨0, j, Nat.zero_le _, rfl, rfl, hjl, rfl, B3.out⟩
            case round =>
              obtain ⟨k, q, hk, rfl, rfl, hql, hu, hB⟩ := hrel
              have B4 := Lib.hid hB
              have UQ := Lib.hid hu
              have hnx := Lib.hid (show up cs (k + 1) j = (etAt cs q).b by rw [up, hu, if_neg (by omega)]; simp)
              have EU := Lib.hid fun (h : (etAt cs q).b ≠ -1) => (show pref cs (etAt cs q).b = true from by
                have h2 := (eTo_at UT.out hql).2
                unfold entOk at h2
                simp only [Bool.and_eq_true, Bool.or_eq_true, beq_iff_eq] at h2
                exact h2.1.2.resolve_left h)
              obtain ⟨_, b1, o1, rfl, hb1, p0, p1, p2⟩ := C.out q hql
              have d2 := (hB.cell (p := ⟨b1, o1 + q * 3 + 2, none⟩) hb1).trans p2
              have i1 : (0 : Int) ≤ (q : Int) := by omega
              have i2 : (q : Int) < (cs.length : Int) := by omega
              clear hB p0 p1 p2 hu
              by_cases hb : (etAt cs q).b = -1
              · have g3 : ((etAt cs q).b != -1) = false := by simpa using hb
                have hend : up cs (cs.length + 1) j = -1 := by
                  have := up_stay (hnx.out.trans hb) (cs.length - k)
                  rwa [show k + 1 + (cs.length - k) = cs.length + 1 by omega] at this
                have N2 := Lib.hid (NXT.out hend)
                clear hb hend
                go_wp2
                exact ⟨⟨j + 1, hjl, by rw [Int.natCast_succ], N2.out, B4.out⟩, by (simp [intOf]) <;> omega⟩
              · have g3 : ((etAt cs q).b != -1) = true := by simpa using hb
                by_cases hkn : k = cs.length
                · have g4 : ((k : Int) == (cs.length : Int)) = true := by rw [beq_iff_eq]; omega
                  have R0 := Lib.hid (RGJ.out (by rw [← hkn, hnx.out]; exact hb))
                  clear hb hkn
                  go_wp2
                  go_ret
                  exact ⟨retB9 R0.out, B4.out⟩
                · have g4 : ((k : Int) == (cs.length : Int)) = false := by simp; omega
                  have hp := pref_iff.1 (EU.out hb)
                  have HN := Lib.hid hnx.out
                  generalize (etAt cs q).b = z at *
                  obtain ⟨r, rfl⟩ : ∃ r : Nat, z = (r : Int) := ⟨z.toNat, by omega⟩
                  have hrl : r < cs.length := by omega
                  clear hb hp
                  go_wp2
                  exact ⟨⟨k + 1, r, by omega, by rw [Int.natCast_succ], rfl, hrl, HN.out, B4.out⟩, by (simp [intOf]) <;> omega⟩
          · have e : j = cs.length := by omega
            subst e
            have hd : decide ((cs.length : Int) < (cs.length : Int)) = false := by simp
            go_wp2
            go_ret
            exact ⟨retB9 (YS.out I0.out), B3.out⟩
  · have hg : decide ((40 : Int) < (cs.length : Int)) = true := by simp; omega
    go_enter Tryd.func48, Tryd.ntmps48
    go_wp2
    go_ret
    exact ⟨retB9 (cat_long hl), Below.refl _ _⟩
end Go.Proofs.YtppjmngnjdeigaaDoor
