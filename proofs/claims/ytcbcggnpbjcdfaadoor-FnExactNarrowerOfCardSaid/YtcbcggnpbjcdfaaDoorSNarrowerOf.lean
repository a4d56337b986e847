/- Contract: NarrowerOf, the model's. -/
import Derived.Test.YtcbcggnpbjcdfaaDoorINarrowerOf
namespace Go.Proofs.YtcbcggnpbjcdfaaDoor
open Go.ChangeShapes Go.WideShapes Go.ChangeAt Go.RowKit

set_option maxRecDepth 100000 in
set_option maxHeartbeats 1600000 in
theorem sNarrowerOf_any (ad : Option Addr) (cs : List Et) (c : Nat) (x : Int) (w : World) (hc : EntsIn w ad cs) :
    Calls Tryd.prog 31 #[.slice ad cs.length c, .int .i64 x] w (narrowerOfR cs x w) := by
  obtain ⟨i0, hi, hz0, hz1, hz2⟩ := info_parts info_i64
  have C := Lib.hid hc
  have A := sAt_any ad cs c x w hc
  clear hc
  cases hz : catOk cs
  · rw [atC_bad x hz] at A
    rw [narrowerOfR_bad x hz]
    have A := Lib.hid A
    clear hz
    go_enter Tryd.func31, Tryd.ntmps31
    go_wp2_with (go_at_call 57; refine A.out.mono ?_; rintro e w1 ⟨rfl, hB⟩; have b1 := Lib.hid hB; clear hB)
    go_ret2
    exact ⟨_, rfl, ownI_none rfl b1.out.size, below_new b1.out _⟩
  cases hx : hasX cs.length x
  · rw [atC_none hz hx] at A
    rw [narrowerOfR_none hz hx]
    have A := Lib.hid A
    clear hz hx
    go_enter Tryd.func31, Tryd.ntmps31
    go_wp2_with (go_at_call 57; refine A.out.mono ?_; rintro e w1 ⟨rfl, hB⟩; have b1 := Lib.hid hB; clear hB)
    go_ret2
    exact ⟨_, rfl, ownI_none rfl b1.out.size, below_new b1.out _⟩
  rw [atC_ok hz hx] at A
  rw [narrowerOfR_ok hz hx]
  have A := Lib.hid A
  have hn := (cat_parts hz).1
  obtain ⟨q1, q2⟩ := hasX_yes hx
  have F := fun W (h : EntsIn W ad cs) => sFirst_any ad cs c x.toNat (by omega) W h
  rw [show ((x.toNat : Nat) : Int) = x by omega] at F
  generalize firstE cs x.toNat = p at *
  have F := Lib.hid F
  have CZ := Lib.hid hz
  clear hz hx q1 q2
  go_enter Tryd.func31, Tryd.ntmps31
  go_wp2_with (first
    | (go_at_call 57; refine A.out.mono ?_; rintro e w1 ⟨rfl, hB⟩; have b1 := Lib.hid hB; clear hB)
    | (go_at_call 58; refine (F.out _ (entsIn_below C.out b1.out)).mono ?_; rintro e w2 ⟨rfl, hB⟩; have b2 := Lib.hid (b1.out.trans (hB.mono b1.out.size)); clear hB))
  go_loopw [8, 9] (fun v i wr => ∃ j : Nat, j ≤ cs.length ∧ i = .int .i64 j ∧ OwnInts w.heap.size (pick (narF cs p) j) v wr ∧ Below w.heap.size w wr) (fun _ i _ => cs.length - (intOf i).toNat)
  case atStart => exact ⟨0, Nat.zero_le _, rfl, ownI_none rfl b2.out.size, below_new b2.out _⟩
  case round =>
    obtain ⟨j, hj, rfl, hO, hB⟩ := hrel
    have BB := Lib.hid hB
    have OO := Lib.hid hO
    clear hO
    by_cases hjl : j < cs.length
    · have hd : decide ((j : Int) < (cs.length : Int)) = true := by simpa using hjl
      have i1 : (0 : Int) ≤ (j : Int) := by omega
      have i2 : (j : Int) < (cs.length : Int) := by omega
      have hl := pick_len (narF cs p) j
      have no := Lib.hid fun (h : narF cs p j = false) => pick_no h
      have ys := Lib.hid fun (h : narF cs p j = true) => pick_yes h
      clear hB
      cases ha : narF cs p j
      · have nx := Lib.hid (no.out ha)
        have HA := Lib.hid ha
        clear no ys ha
        go_wp2_with (first
          | (go_at_call 66; have X := sBelow_any ad cs c j hjl CZ.out p wr (entsIn_below C.out BB.out); rw [HA.out] at X; refine X.mono ?_; rintro e w4 ⟨rfl, hB4⟩; have OO4 := Lib.hid (ownInts_kept OO.out hB4); have B4 := Lib.hid (BB.out.trans (hB4.mono BB.out.size)); have z4 := B4.out.size; clear X hB4))
        exact ⟨⟨j + 1, hjl, by rw [Int.natCast_succ], by rw [nx.out]; exact OO4.out, B4.out⟩, by (simp [intOf]) <;> omega⟩
      · have nx := Lib.hid (ys.out ha)
        have HA := Lib.hid ha
        clear no ys ha
        go_wp2_with (first
          | (go_at_call 66; have X := sBelow_any ad cs c j hjl CZ.out p wr (entsIn_below C.out BB.out); rw [HA.out] at X; refine X.mono ?_; rintro e w4 ⟨rfl, hB4⟩; have OO4 := Lib.hid (ownInts_kept OO.out hB4); have B4 := Lib.hid (BB.out.trans (hB4.mono BB.out.size)); have z4 := B4.out.size; clear X hB4)
          | (at_builtin; refine wpList_append_own _ rfl _ _ 35 rfl w.heap.size 2 i0 (.int .i64 0) 1 8 Tryd.underlying35 hi hz0 hz1 hz2 rfl (by decide) _ _ _ rfl (World.ownsRow.alloc OO4.out _) ⟨w4.heap.size, 0, none⟩ 1 1 [.int .i64 (j : Int)] rfl rfl (one_newS _ _ _) (fun x hx => by simp at hx; subst hx; rfl) (by unfold maxLen; omega) (by omega) (by simp; omega) ?_; intro v' w5 hown hgrow _; have P := Lib.hid (ownI_push hown); have G := Lib.hid hgrow; clear hown hgrow))
        exact ⟨⟨j + 1, hjl, by rw [Int.natCast_succ], by rw [nx.out]; exact P.out, Below.grown (B4.out.alloc z4 _) G.out (by simp; omega) (ownI_lt OO4.out)⟩, by (simp [intOf]) <;> omega⟩
    · have e : j = cs.length := by omega
      subst e
      have hd : decide ((cs.length : Int) < (cs.length : Int)) = false := by simp
      clear hB
      go_wp2
      go_ret2
      exact ⟨_, rfl, OO.out, BB.out⟩
end Go.Proofs.YtcbcggnpbjcdfaaDoor
