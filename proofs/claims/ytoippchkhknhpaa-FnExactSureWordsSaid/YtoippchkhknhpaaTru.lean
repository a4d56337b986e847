/- Contracts: the lists that have all words (TrueOf), the program's and the model's. -/
import Derived.Test.YtoippchkhknhpaaHas
import Derived.Test.YtoippchkhknhpaaIdx
import Derived.Test.YtoippchkhknhpaaLotI
import Derived.Test.YtoippchkhknhpaaMayW
import Derived.Laws.MakeOwn
namespace Go.Proofs.Ytoippchkhknhpaa
open Go.ChangeShapes Go.WideShapes Go.ChangeAt Go.RowKit

/-- Has the list with an index all words? -/
def trueAt (ls : List (List ByteArray)) (zs : List ByteArray) (k : Nat) : Bool := allN (lsAt ls k) zs zs.length
/-- The code of a lot and words. -/
def lwC (ls : List (List ByteArray)) (zs : List ByteArray) : Int := if lotOk ls = true then wordsC zs 12 else 2
theorem lwC_lot {ls : List (List ByteArray)} (zs : List ByteArray) (h : lotOk ls = false) : lwC ls zs = 2 := by unfold lwC; rw [h]; rfl
theorem lwC_words {ls : List (List ByteArray)} {zs : List ByteArray} (h : lotOk ls = true) : lwC ls zs = wordsC zs 12 := by unfold lwC; rw [if_pos h]
theorem lot_60 {ls : List (List ByteArray)} (h : lotOk ls = true) : ls.length ≤ 60 := (of_decide_eq_true h).1

set_option maxRecDepth 100000 in
set_option maxHeartbeats 3200000 in
theorem iTrue_any (al : Option Addr) (ls : List (List ByteArray)) (cl : Nat) (ad : Option Addr) (zs : List ByteArray) (cap : Nat) (w : World) (hL : LotIn w al ls) (h : StrsIn w ad zs) (hf : Fit zs) (hn : ls.length ≤ 9223372036854775807) (hl : zs.length ≤ 9223372036854775807) :
    Calls Try.prog 26 #[.slice al ls.length cl, .slice ad zs.length cap] w (MwR (lwC ls zs) (mayL (lwC ls zs) (idx (trueAt ls zs) ls.length)) w) := by
  have V := iIsLot_any al ls cl w hL hn
  have S := iAreWords_any ad zs cap 12 w h hf hl
  have H := Lib.hid h
  have LL := Lib.hid hL
  clear h hL hf
  cases h1 : lotOk ls
  · rw [h1] at V
    rw [lwC_lot zs h1, mayL_no (by decide)]
    have V := Lib.hid V
    clear S h1
    go_enter Try.func26, Try.ntmps26
    go_wp2_with (go_at_call 73; refine V.out.mono ?_; rintro e w1 ⟨rfl, rfl⟩)
    go_ret2
    exact ⟨_, rfl, u_nil _ _, Below.refl _ _⟩
  · rw [h1] at V
    have V := Lib.hid V
    have n60 := lot_60 h1
    rw [lwC_words h1]
    clear h1
    cases h2 : wordsOk zs 12
    · rw [h2] at S
      rw [wordsC_no h2, mayL_no (by decide)]
      have S := Lib.hid S
      clear h2
      go_enter Try.func26, Try.ntmps26
      go_wp2_with (first | (go_at_call 73; refine V.out.mono ?_; rintro e w1 ⟨rfl, rfl⟩) | (go_at_call 78; refine S.out.mono ?_; rintro e w1 ⟨rfl, rfl⟩))
      go_ret2
      exact ⟨_, rfl, u_nil _ _, Below.refl _ _⟩
    · rw [h2] at S
      rw [wordsC_yes h2, mayL_yes]
      have S := Lib.hid S
      obtain ⟨i0, hi, hz0, hz1, hz2⟩ := info_parts info_i64
      clear h2
      go_enter Try.func26, Try.ntmps26
      go_wp2_with (first | (go_at_call 73; refine V.out.mono ?_; rintro e w1 ⟨rfl, rfl⟩) | (go_at_call 78; refine S.out.mono ?_; rintro e w1 ⟨rfl, rfl⟩))
      clear V S
      go_loopw [6, 19] (fun v i wr => ∃ j : Nat, j ≤ ls.length ∧ i = .int .i64 j ∧ OwnInts w.heap.size (idx (trueAt ls zs) j) v wr ∧ Below w.heap.size w wr) (fun _ i _ => ls.length - (intOf i).toNat)
      case atStart => exact ⟨0, Nat.zero_le _, rfl, u_nil _ _, Below.refl _ _⟩
      case round =>
        obtain ⟨j, hj, rfl, O, hB⟩ := hrel
        have BB := Lib.hid hB
        have OO := Lib.hid O
        clear O
        by_cases hjl : j < ls.length
        · have hd : decide ((j : Int) < (ls.length : Int)) = true := by simpa using hjl
          obtain ⟨b1, o1, sa, sc, rfl, hb1, p0, p1, _, p3⟩ := LL.out j hjl
          have d0 := (hB.cell (p := ⟨b1, o1 + j, none⟩) hb1).trans p0
          have i3 : (0 : Int) ≤ (j : Int) := by omega
          have i4 : (j : Int) < (ls.length : Int) := by omega
          unfold maxLen at p3
          have C := iHasAll_any sa (lsAt ls j) sc ad zs cap wr (strsIn_below p1 hB) (strsIn_below H.out hB) (by omega) hl
          change Calls _ _ _ _ (fun e w' => e = .returned (.bool (trueAt ls zs j)) ∧ wr = w') at C
          have yes := Lib.hid fun h => idx_yes (p := trueAt ls zs) (k := j) h
          have no := Lib.hid fun h => idx_no (p := trueAt ls zs) (k := j) h
          have al := idx_len (trueAt ls zs) j
          have s1 := hB.size
          clear hB p0 p1 p3
          generalize idx (trueAt ls zs) j = xs at *
          generalize trueAt ls zs j = q at *
          generalize lsAt ls j = x at *
          cases q
          · have NO := Lib.hid (no.out rfl)
            have C := Lib.hid C
            clear yes no
            go_wp2_with (go_at_call 79; refine C.out.mono ?_; rintro e w1 ⟨rfl, rfl⟩)
            exact ⟨⟨j + 1, hjl, by rw [Int.natCast_succ], by rw [NO.out]; exact OO.out, BB.out⟩, by (simp [intOf]) <;> omega⟩
          · have YE := Lib.hid (yes.out rfl)
            have C := Lib.hid C
            clear yes no
            go_wp2_with (first
              | (go_at_call 79; refine C.out.mono ?_; rintro e w1 ⟨rfl, rfl⟩)
              | (at_builtin; refine wpList_append_own _ rfl _ _ 39 rfl w.heap.size 2 i0 (.int .i64 0) 1 8 Try.underlying39 hi hz0 hz1 hz2 rfl (by decide) _ _ _ rfl (OO.out.alloc _) ⟨wr.heap.size, 0, none⟩ 1 1 [.int .i64 (j : Int)] rfl rfl (u_one_new _ _ _) (fun x hx => by simp at hx; subst hx; rfl) (by unfold maxLen; omega) (by omega) (by simp; omega) ?_; intro v' w4 hown hgrow _; have P := Lib.hid (u_push hown); have G := Lib.hid hgrow; clear hown hgrow))
            exact ⟨⟨j + 1, hjl, by rw [Int.natCast_succ], by rw [YE.out]; exact P.out, Below.grown (BB.out.alloc s1 _) G.out (by simp; omega) (fun k hk => u_lt OO.out k hk)⟩, by (simp [intOf]) <;> omega⟩
        · have e : j = ls.length := by omega
          subst e
          have hd : decide ((ls.length : Int) < (ls.length : Int)) = false := by simp
          clear hB
          go_wp2
          go_ret2
          exact ⟨_, rfl, OO.out, BB.out⟩

/-! ### The model's -/
theorem allN_step_no {xs zs : List ByteArray} {k : Nat} (h : allN xs zs k = false) : allN xs zs (k + 1) = false := by show (_ && _) = false; rw [h]; rfl
theorem allN_step {xs zs : List ByteArray} {k : Nat} {q : Bool} (h : allN xs zs k = true) (h2 : hasN xs (zs.getD k ⟨#[]⟩) = q) : allN xs zs (k + 1) = q := by show (_ && _) = q; rw [h, h2]; rfl

set_option maxRecDepth 100000 in
set_option maxHeartbeats 3200000 in
theorem sTrueL_any (al : Option Addr) (ls : List (List ByteArray)) (cl : Nat) (ad : Option Addr) (zs : List ByteArray) (cap : Nat) (w : World) (hL : LotIn w al ls) (h : StrsIn w ad zs) (hn : ls.length ≤ 60) (hl : zs.length ≤ 9223372036854775807) :
    Calls Try.prog 77 #[.slice al ls.length cl, .slice ad zs.length cap] w (NumR (idx (trueAt ls zs) ls.length) w) := by
  have H := Lib.hid h
  have LL := Lib.hid hL
  clear h hL
  obtain ⟨i0, hi, hz0, hz1, hz2⟩ := info_parts info_i64
  have hbw := cell_bw
  go_enter Try.func77, Try.ntmps77
  go_wp2
  go_loopw [5, 6] (fun v i wr => ∃ j : Nat, j ≤ ls.length ∧ i = .int .i64 j ∧ OwnInts w.heap.size (idx (trueAt ls zs) j) v wr ∧ Below w.heap.size w wr) (fun _ i _ => ls.length - (intOf i).toNat)
  case atStart => exact ⟨0, Nat.zero_le _, rfl, u_none rfl (Nat.le_refl _), below_new (Below.refl _ _) _⟩
  case round =>
    obtain ⟨j, hj, rfl, O, hB⟩ := hrel
    have B0 := Lib.hid hB
    have OO := Lib.hid O
    clear O
    by_cases hjl : j < ls.length
    · have hd : decide ((j : Int) < (ls.length : Int)) = true := by simpa using hjl
      obtain ⟨b1, o1, sa, sc, rfl, hb1, p0, p1, _, p3⟩ := LL.out j hjl
      have yes : Hid (allN (lsAt ls j) zs zs.length = true → idx (trueAt ls zs) (j + 1) = idx (trueAt ls zs) j ++ [(j : Int)]) := Lib.hid fun h => idx_yes (p := trueAt ls zs) (k := j) h
      have no : Hid (allN (lsAt ls j) zs zs.length = false → idx (trueAt ls zs) (j + 1) = idx (trueAt ls zs) j) := Lib.hid fun h => idx_no (p := trueAt ls zs) (k := j) h
      have al := idx_len (trueAt ls zs) j
      have i3 : (0 : Int) ≤ (j : Int) := by omega
      have i4 : (j : Int) < (ls.length : Int) := by omega
      have QB := Lib.hid p1
      have P0 := Lib.hid p0
      have P3 := Lib.hid (show (lsAt ls j).length ≤ 9223372036854775807 by unfold maxLen at p3; omega)
      clear hB p0 p1 p3
      generalize idx (trueAt ls zs) j = xs at *
      generalize lsAt ls j = x at *
      go_wp2
      go_loopw [7, 8] (fun q i w2 => ∃ k : Nat, k ≤ zs.length ∧ i = .int .i64 k ∧ q = .bool (allN x zs k) ∧ Below wr.heap.size wr w2) (fun _ i _ => zs.length - (intOf i).toNat)
      case atStart => exact ⟨0, Nat.zero_le _, rfl, rfl, Below.refl _ _⟩
      case round =>
        obtain ⟨k, hk, rfl, rfl, hB2⟩ := hrel
        have B2 := Lib.hid hB2
        have BT := B0.out.trans (hB2.mono B0.out.size)
        clear hB2
        by_cases hkl : k < zs.length
        · have hd2 : decide ((k : Int) < (zs.length : Int)) = true := by simpa using hkl
          obtain ⟨b2, o2, rfl, hb2, r0⟩ := H.out k hkl
          have e1 := (BT.cell (p := ⟨b1, o1 + j, none⟩) hb1).trans P0.out
          have e2 := (BT.cell (p := ⟨b2, o2 + k, none⟩) hb2).trans r0
          have y1 : b1 < wr.heap.size := Nat.lt_of_lt_of_le hb1 BT.size
          have y2 : b2 < wr.heap.size := Nat.lt_of_lt_of_le hb2 BT.size
          have i5 : (0 : Int) ≤ (k : Int) := by omega
          have i6 : (k : Int) < (zs.length : Int) := by omega
          have QW := strsIn_below QB.out BT
          have C := fun W (h : Below wr.heap.size wr W) => sHasS_any sa x sc (zs.getD k ⟨#[]⟩) W (strsIn_below QW h) P3.out
          have S0 := Lib.hid fun h => allN_step_no (xs := x) (zs := zs) (k := k) h
          have S1 := Lib.hid fun h => allN_step (xs := x) (zs := zs) (k := k) (q := hasN x (zs.getD k ⟨#[]⟩)) h rfl
          generalize allN x zs k = a0 at *
          generalize hasN x (zs.getD k ⟨#[]⟩) = hh at *
          generalize zs.getD k ⟨#[]⟩ = s at *
          have C := Lib.hid C
          clear r0 QW BT
          cases a0
          · have SS := Lib.hid (S0.out rfl)
            clear S0 S1 C
            go_wp2_with fail
            refine region_bw (by kernel_rfl) (by kernel_rfl) ?_
            repeat (go_big_quiet_step (fail))
            refine wpQuiet_nil ?_; intro wq hq; replace hq := below_of_bw hq; obtain ⟨qc, qf, qz⟩ := bcell hq
            go_wp2_with fail
            exact ⟨⟨k + 1, hkl, by rw [Int.natCast_succ], by rw [SS.out], B2.out.trans (hq.mono B2.out.size)⟩, by (simp [intOf]) <;> omega⟩
          · have SS := Lib.hid (S1.out rfl)
            clear S0 S1
            go_wp2_with fail
            refine region_bw (by kernel_rfl) (by kernel_rfl) ?_
            repeat (go_big_quiet_step (first | (go_at_call 112; exact calls_bw_same (C.out _ (below_bw _ _)))))
            refine wpQuiet_nil ?_; intro wq hq; replace hq := below_of_bw hq; obtain ⟨qc, qf, qz⟩ := bcell hq
            go_wp2_with fail
            exact ⟨⟨k + 1, hkl, by rw [Int.natCast_succ], by rw [SS.out], B2.out.trans (hq.mono B2.out.size)⟩, by (simp [intOf]) <;> omega⟩
        · have e : k = zs.length := by omega
          subst e
          have hd2 : decide ((zs.length : Int) < (zs.length : Int)) = false := by simp
          have O2 := Lib.hid (ownInts_kept OO.out B2.out)
          have BX := Lib.hid BT
          have s1 := BT.size
          clear BT
          generalize allN x zs zs.length = q at *
          cases q
          · have NO := Lib.hid (no.out rfl)
            clear yes no
            go_wp2
            exact ⟨⟨j + 1, hjl, by rw [Int.natCast_succ], by rw [NO.out]; exact O2.out, BX.out⟩, by (simp [intOf]) <;> omega⟩
          · have YE := Lib.hid (yes.out rfl)
            clear yes no
            go_wp2_with (at_builtin; refine wpList_append_own _ rfl _ _ 39 rfl w.heap.size 2 i0 (.int .i64 0) 1 8 Try.underlying39 hi hz0 hz1 hz2 rfl (by decide) _ _ _ rfl (O2.out.alloc _) ⟨wr.heap.size, 0, none⟩ 1 1 [.int .i64 (j : Int)] rfl rfl (u_one_new _ _ _) (fun x hx => by simp at hx; subst hx; rfl) (by unfold maxLen; omega) (by omega) (by simp; omega) ?_; intro v' w4 hown hgrow _; have P := Lib.hid (u_push hown); have G := Lib.hid hgrow; clear hown hgrow)
            exact ⟨⟨j + 1, hjl, by rw [Int.natCast_succ], by rw [YE.out]; exact P.out, Below.grown (BX.out.alloc s1 _) G.out (by simp; omega) (fun k hk => u_lt O2.out k hk)⟩, by (simp [intOf]) <;> omega⟩
    · have e : j = ls.length := by omega
      subst e
      have hd : decide ((ls.length : Int) < (ls.length : Int)) = false := by simp
      clear hB
      go_wp2
      go_ret
      exact ⟨_, rfl, OO.out, B0.out⟩

set_option maxRecDepth 100000 in
set_option maxHeartbeats 1600000 in
theorem sTrue_any (al : Option Addr) (ls : List (List ByteArray)) (cl : Nat) (ad : Option Addr) (zs : List ByteArray) (cap : Nat) (w : World) (hL : LotIn w al ls) (h : StrsIn w ad zs) (hf : Fit zs) (hn : ls.length ≤ 9223372036854775807) (hl : zs.length ≤ 9223372036854775807) :
    Calls Try.prog 24 #[.slice al ls.length cl, .slice ad zs.length cap] w (MwR (lwC ls zs) (mayL (lwC ls zs) (idx (trueAt ls zs) ls.length)) w) := by
  have V := sLot_any al ls cl w hL hn
  have S := sWords_any ad zs cap 12 w h hf hl
  cases h1 : lotOk ls
  · rw [lotC_no h1] at V
    rw [lwC_lot zs h1, mayL_no (by decide)]
    have V := Lib.hid V
    clear S h1 h hL hf
    go_enter Try.func24, Try.ntmps24
    go_wp2_with (go_at_call 70; refine V.out.mono ?_; rintro e w1 ⟨rfl, rfl⟩)
    go_ret2
    exact ⟨_, rfl, u_none rfl (Nat.le_refl _), below_new (Below.refl _ _) _⟩
  · rw [lotC_yes h1] at V
    have V := Lib.hid V
    have n60 := lot_60 h1
    rw [lwC_words h1]
    clear h1
    cases h2 : wordsOk zs 12
    · rw [wordsC_no h2] at S
      rw [wordsC_no h2, mayL_no (by decide)]
      have S := Lib.hid S
      clear h2 h hL hf
      go_enter Try.func24, Try.ntmps24
      go_wp2_with (first | (go_at_call 70; refine V.out.mono ?_; rintro e w1 ⟨rfl, rfl⟩) | (go_at_call 76; refine S.out.mono ?_; rintro e w1 ⟨rfl, rfl⟩))
      go_ret2
      exact ⟨_, rfl, u_none rfl (Nat.le_refl _), below_new (Below.refl _ _) _⟩
    · rw [wordsC_yes h2] at S
      rw [wordsC_yes h2, mayL_yes]
      have S := Lib.hid S
      have T := sTrueL_any al ls cl ad zs cap w hL h n60 hl
      generalize idx (trueAt ls zs) ls.length = xs at *
      have T := Lib.hid T
      clear h2 h hL hf n60
      go_enter Try.func24, Try.ntmps24
      go_wp2_with (first | (go_at_call 70; refine V.out.mono ?_; rintro e w1 ⟨rfl, rfl⟩) | (go_at_call 76; refine S.out.mono ?_; rintro e w1 ⟨rfl, rfl⟩) | (go_at_call 77; refine T.out.mono ?_; rintro e w2 ⟨v, rfl, hO, hB⟩; have O := Lib.hid hO; have B := Lib.hid hB; clear hO hB))
      go_ret2
      exact ⟨_, rfl, O.out, B.out⟩
end Go.Proofs.Ytoippchkhknhpaa
