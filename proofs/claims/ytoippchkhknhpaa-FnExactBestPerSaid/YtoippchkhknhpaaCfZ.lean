/- Several texts in one, as a claim has at most 60 files: Idx Tru Msk Cnc Drg Dof DofS Fls FlsS Fof Dif Cnt CntS Cf MkM LotW. -/
import Derived.Test.YtoippchkhknhpaaOwns
import Derived.Test.YtoippchkhknhpaaAdd
import Derived.Test.YtoippchkhknhpaaHas
import Derived.Test.YtoippchkhknhpaaLotI
import Derived.Test.YtoippchkhknhpaaMayW
import Derived.Laws.MakeOwn
import Derived.Test.YtoippchkhknhpaaMayI
import Derived.Lib.AppendZerosOnto
import Derived.Lib.SliceRun
import Derived.Test.YtoippchkhknhpaaRngO
import Derived.Test.YtoippchkhknhpaaHole
import Derived.Test.YtoippchkhknhpaaBoxes
import Derived.RangeFuncBox
import Derived.Test.YtoippchkhknhpaaArM
import Derived.Shelf.Abstract
import Derived.Shelf.RegionOpen
import Derived.Test.YtoippchkhknhpaaMake1Y
import Derived.Carry
import Derived.Test.YtoippchkhknhpaaMskL
import Derived.Test.YtoippchkhknhpaaOth
import Derived.Test.YtoippchkhknhpaaLot
import Derived.Test.YtoippchkhknhpaaMarkS
namespace Go.Proofs.Ytoippchkhknhpaa
open Go.ChangeShapes Go.WideShapes Go.ChangeAt Go.RowKit

/-- The indices below k for which a test says yes. -/
def idx (p : Nat → Bool) : Nat → List Int
  | 0 => []
  | k + 1 => if p k then idx p k ++ [(k : Int)] else idx p k
theorem idx_yes {p : Nat → Bool} {k : Nat} (h : p k = true) : idx p (k + 1) = idx p k ++ [(k : Int)] := by show (if _ then _ else _) = _; rw [if_pos h]
theorem idx_no {p : Nat → Bool} {k : Nat} (h : p k = false) : idx p (k + 1) = idx p k := by show (if _ then _ else _) = _; rw [if_neg (by rw [h]; decide)]
theorem idx_len (p : Nat → Bool) : ∀ k, (idx p k).length ≤ k
  | 0 => Nat.le_refl _
  | k + 1 => by
    have := idx_len p k
    cases h : p k
    · rw [idx_no h]; omega
    · rw [idx_yes h, List.length_append]; simp; omega
theorem idx_mem (p : Nat → Bool) (x : Int) : ∀ k, x ∈ idx p k ↔ ∃ j : Nat, j < k ∧ p j = true ∧ x = (j : Int)
  | 0 => by simp [idx]
  | k + 1 => by
    have ih := idx_mem p x k
    cases h : p k
    · rw [idx_no h, ih]
      constructor
      · rintro ⟨j, h1, h2, h3⟩; exact ⟨j, by omega, h2, h3⟩
      · rintro ⟨j, h1, h2, h3⟩
        refine ⟨j, ?_, h2, h3⟩
        rcases Nat.lt_succ_iff_lt_or_eq.1 h1 with q | q
        · exact q
        · subst q; rw [h] at h2; cases h2
    · rw [idx_yes h, List.mem_append, ih]
      constructor
      · rintro (⟨j, h1, h2, h3⟩ | hx)
        · exact ⟨j, by omega, h2, h3⟩
        · exact ⟨k, by omega, h, by simpa using hx⟩
      · rintro ⟨j, h1, h2, h3⟩
        rcases Nat.lt_succ_iff_lt_or_eq.1 h1 with q | q
        · exact .inl ⟨j, q, h2, h3⟩
        · subst q; exact .inr (by simp [h3])
theorem idx_congr {p q : Nat → Bool} : ∀ {k : Nat}, (∀ j, j < k → p j = q j) → idx p k = idx q k
  | 0, _ => rfl
  | k + 1, h => by
    have ih := idx_congr (p := p) (q := q) (k := k) fun j hj => h j (by omega)
    have hk := h k (Nat.lt_succ_self k)
    cases hp : p k
    · rw [idx_no hp, idx_no (hk ▸ hp), ih]
    · rw [idx_yes hp, idx_yes (hk ▸ hp), ih]

/-- Are the holes x, y within a mask? -/
def wm (x y : Int) (m : Int × Int) : Bool := bits .and .u64 x m.1 == x && bits .and .u64 y m.2 == y
/-- The masks that have the holes x, y. -/
def dropsAt (x y : Int) (ms : List (Int × Int)) (k : Nat) : Bool := wm x y (ms.getD k (0, 0))
end Go.Proofs.Ytoippchkhknhpaa

namespace Go.Proofs.Ytoippchkhknhpaa
open Go.ChangeShapes Go.WideShapes Go.ChangeAt Go.RowKit

/-- Has the list with an index all words? -/
def trueAt (ls : List (List ByteArray)) (zs : List ByteArray) (k : Nat) : Bool := allN (lsAt ls k) zs zs.length
/-- The code of a lot and words. -/
def lwC (ls : List (List ByteArray)) (zs : List ByteArray) : Int := if lotOk ls = true then wordsC zs 12 else 2
theorem lwC_lot {ls : List (List ByteArray)} (zs : List ByteArray) (h : lotOk ls = false) : lwC ls zs = 2 := by unfold lwC; rw [h]; rfl
theorem lwC_words {ls : List (List ByteArray)} {zs : List ByteArray} (h : lotOk ls = true) : lwC ls zs = wordsC zs 12 := by unfold lwC; rw [if_pos h]
theorem lot_60 {ls : List (List ByteArray)} (h : lotOk ls = true) : ls.length ≤ 60 := (of_decide_eq_true h).1

set_option maxRecDepth 100000 in
set_option maxHeartbeats 3200000 in
theorem iTrue_any (al : Option Addr) (ls : List (List ByteArray)) (cl : Nat) (ad : Option Addr) (zs : List ByteArray) (cap : Nat) (w : World) (hL : LotIn w al ls) (h : StrsIn w ad zs) (hf : Fit zs) (hn : ls.length ≤ 9223372036854775807) (hl : zs.length ≤ 9223372036854775807) :
    Calls Try.prog 26 #[.slice al ls.length cl, .slice ad zs.length cap] w (MwR (lwC ls zs) (mayL (lwC ls zs) (idx (trueAt ls zs) ls.length)) w) := by
  have V := iIsLot_any al ls cl w hL hn
  have S := iAreWords_any ad zs cap 12 w h hf hl
  have H := Lib.hid h
  have LL := Lib.hid hL
  clear h hL hf
  cases h1 : lotOk ls
  · rw [h1] at V
    rw [lwC_lot zs h1, mayL_no (by decide)]
    have V := Lib.hid V
    clear S h1
    go_enter Try.func26, Try.ntmps26
    go_wp2_with (go_at_call 73; refine V.out.mono ?_; rintro e w1 ⟨rfl, rfl⟩)
    go_ret2
    exact ⟨_, rfl, u_nil _ _, Below.refl _ _⟩
  · rw [h1] at V
    have V := Lib.hid V
    have n60 := lot_60 h1
    rw [lwC_words h1]
    clear h1
    cases h2 : wordsOk zs 12
    · rw [h2] at S
      rw [wordsC_no h2, mayL_no (by decide)]
      have S := Lib.hid S
      clear h2
      go_enter Try.func26, Try.ntmps26
      go_wp2_with (first | (go_at_call 73; refine V.out.mono ?_; rintro e w1 ⟨rfl, rfl⟩) | (go_at_call 78; refine S.out.mono ?_; rintro e w1 ⟨rfl, rfl⟩))
      go_ret2
      exact ⟨_, rfl, u_nil _ _, Below.refl _ _⟩
    · rw [h2] at S
      rw [wordsC_yes h2, mayL_yes]
      have S := Lib.hid S
      obtain ⟨i0, hi, hz0, hz1, hz2⟩ := info_parts info_i64
      clear h2
      go_enter Try.func26, Try.ntmps26
      go_wp2_with (first | (go_at_call 73; refine V.out.mono ?_; rintro e w1 ⟨rfl, rfl⟩) | (go_at_call 78; refine S.out.mono ?_; rintro e w1 ⟨rfl, rfl⟩))
      clear V S
      go_loopw [6, 19] (fun v i wr => ∃ j : Nat, j ≤ ls.length ∧ i = .int .i64 j ∧ OwnInts w.heap.size (idx (trueAt ls zs) j) v wr ∧ Below w.heap.size w wr) (fun _ i _ => ls.length - (intOf i).toNat)
      case atStart => exact ⟨0, Nat.zero_le _, rfl, u_nil _ _, Below.refl _ _⟩
      case round =>
        obtain ⟨j, hj, rfl, O, hB⟩ := hrel
        have BB := Lib.hid hB
        have OO := Lib.hid O
        clear O
        by_cases hjl : j < ls.length
        · have hd : decide ((j : Int) < (ls.length : Int)) = true := by simpa using hjl
          obtain ⟨b1, o1, sa, sc, rfl, hb1, p0, p1, _, p3⟩ := LL.out j hjl
          have d0 := (hB.cell (p := ⟨b1, o1 + j, none⟩) hb1).trans p0
          have i3 : (0 : Int) ≤ (j : Int) := by omega
          have i4 : (j : Int) < (ls.length : Int) := by omega
          unfold maxLen at p3
          have C := iHasAll_any sa (lsAt ls j) sc ad zs cap wr (strsIn_below p1 hB) (strsIn_below H.out hB) (by omega) hl
          change Calls _ _ _ _ (fun e w' => e = .returned (.bool (trueAt ls zs j)) ∧ wr = w') at C
          have yes := Lib.hid fun h => idx_yes (p := trueAt ls zs) (k := j) h
          have no := Lib.hid fun h => idx_no (p := trueAt ls zs) (k := j) h
          have al := idx_len (trueAt ls zs) j
          have s1 := hB.size
          clear hB p0 p1 p3
          generalize idx (trueAt ls zs) j = xs at *
          generalize trueAt ls zs j = q at *
          generalize lsAt ls j = x at *
          cases q
          · have NO := Lib.hid (no.out rfl)
            have C := Lib.hid C
            clear yes no
            go_wp2_with (go_at_call 79; refine C.out.mono ?_; rintro e w1 ⟨rfl, rfl⟩)
            exact ⟨⟨j + 1, hjl, by rw [Int.natCast_succ], by rw [NO.out]; exact OO.out, BB.out⟩, by (simp [intOf]) <;> omega⟩
          · have YE := Lib.hid (yes.out rfl)
            have C := Lib.hid C
            clear yes no
            go_wp2_with (first
              | (go_at_call 79; refine C.out.mono ?_; rintro e w1 ⟨rfl, rfl⟩)
              | (at_builtin; refine wpList_append_own _ rfl _ _ 39 rfl w.heap.size 2 i0 (.int .i64 0) 1 8 Try.underlying39 hi hz0 hz1 hz2 rfl (by decide) _ _ _ rfl (OO.out.alloc _) ⟨wr.heap.size, 0, none⟩ 1 1 [.int .i64 (j : Int)] rfl rfl (u_one_new _ _ _) (fun x hx => by simp at hx; subst hx; rfl) (by unfold maxLen; omega) (by omega) (by simp; omega) ?_; intro v' w4 hown hgrow _; have P := Lib.hid (u_push hown); have G := Lib.hid hgrow; clear hown hgrow))
            exact ⟨⟨j + 1, hjl, by rw [Int.natCast_succ], by rw [YE.out]; exact P.out, Below.grown (BB.out.alloc s1 _) G.out (by simp; omega) (fun k hk => u_lt OO.out k hk)⟩, by (simp [intOf]) <;> omega⟩
        · have e : j = ls.length := by omega
          subst e
          have hd : decide ((ls.length : Int) < (ls.length : Int)) = false := by simp
          clear hB
          go_wp2
          go_ret2
          exact ⟨_, rfl, OO.out, BB.out⟩

/-! ### The model's -/
theorem allN_step_no {xs zs : List ByteArray} {k : Nat} (h : allN xs zs k = false) : allN xs zs (k + 1) = false := by show (_ && _) = false; rw [h]; rfl
theorem allN_step {xs zs : List ByteArray} {k : Nat} {q : Bool} (h : allN xs zs k = true) (h2 : hasN xs (zs.getD k ⟨#[]⟩) = q) : allN xs zs (k + 1) = q := by show (_ && _) = q; rw [h, h2]; rfl

set_option maxRecDepth 100000 in
set_option maxHeartbeats 3200000 in
theorem sTrueL_any (al : Option Addr) (ls : List (List ByteArray)) (cl : Nat) (ad : Option Addr) (zs : List ByteArray) (cap : Nat) (w : World) (hL : LotIn w al ls) (h : StrsIn w ad zs) (hn : ls.length ≤ 60) (hl : zs.length ≤ 9223372036854775807) :
    Calls Try.prog 77 #[.slice al ls.length cl, .slice ad zs.length cap] w (NumR (idx (trueAt ls zs) ls.length) w) := by
  have H := Lib.hid h
  have LL := Lib.hid hL
  clear h hL
  obtain ⟨i0, hi, hz0, hz1, hz2⟩ := info_parts info_i64
  have hbw := cell_bw
  go_enter Try.func77, Try.ntmps77
  go_wp2
  go_loopw [5, 6] (fun v i wr => ∃ j : Nat, j ≤ ls.length ∧ i = .int .i64 j ∧ OwnInts w.heap.size (idx (trueAt ls zs) j) v wr ∧ Below w.heap.size w wr) (fun _ i _ => ls.length - (intOf i).toNat)
  case atStart => exact ⟨0, Nat.zero_le _, rfl, u_none rfl (Nat.le_refl _), below_new (Below.refl _ _) _⟩
  case round =>
    obtain ⟨j, hj, rfl, O, hB⟩ := hrel
    have B0 := Lib.hid hB
    have OO := Lib.hid O
    clear O
    by_cases hjl : j < ls.length
    · have hd : decide ((j : Int) < (ls.length : Int)) = true := by simpa using hjl
      obtain ⟨b1, o1, sa, sc, rfl, hb1, p0, p1, _, p3⟩ := LL.out j hjl
      have yes : Hid (allN (lsAt ls j) zs zs.length = true → idx (trueAt ls zs) (j + 1) = idx (trueAt ls zs) j ++ [(j : Int)]) := Lib.hid fun h => idx_yes (p := trueAt ls zs) (k := j) h
      have no : Hid (allN (lsAt ls j) zs zs.length = false → idx (trueAt ls zs) (j + 1) = idx (trueAt ls zs) j) := Lib.hid fun h => idx_no (p := trueAt ls zs) (k := j) h
      have al := idx_len (trueAt ls zs) j
      have i3 : (0 : Int) ≤ (j : Int) := by omega
      have i4 : (j : Int) < (ls.length : Int) := by omega
      have QB := Lib.hid p1
      have P0 := Lib.hid p0
      have P3 := Lib.hid (show (lsAt ls j).length ≤ 9223372036854775807 by unfold maxLen at p3; omega)
      clear hB p0 p1 p3
      generalize idx (trueAt ls zs) j = xs at *
      generalize lsAt ls j = x at *
      go_wp2
      go_loopw [7, 8] (fun q i w2 => ∃ k : Nat, k ≤ zs.length ∧ i = .int .i64 k ∧ q = .bool (allN x zs k) ∧ Below wr.heap.size wr w2) (fun _ i _ => zs.length - (intOf i).toNat)
      case atStart => exact ⟨0, Nat.zero_le _, rfl, rfl, Below.refl _ _⟩
      case round =>
        obtain ⟨k, hk, rfl, rfl, hB2⟩ := hrel
        have B2 := Lib.hid hB2
        have BT := B0.out.trans (hB2.mono B0.out.size)
        clear hB2
        by_cases hkl : k < zs.length
        · have hd2 : decide ((k : Int) < (zs.length : Int)) = true := by simpa using hkl
          obtain ⟨b2, o2, rfl, hb2, r0⟩ := H.out k hkl
          have e1 := (BT.cell (p := ⟨b1, o1 + j, none⟩) hb1).trans P0.out
          have e2 := (BT.cell (p := ⟨b2, o2 + k, none⟩) hb2).trans r0
          have y1 : b1 < wr.heap.size := Nat.lt_of_lt_of_le hb1 BT.size
          have y2 : b2 < wr.heap.size := Nat.lt_of_lt_of_le hb2 BT.size
          have i5 : (0 : Int) ≤ (k : Int) := by omega
          have i6 : (k : Int) < (zs.length : Int) := by omega
          have QW := strsIn_below QB.out BT
          have C := fun W (h : Below wr.heap.size wr W) => sHasS_any sa x sc (zs.getD k ⟨#[]⟩) W (strsIn_below QW h) P3.out
          have S0 := Lib.hid fun h => allN_step_no (xs := x) (zs := zs) (k := k) h
          have S1 := Lib.hid fun h => allN_step (xs := x) (zs := zs) (k := k) (q := hasN x (zs.getD k ⟨#[]⟩)) h rfl
          generalize allN x zs k = a0 at *
          generalize hasN x (zs.getD k ⟨#[]⟩) = hh at *
          generalize zs.getD k ⟨#[]⟩ = s at *
          have C := Lib.hid C
          clear r0 QW BT
          cases a0
          · have SS := Lib.hid (S0.out rfl)
            clear S0 S1 C
            go_wp2_with fail
            refine region_bw (by kernel_rfl) (by kernel_rfl) ?_
            repeat (go_big_quiet_step (fail))
            refine wpQuiet_nil ?_; intro wq hq; replace hq := below_of_bw hq; obtain ⟨qc, qf, qz⟩ := bcell hq
            go_wp2_with fail
            exact ⟨⟨k + 1, hkl, by rw [Int.natCast_succ], by rw [SS.out], B2.out.trans (hq.mono B2.out.size)⟩, by (simp [intOf]) <;> omega⟩
          · have SS := Lib.hid (S1.out rfl)
            clear S0 S1
            go_wp2_with fail
            refine region_bw (by kernel_rfl) (by kernel_rfl) ?_
            repeat (go_big_quiet_step (first | (go_at_call 112; exact calls_bw_same (C.out _ (below_bw _ _)))))
            refine wpQuiet_nil ?_; intro wq hq; replace hq := below_of_bw hq; obtain ⟨qc, qf, qz⟩ := bcell hq
            go_wp2_with fail
            exact ⟨⟨k + 1, hkl, by rw [Int.natCast_succ], by rw [SS.out], B2.out.trans (hq.mono B2.out.size)⟩, by (simp [intOf]) <;> omega⟩
        · have e : k = zs.length := by omega
          subst e
          have hd2 : decide ((zs.length : Int) < (zs.length : Int)) = false := by simp
          have O2 := Lib.hid (ownInts_kept OO.out B2.out)
          have BX := Lib.hid BT
          have s1 := BT.size
          clear BT
          generalize allN x zs zs.length = q at *
          cases q
          · have NO := Lib.hid (no.out rfl)
            clear yes no
            go_wp2
            exact ⟨⟨j + 1, hjl, by rw [Int.natCast_succ], by rw [NO.out]; exact O2.out, BX.out⟩, by (simp [intOf]) <;> omega⟩
          · have YE := Lib.hid (yes.out rfl)
            clear yes no
            go_wp2_with (at_builtin; refine wpList_append_own _ rfl _ _ 39 rfl w.heap.size 2 i0 (.int .i64 0) 1 8 Try.underlying39 hi hz0 hz1 hz2 rfl (by decide) _ _ _ rfl (O2.out.alloc _) ⟨wr.heap.size, 0, none⟩ 1 1 [.int .i64 (j : Int)] rfl rfl (u_one_new _ _ _) (fun x hx => by simp at hx; subst hx; rfl) (by unfold maxLen; omega) (by omega) (by simp; omega) ?_; intro v' w4 hown hgrow _; have P := Lib.hid (u_push hown); have G := Lib.hid hgrow; clear hown hgrow)
            exact ⟨⟨j + 1, hjl, by rw [Int.natCast_succ], by rw [YE.out]; exact P.out, Below.grown (BX.out.alloc s1 _) G.out (by simp; omega) (fun k hk => u_lt O2.out k hk)⟩, by (simp [intOf]) <;> omega⟩
    · have e : j = ls.length := by omega
      subst e
      have hd : decide ((ls.length : Int) < (ls.length : Int)) = false := by simp
      clear hB
      go_wp2
      go_ret
      exact ⟨_, rfl, OO.out, B0.out⟩

set_option maxRecDepth 100000 in
set_option maxHeartbeats 1600000 in
theorem sTrue_any (al : Option Addr) (ls : List (List ByteArray)) (cl : Nat) (ad : Option Addr) (zs : List ByteArray) (cap : Nat) (w : World) (hL : LotIn w al ls) (h : StrsIn w ad zs) (hf : Fit zs) (hn : ls.length ≤ 9223372036854775807) (hl : zs.length ≤ 9223372036854775807) :
    Calls Try.prog 24 #[.slice al ls.length cl, .slice ad zs.length cap] w (MwR (lwC ls zs) (mayL (lwC ls zs) (idx (trueAt ls zs) ls.length)) w) := by
  have V := sLot_any al ls cl w hL hn
  have S := sWords_any ad zs cap 12 w h hf hl
  cases h1 : lotOk ls
  · rw [lotC_no h1] at V
    rw [lwC_lot zs h1, mayL_no (by decide)]
    have V := Lib.hid V
    clear S h1 h hL hf
    go_enter Try.func24, Try.ntmps24
    go_wp2_with (go_at_call 70; refine V.out.mono ?_; rintro e w1 ⟨rfl, rfl⟩)
    go_ret2
    exact ⟨_, rfl, u_none rfl (Nat.le_refl _), below_new (Below.refl _ _) _⟩
  · rw [lotC_yes h1] at V
    have V := Lib.hid V
    have n60 := lot_60 h1
    rw [lwC_words h1]
    clear h1
    cases h2 : wordsOk zs 12
    · rw [wordsC_no h2] at S
      rw [wordsC_no h2, mayL_no (by decide)]
      have S := Lib.hid S
      clear h2 h hL hf
      go_enter Try.func24, Try.ntmps24
      go_wp2_with (first | (go_at_call 70; refine V.out.mono ?_; rintro e w1 ⟨rfl, rfl⟩) | (go_at_call 76; refine S.out.mono ?_; rintro e w1 ⟨rfl, rfl⟩))
      go_ret2
      exact ⟨_, rfl, u_none rfl (Nat.le_refl _), below_new (Below.refl _ _) _⟩
    · rw [wordsC_yes h2] at S
      rw [wordsC_yes h2, mayL_yes]
      have S := Lib.hid S
      have T := sTrueL_any al ls cl ad zs cap w hL h n60 hl
      generalize idx (trueAt ls zs) ls.length = xs at *
      have T := Lib.hid T
      clear h2 h hL hf n60
      go_enter Try.func24, Try.ntmps24
      go_wp2_with (first | (go_at_call 70; refine V.out.mono ?_; rintro e w1 ⟨rfl, rfl⟩) | (go_at_call 76; refine S.out.mono ?_; rintro e w1 ⟨rfl, rfl⟩) | (go_at_call 77; refine T.out.mono ?_; rintro e w2 ⟨v, rfl, hO, hB⟩; have O := Lib.hid hO; have B := Lib.hid hB; clear hO hB))
      go_ret2
      exact ⟨_, rfl, O.out, B.out⟩
end Go.Proofs.Ytoippchkhknhpaa

namespace Go.Proofs.Ytoippchkhknhpaa
open Go.ChangeShapes Go.WideShapes Go.ChangeAt Go.RowKit

def flatM : List (Int × Int) → List Value
  | [] => []
  | m :: ms => .int .u64 m.1 :: .int .u64 m.2 :: flatM ms
theorem flatM_app : ∀ (xs ys : List (Int × Int)), flatM (xs ++ ys) = flatM xs ++ flatM ys
  | [], _ => rfl
  | m :: xs, ys => by simp only [List.cons_append, flatM, flatM_app xs ys]
theorem flatM_len : ∀ ms : List (Int × Int), (flatM ms).length = ms.length * 2
  | [] => rfl
  | m :: ms => by simp only [flatM, List.length_cons, flatM_len ms]; omega
theorem flatM_get : ∀ (ms : List (Int × Int)) (i : Nat), i < ms.length → (flatM ms)[i * 2]? = some (.int .u64 (ms.getD i (0, 0)).1) ∧ (flatM ms)[i * 2 + 1]? = some (.int .u64 (ms.getD i (0, 0)).2)
  | [], i, h => absurd h (Nat.not_lt_zero _)
  | m :: ms, 0, _ => ⟨rfl, rfl⟩
  | m :: ms, i + 1, h => by
    have := flatM_get ms i (by simpa using h)
    rw [show (i + 1) * 2 = i * 2 + 1 + 1 by omega]
    exact this
/-- Masks of the call's own. -/
def OwnMs (B : Nat) (ms : List (Int × Int)) (v : Value) (w : World) : Prop := w.ownsRow B 51 2 v ms.length (flatM ms)
theorem ownMs_in {B : Nat} {ms : List (Int × Int)} {v : Value} {w : World} (h : OwnMs B ms v w) : ∃ a c, v = .slice a ms.length c ∧ MasksIn w a ms := by
  have h0 := h
  obtain ⟨_, h2⟩ := h
  rcases h2 with ⟨rfl, hn⟩ | ⟨g, cap, cur, rfl, hb, hg, _⟩
  · exact ⟨none, 0, by rw [hn], fun i hi => by omega⟩
  · refine ⟨_, cap, rfl, fun i hi => ⟨g, 0, rfl, (Array.getElem?_eq_some_iff.1 hg).1, ?_, ?_⟩⟩
    · rw [Nat.zero_add, World.ownsRow.cellAt h0 _ (by omega)]; exact (flatM_get ms i hi).1
    · rw [Nat.zero_add, World.ownsRow.cellAt h0 _ (by omega)]; exact (flatM_get ms i hi).2
theorem ownMs_kept {B : Nat} {ms : List (Int × Int)} {v : Value} {w w' : World} (h : OwnMs B ms v w) (hb : Below w.heap.size w w') : OwnMs B ms v w' := row_kept h hb
theorem ownMs_weaken {B B' : Nat} {ms : List (Int × Int)} {v : Value} {w : World} (h : OwnMs B ms v w) (hb : B' ≤ B) : OwnMs B' ms v w := by
  obtain ⟨h1, h2⟩ := h
  refine ⟨h1, ?_⟩
  rcases h2 with hn | ⟨g, cap, cur, rfl, hB, rest⟩
  · exact .inl hn
  · exact .inr ⟨g, cap, cur, rfl, Nat.le_trans hb hB, rest⟩
theorem ownMs_nil (B : Nat) (w : World) : OwnMs B [] (.slice none 0 0) w := ⟨rfl, .inl ⟨rfl, rfl⟩⟩
theorem ownMs_none {w : World} {n B : Nat} (hn : n = w.heap.size) (hB : B ≤ w.heap.size) : OwnMs B [] (.slice (some ⟨n, 0, none⟩) 0 0) (w.alloc (.cells #[] 51)) := by
  subst hn; exact World.ownsRow_made w #[] 0 hB (Nat.zero_le _) rfl
theorem ownMs_push {B : Nat} {ms : List (Int × Int)} {x y : Int} {v : Value} {w : World} (h : w.ownsRow B 51 2 v (ms.length + 1) (flatM ms ++ [.int .u64 x, .int .u64 y])) : OwnMs B (ms ++ [(x, y)]) v w := by
  unfold OwnMs; rw [flatM_app, List.length_append]; exact h
theorem ownMs_lt {B : Nat} {ms : List (Int × Int)} {v : Value} {w : World} (h : OwnMs B ms v w) : ∀ j, v.ownBlock = some j → B ≤ j := fun j hj => (World.ownsRow.lt h j hj).1

/-- The mask of the list with an index. -/
def mkAt (t z : Int) (F : Int → Nat) (ls : List (List ByteArray)) (i : Nat) : Int × Int := ((A0 t z F (lsAt ls i) (lsAt ls i).length : Int), (A1 t z F (lsAt ls i) (lsAt ls i).length : Int))
/-- The masks of the first k lists. -/
def mkTo (t z : Int) (F : Int → Nat) (ls : List (List ByteArray)) (k : Nat) : List (Int × Int) := (List.range k).map (mkAt t z F ls)
theorem mkTo_len (t z : Int) (F : Int → Nat) (ls : List (List ByteArray)) (k : Nat) : (mkTo t z F ls k).length = k := by unfold mkTo; simp
theorem mkTo_next (t z : Int) (F : Int → Nat) (ls : List (List ByteArray)) (k : Nat) : mkTo t z F ls (k + 1) = mkTo t z F ls k ++ [mkAt t z F ls k] := by unfold mkTo; rw [List.range_succ, List.map_append]; rfl
theorem mkTo_at {t z : Int} {F : Int → Nat} {ls : List (List ByteArray)} {k i : Nat} (h : i < k) : (mkTo t z F ls k).getD i (0, 0) = mkAt t z F ls i := by unfold mkTo; simp [List.getD, h]
theorem mkTo_u64 {t z : Int} (F : Int → Nat) (ls : List (List ByteArray)) (k : Nat) (t0 : 0 ≤ t) (z0 : 4 ≤ z) (tz : t + z ≤ 96) : ∀ i, i < (mkTo t z F ls k).length → U64 ((mkTo t z F ls k).getD i (0, 0)).1 ∧ U64 ((mkTo t z F ls k).getD i (0, 0)).2 := fun i hi => by
  rw [mkTo_len] at hi
  rw [mkTo_at hi]
  obtain ⟨h0, h1⟩ := A_lt F (lsAt ls i) t0 (show 0 < z by omega) tz (lsAt ls i).length
  show U64 ((A0 t z F (lsAt ls i) (lsAt ls i).length : Nat) : Int) ∧ U64 ((A1 t z F (lsAt ls i) (lsAt ls i).length : Nat) : Int)
  exact ⟨⟨by omega, by omega⟩, ⟨by omega, by omega⟩⟩
/-- Masks of the call's own. -/
def MsR (ms : List (Int × Int)) (w : World) (e : Ending) (w' : World) : Prop := ∃ v, e = .returned v ∧ OwnMs w.heap.size ms v w' ∧ Below w.heap.size w w'
/-- .. and a code. -/
def MlR (c : Int) (ms : List (Int × Int)) (w : World) (e : Ending) (w' : World) : Prop := ∃ v, e = .returned (.tuple #[v, .int .i64 c]) ∧ OwnMs w.heap.size ms v w' ∧ Below w.heap.size w w'
theorem lot_fit {w : World} {a : Option Addr} {ls : List (List ByteArray)} (h : LotIn w a ls) {i : Nat} (hi : i < ls.length) : Fit (lsAt ls i) := by
  obtain ⟨_, _, _, _, _, _, _, _, hf, _⟩ := h i hi; exact hf

set_option maxRecDepth 100000 in
set_option maxHeartbeats 3200000 in
theorem iMasksOf_any (t z p : Int) (F : Int → Nat) (hF : StopF t z p F) (t0 : 0 ≤ t) (z0 : 4 ≤ z) (tz : t + z ≤ 96) (p1 : 1 ≤ p) (p8 : p ≤ 8) (al : Option Addr) (ls : List (List ByteArray)) (cl : Nat) (w : World) (hL : LotIn w al ls) (hn : ls.length ≤ 60) :
    Calls Try.prog 74 #[.agg #[.int .i16 t, .int .i16 z, .int .i16 p], .slice al ls.length cl] w (MsR (mkTo t z F ls ls.length) w) := by
  obtain ⟨i0, hi, hz0, hz1, hz2⟩ := info_parts info_maskW
  have LL := Lib.hid hL
  have M0 := Lib.hid (block_alloc w (.cells #[.int .i16 t, .int .i16 z, .int .i16 p] 30))
  have B0 := Lib.hid (ab_new w (.cells #[.int .i16 t, .int .i16 z, .int .i16 p] 30))
  have A := Lib.hid fun a zs c W h1 h2 h3 => iAll_any t z p F hF t0 z0 tz p1 p8 a zs c W h1 h2 h3
  clear hL
  go_enter Try.func74, Try.ntmps74
  go_wp2_with (at_make; refine wpList_make_own _ rfl _ _ 27 rfl (w.heap.size + 1) 51 i0 (.agg #[.int .u64 0, .int .u64 0]) 2 Try.underlying27 hi hz0 hz1 .i64 .i64 _ ls.length rfl rfl rfl (by rw [hz2]; omega) (by unfold maxLen; omega) (by simp) ?_; intro w1 hown hgrow; rw [World.size_alloc] at hown; have O1 := Lib.hid hown; have M1 := Lib.hid ((hgrow.block w.heap.size (by simp) (fun e => by cases e)).trans M0.out); have B1 := Lib.hid (Below.grown B0.out hgrow (by simp) (fun j hj => by cases hj)); clear hown hgrow)
  have OO1 : Hid (OwnMs (w.heap.size + 1) (mkTo t z F ls 0) (.slice (some ⟨w.heap.size + 1, 0, none⟩) 0 ls.length) w1) := Lib.hid O1.out
  clear O1 M0 B0
  go_loopw [5, 13] (fun v i wr => ∃ j : Nat, j ≤ ls.length ∧ i = .int .i64 j ∧ OwnMs (w.heap.size + 1) (mkTo t z F ls j) v wr ∧ wr.heap[w.heap.size]? = some (.cells #[.int .i16 t, .int .i16 z, .int .i16 p] 30 (0, 0)) ∧ Below w.heap.size w wr) (fun _ i _ => ls.length - (intOf i).toNat)
  case atStart => exact ⟨0, Nat.zero_le _, rfl, OO1.out, M1.out, B1.out⟩
  case round =>
    obtain ⟨j, hj, rfl, O, hM, hB⟩ := hrel
    have BB := Lib.hid hB
    have OO := Lib.hid O
    have MM := Lib.hid hM
    have LE := Lib.hid (mkTo_len t z F ls j)
    clear O OO1 M1 B1
    by_cases hjl : j < ls.length
    · have hd : decide ((j : Int) < (ls.length : Int)) = true := by simpa using hjl
      obtain ⟨b1, o1, sa, sc, rfl, hb1, p0, p1, p2, p3⟩ := LL.out j hjl
      have d0 := (hB.cell (p := ⟨b1, o1 + j, none⟩) hb1).trans p0
      have g0 := cell_of_block hM 0
      have g1 := cell_of_block hM 1
      have g2 := cell_of_block hM 2
      have s0 := lt_of_block hM
      have i3 : (0 : Int) ≤ (j : Int) := by omega
      have i4 : (j : Int) < (ls.length : Int) := by omega
      unfold maxLen at p3
      have C := Lib.hid (A.out sa (lsAt ls j) sc wr (strsIn_below p1 hB) p2 (by omega))
      have nx : Hid (mkTo t z F ls (j + 1) = mkTo t z F ls j ++ [((A0 t z F (lsAt ls j) (lsAt ls j).length : Int), (A1 t z F (lsAt ls j) (lsAt ls j).length : Int))]) := Lib.hid (mkTo_next t z F ls j)
      clear hB p0 p1 p2 p3 hM
      generalize (A0 t z F (lsAt ls j) (lsAt ls j).length : Int) = X at *
      generalize (A1 t z F (lsAt ls j) (lsAt ls j).length : Int) = Y at *
      generalize mkTo t z F ls j = xs at *
      generalize lsAt ls j = x at *
      have lx := LE.out
      go_upto_region 5 with fail
      go_wp2_with (first
        | (go_at_call 87; refine C.out.mono ?_; rintro e wx ⟨rfl, hB⟩; have O2 := Lib.hid (ownMs_kept OO.out hB); have M2 := Lib.hid (Ab.block hB MM.out); have B2 := Lib.hid (BB.out.trans (Below.mono hB BB.out.size)); have s2 := B2.out.size; have l2 := lt_of_block M2.out; clear hB)
        | (at_builtin; refine wpList_append_own _ rfl _ _ 27 rfl (w.heap.size + 1) 51 i0 (.agg #[.int .u64 0, .int .u64 0]) 2 16 Try.underlying27 hi hz0 hz1 hz2 rfl (by decide) _ _ _ rfl (World.ownsRow.alloc O2.out _) ⟨wx.heap.size, 0, none⟩ 1 1 [.int .u64 X, .int .u64 Y] rfl rfl (m_new _ _ _ _) (fun x hx => by simp at hx; rcases hx with rfl | rfl <;> rfl) (by unfold maxLen; omega) (by omega) (by simp; omega) ?_; intro v' w4 hown hgrow _; have P := Lib.hid (ownMs_push hown); have G := Lib.hid hgrow; clear hown hgrow))
      refine ⟨⟨j + 1, hjl, by rw [Int.natCast_succ], by rw [nx.out]; exact P.out, ?_, ?_⟩, by (simp [intOf]) <;> omega⟩
      · exact (G.out.block _ (by simp; omega) (fun e => by have := ownMs_lt O2.out _ e.symm; omega)).trans ((block_old _ _ l2).trans M2.out)
      · exact Below.grown (B2.out.alloc s2 _) G.out (by simp; omega) (fun k hk => Nat.le_of_succ_le (ownMs_lt O2.out k hk))
    · have e : j = ls.length := by omega
      subst e
      have hd : decide ((ls.length : Int) < (ls.length : Int)) = false := by simp
      clear hB hM
      go_wp2
      go_ret
      exact ⟨_, rfl, ownMs_weaken OO.out (Nat.le_succ _), BB.out⟩

set_option maxRecDepth 100000 in
set_option maxHeartbeats 3200000 in
theorem sMasks_any (t z p : Int) (F : Int → Nat) (hF : StopF t z p F) (t0 : 0 ≤ t) (z0 : 4 ≤ z) (tz : t + z ≤ 96) (p1 : 1 ≤ p) (p8 : p ≤ 8) (g o : Nat) (al : Option Addr) (ls : List (List ByteArray)) (cl : Nat) (w : World) (hL : LotIn w al ls) (hn : ls.length ≤ 60) (h1 : w.cell? ⟨g, o, none⟩ = some (.int .i16 t)) (h2 : w.cell? ⟨g, o + 1, none⟩ = some (.int .i16 z)) (h3 : w.cell? ⟨g, o + 2, none⟩ = some (.int .i16 p)) :
    Calls Try.prog 71 #[.pointer (some ⟨g, o, none⟩), .slice al ls.length cl] w (MsR (mkTo t z F ls ls.length) w) := by
  obtain ⟨i0, hi, hz0, hz1, hz2⟩ := info_parts info_maskW
  have hg := World.block_lt_of_cell? _ _ h1
  have LL := Lib.hid hL
  have A := Lib.hid fun a zs c W s1 s2 s3 q0 q1 q2 => sAll_any t z p F hF t0 z0 tz p1 p8 a zs c g o W s1 s2 s3 q0 q1 q2
  have G1 := Lib.hid h1
  have G2 := Lib.hid h2
  have G3 := Lib.hid h3
  clear hL h1 h2 h3
  go_enter Try.func71, Try.ntmps71
  go_wp2
  go_loopw [5, 6] (fun v i wr => ∃ j : Nat, j ≤ ls.length ∧ i = .int .i64 j ∧ OwnMs w.heap.size (mkTo t z F ls j) v wr ∧ Below w.heap.size w wr) (fun _ i _ => ls.length - (intOf i).toNat)
  case atStart => exact ⟨0, Nat.zero_le _, rfl, ownMs_none rfl (Nat.le_refl _), ab_new _ _⟩
  case round =>
    obtain ⟨j, hj, rfl, O, hB⟩ := hrel
    have BB := Lib.hid hB
    have OO := Lib.hid O
    have LE := Lib.hid (mkTo_len t z F ls j)
    clear O
    by_cases hjl : j < ls.length
    · have hd : decide ((j : Int) < (ls.length : Int)) = true := by simpa using hjl
      obtain ⟨b1, o1, sa, sc, rfl, hb1, p0, p1, p2, p3⟩ := LL.out j hjl
      have d0 := (hB.cell (p := ⟨b1, o1 + j, none⟩) hb1).trans p0
      have i3 : (0 : Int) ≤ (j : Int) := by omega
      have i4 : (j : Int) < (ls.length : Int) := by omega
      unfold maxLen at p3
      have C := Lib.hid (A.out sa (lsAt ls j) sc wr (strsIn_below p1 hB) p2 (by omega) ((hB.cell (p := ⟨g, o, none⟩) hg).trans G1.out) ((hB.cell (p := ⟨g, o + 1, none⟩) hg).trans G2.out) ((hB.cell (p := ⟨g, o + 2, none⟩) hg).trans G3.out))
      have nx : Hid (mkTo t z F ls (j + 1) = mkTo t z F ls j ++ [((A0 t z F (lsAt ls j) (lsAt ls j).length : Int), (A1 t z F (lsAt ls j) (lsAt ls j).length : Int))]) := Lib.hid (mkTo_next t z F ls j)
      clear hB p0 p1 p2 p3
      generalize (A0 t z F (lsAt ls j) (lsAt ls j).length : Int) = X at *
      generalize (A1 t z F (lsAt ls j) (lsAt ls j).length : Int) = Y at *
      generalize mkTo t z F ls j = xs at *
      generalize lsAt ls j = x at *
      have lx := LE.out
      go_wp2_with (first
        | (go_at_call 83; refine C.out.mono ?_; rintro e wx ⟨rfl, hB⟩; have O2 := Lib.hid (ownMs_kept OO.out hB); have B2 := Lib.hid (BB.out.trans (Below.mono hB BB.out.size)); have s2 := B2.out.size; clear hB)
        | (at_builtin; refine wpList_append_own _ rfl _ _ 27 rfl w.heap.size 51 i0 (.agg #[.int .u64 0, .int .u64 0]) 2 16 Try.underlying27 hi hz0 hz1 hz2 rfl (by decide) _ _ _ rfl (World.ownsRow.alloc O2.out _) ⟨wx.heap.size, 0, none⟩ 1 1 [.int .u64 X, .int .u64 Y] rfl rfl (m_new _ _ _ _) (fun x hx => by simp at hx; rcases hx with rfl | rfl <;> rfl) (by unfold maxLen; omega) (by omega) (by simp; omega) ?_; intro v' w4 hown hgrow _; have P := Lib.hid (ownMs_push hown); have G := Lib.hid hgrow; clear hown hgrow))
      exact ⟨⟨j + 1, hjl, by rw [Int.natCast_succ], by rw [nx.out]; exact P.out, Below.grown (B2.out.alloc s2 _) G.out (by simp; omega) (fun k hk => ownMs_lt O2.out k hk)⟩, by (simp [intOf]) <;> omega⟩
    · have e : j = ls.length := by omega
      subst e
      have hd : decide ((ls.length : Int) < (ls.length : Int)) = false := by simp
      clear hB
      go_wp2
      go_ret
      exact ⟨_, rfl, OO.out, BB.out⟩

/-! ### MixLot -/
def mlC (ok : Bool) (ls : List (List ByteArray)) : Int := if ok = true then lotC ls else 1
def mlL (c : Int) (ms : List (Int × Int)) : List (Int × Int) := if c = 0 then ms else []
theorem mlL_no {c : Int} {ms : List (Int × Int)} (h : c ≠ 0) : mlL c ms = [] := if_neg h
theorem mlL_yes (ms : List (Int × Int)) : mlL 0 ms = ms := rfl
theorem mlC_mix (ls : List (List ByteArray)) : mlC false ls = 1 := rfl
theorem mlC_ok (ls : List (List ByteArray)) : mlC true ls = lotC ls := rfl

set_option maxRecDepth 100000 in
set_option maxHeartbeats 1600000 in
theorem iMixLot_any (t z p : Int) (ht : I16 t) (hz : I16 z) (F : Int → Nat) (hF : mixOk t z p = true → StopF t z p F) (al : Option Addr) (ls : List (List ByteArray)) (cl : Nat) (w : World) (hL : LotIn w al ls) (hn : ls.length ≤ 9223372036854775807) :
    Calls Try.prog 17 #[.agg #[.int .i16 t, .int .i16 z, .int .i16 p], .slice al ls.length cl] w (MlR (mlC (mixOk t z p) ls) (mlL (mlC (mixOk t z p) ls) (mkTo t z F ls ls.length)) w) := by
  have V := fun W => iValidMix_any t z p ht hz W
  have M0 := Lib.hid (block_alloc w (.cells #[.int .i16 t, .int .i16 z, .int .i16 p] 30))
  have B0 := Lib.hid (below_new (Below.refl w.heap.size w) (.cells #[.int .i16 t, .int .i16 z, .int .i16 p] 30))
  have K := fun W (hb : Below w.heap.size w W) => iIsLot_any al ls cl W (lotIn_below hL hb) hn
  have LL := Lib.hid hL
  clear hL ht hz
  cases hv : mixOk t z p
  · rw [hv] at V
    rw [mlC_mix, mlL_no (by decide)]
    have V := Lib.hid V
    clear hv hF K
    go_enter Try.func17, Try.ntmps17
    go_wp2_with (go_at_call 72; refine (V.out _).mono ?_; rintro e w1 ⟨rfl, hB⟩; have b1 := Lib.hid (B0.out.trans (Below.mono hB B0.out.size)); clear hB)
    go_ret2
    exact ⟨_, rfl, ownMs_nil _ _, b1.out⟩
  · rw [hv] at V
    have V := Lib.hid V
    have hF := hF hv
    obtain ⟨t0, z0, tz, p1, p8, pz⟩ := mix_inv hv
    rw [mlC_ok]
    clear hv
    cases h1 : lotOk ls
    · rw [h1] at K
      rw [lotC_no h1, mlL_no (by decide)]
      have K := Lib.hid K
      clear h1 hF
      go_enter Try.func17, Try.ntmps17
      go_wp2_with (first | (go_at_call 72; refine (V.out _).mono ?_; rintro e w1 ⟨rfl, hB⟩; have b1 := Lib.hid (B0.out.trans (Below.mono hB B0.out.size)); clear hB) | (go_at_call 73; refine (K.out _ b1.out).mono ?_; rintro e w2 ⟨rfl, rfl⟩))
      go_ret2
      exact ⟨_, rfl, ownMs_nil _ _, b1.out⟩
    · rw [h1] at K
      rw [lotC_yes h1, mlL_yes]
      have K := Lib.hid K
      have MS := Lib.hid fun W h => iMasksOf_any t z p F hF t0 z0 tz p1 p8 al ls cl W h (lot_60 h1)
      clear h1 hF
      generalize mkTo t z F ls ls.length = ms at *
      go_enter Try.func17, Try.ntmps17
      go_wp2_with (first | (go_at_call 72; refine (V.out _).mono ?_; rintro e w1 ⟨rfl, hB⟩; have b1 := Lib.hid (B0.out.trans (Below.mono hB B0.out.size)); have a1 := Ab.block hB M0.out; have g0 := cell_of_block a1 0; have g1 := cell_of_block a1 1; have g2 := cell_of_block a1 2; have s1 := lt_of_block a1; clear hB a1) | (go_at_call 73; refine (K.out _ b1.out).mono ?_; rintro e w2 ⟨rfl, rfl⟩) | (go_at_call 74; refine (MS.out _ (lotIn_below LL.out b1.out)).mono ?_; rintro e w3 ⟨v, rfl, hO, hB⟩; have O := Lib.hid hO; have B := Lib.hid hB; clear hO hB))
      go_ret2
      exact ⟨_, rfl, ownMs_weaken O.out b1.out.size, b1.out.trans (Below.mono B.out b1.out.size)⟩

set_option maxRecDepth 100000 in
set_option maxHeartbeats 1600000 in
theorem sMixLot_any (t z p : Int) (ht : I16 t) (hz : I16 z) (hp : I16 p) (F : Int → Nat) (hF : mixOk t z p = true → StopF t z p F) (al : Option Addr) (ls : List (List ByteArray)) (cl : Nat) (w : World) (hL : LotIn w al ls) (hn : ls.length ≤ 9223372036854775807) :
    Calls Try.prog 14 #[.agg #[.int .i16 t, .int .i16 z, .int .i16 p], .slice al ls.length cl] w (MlR (mlC (mixOk t z p) ls) (mlL (mlC (mixOk t z p) ls) (mkTo t z F ls ls.length)) w) := by
  have M0 := block_alloc w (.cells #[.int .i16 t, .int .i16 z, .int .i16 p] 30)
  have V := sOkMix_any t z p ht hz hp w.heap.size 0 (w.alloc (.cells #[.int .i16 t, .int .i16 z, .int .i16 p] 30)) (by simp) (by simp) (by simp)
  have M0 := Lib.hid M0
  have B0 := Lib.hid (below_new (Below.refl w.heap.size w) (.cells #[.int .i16 t, .int .i16 z, .int .i16 p] 30))
  have K := fun W (hb : Below w.heap.size w W) => sLot_any al ls cl W (lotIn_below hL hb) hn
  have LL := Lib.hid hL
  clear hL ht hz hp
  cases hv : mixOk t z p
  · rw [hv] at V
    rw [mlC_mix, mlL_no (by decide)]
    have V := Lib.hid V
    clear hv hF K
    go_enter Try.func14, Try.ntmps14
    go_wp2_with (go_at_call 69; refine V.out.mono ?_; rintro e w1 ⟨rfl, hB⟩; have b1 := Lib.hid (B0.out.trans (Below.mono hB B0.out.size)); clear hB)
    go_ret2
    exact ⟨_, rfl, ownMs_none rfl b1.out.size, b1.out.trans (Below.mono (ab_new _ _) b1.out.size)⟩
  · rw [hv] at V
    have V := Lib.hid V
    have hF := hF hv
    obtain ⟨t0, z0, tz, p1, p8, pz⟩ := mix_inv hv
    rw [mlC_ok]
    clear hv
    cases h1 : lotOk ls
    · rw [lotC_no h1] at K
      rw [lotC_no h1, mlL_no (by decide)]
      have K := Lib.hid K
      clear h1 hF
      go_enter Try.func14, Try.ntmps14
      go_wp2_with (first | (go_at_call 69; refine V.out.mono ?_; rintro e w1 ⟨rfl, hB⟩; have b1 := Lib.hid (B0.out.trans (Below.mono hB B0.out.size)); clear hB) | (go_at_call 70; refine (K.out _ b1.out).mono ?_; rintro e w2 ⟨rfl, rfl⟩))
      go_ret2
      exact ⟨_, rfl, ownMs_none rfl b1.out.size, b1.out.trans (Below.mono (ab_new _ _) b1.out.size)⟩
    · rw [lotC_yes h1] at K
      rw [lotC_yes h1, mlL_yes]
      have K := Lib.hid K
      have MS := Lib.hid fun W h q0 q1 q2 => sMasks_any t z p F hF t0 z0 tz p1 p8 w.heap.size 0 al ls cl W h (lot_60 h1) q0 q1 q2
      clear h1 hF
      generalize mkTo t z F ls ls.length = ms at *
      go_enter Try.func14, Try.ntmps14
      go_wp2_with (first | (go_at_call 69; refine V.out.mono ?_; rintro e w1 ⟨rfl, hB⟩; have b1 := Lib.hid (B0.out.trans (Below.mono hB B0.out.size)); have a1 := Lib.hid (Ab.block hB M0.out); clear hB) | (go_at_call 70; refine (K.out _ b1.out).mono ?_; rintro e w2 ⟨rfl, rfl⟩) | (go_at_call 71; refine (MS.out _ (lotIn_below LL.out b1.out) (by simpa using cell_of_block a1.out 0) (by simpa using cell_of_block a1.out 1) (by simpa using cell_of_block a1.out 2)).mono ?_; rintro e w3 ⟨v, rfl, hO, hB⟩; have O := Lib.hid hO; have B := Lib.hid hB; clear hO hB))
      go_ret2
      exact ⟨_, rfl, ownMs_weaken O.out b1.out.size, b1.out.trans (Below.mono B.out b1.out.size)⟩
end Go.Proofs.Ytoippchkhknhpaa

namespace Go.Proofs.Ytoippchkhknhpaa
open Go.ChangeShapes Go.WideShapes Go.ChangeAt Go.RowKit

/-- Texts of the call's own. -/
def OwnStrs (B : Nat) (zs : List ByteArray) (v : Value) (w : World) : Prop := w.ownsRow B 9 1 v zs.length (zs.map Value.string)
theorem ownStrs_in {B : Nat} {zs : List ByteArray} {v : Value} {w : World} (h : OwnStrs B zs v w) : ∃ a c, v = .slice a zs.length c ∧ StrsIn w a zs := by
  have h0 := h
  obtain ⟨_, h2⟩ := h
  rcases h2 with ⟨rfl, hn⟩ | ⟨g, cap, cur, rfl, hb, hg, _⟩
  · exact ⟨none, 0, by rw [hn], fun i hi => by omega⟩
  · refine ⟨_, cap, rfl, fun i hi => ⟨g, 0, rfl, (Array.getElem?_eq_some_iff.1 hg).1, ?_⟩⟩
    have := World.ownsRow.cellAt h0 i (by omega)
    rw [Nat.zero_add, this, List.getElem?_map, List.getElem?_eq_getElem hi]
    simp [List.getD, hi]
theorem ownStrs_nil (B : Nat) (w : World) : OwnStrs B [] (.slice none 0 0) w := ⟨rfl, .inl ⟨rfl, rfl⟩⟩
theorem ownStrs_none {w : World} {n B : Nat} (hn : n = w.heap.size) (hB : B ≤ w.heap.size) : OwnStrs B [] (.slice (some ⟨n, 0, none⟩) 0 0) (w.alloc (.cells #[] 9)) := by
  subst hn; exact World.ownsRow_made w #[] 0 hB (Nat.zero_le _) rfl
theorem ownStrs_kept {B : Nat} {zs : List ByteArray} {v : Value} {w w' : World} (h : OwnStrs B zs v w) (hb : Below w.heap.size w w') : OwnStrs B zs v w' := row_kept h hb
theorem ownStrs_lt {B : Nat} {zs : List ByteArray} {v : Value} {w : World} (h : OwnStrs B zs v w) : ∀ j, v.ownBlock = some j → B ≤ j := fun j hj => (World.ownsRow.lt h j hj).1
theorem ownStrs_weaken {B B' : Nat} {zs : List ByteArray} {v : Value} {w : World} (h : OwnStrs B zs v w) (hb : B' ≤ B) : OwnStrs B' zs v w := by
  obtain ⟨h1, h2⟩ := h
  refine ⟨h1, ?_⟩
  rcases h2 with hn | ⟨g, cap, cur, rfl, hB, rest⟩
  · exact .inl hn
  · exact .inr ⟨g, cap, cur, rfl, Nat.le_trans hb hB, rest⟩
theorem ownStrs_app {B : Nat} {xs ys : List ByteArray} {v : Value} {w : World} (h : w.ownsRow B 9 1 v (xs.length + ys.length) (xs.map Value.string ++ ys.map Value.string)) : OwnStrs B (xs ++ ys) v w := by
  unfold OwnStrs; rw [List.length_append, List.map_append]; exact h
theorem ownStrs_push {B : Nat} {xs : List ByteArray} {y : ByteArray} {v : Value} {w : World} (h : w.ownsRow B 9 1 v (xs.length + 1) (xs.map Value.string ++ [.string y])) : OwnStrs B (xs ++ [y]) v w := ownStrs_app (ys := [y]) h
/-- Texts of the call's own are handed back. -/
def StR (zs : List ByteArray) (w : World) (e : Ending) (w' : World) : Prop := ∃ v, e = .returned v ∧ OwnStrs w.heap.size zs v w' ∧ Below w.heap.size w w'

theorem info_strT : (Try.prog.info? 9).map (fun i => (i.zero, i.size, i.bytes)) = some (some (.string ⟨#[]⟩), 1, 16) := by kernel_rfl

set_option maxRecDepth 100000 in
set_option maxHeartbeats 1600000 in
theorem growS_any (n : Nat) (hn : n ≤ 100000) (w : World) : Calls Try.prog 136 #[.slice none 0 0, .int .i64 (n : Int)] w (StR [] w) := by
  obtain ⟨i0, hi, hz0, hz1, hz2⟩ := info_parts info_strT
  have d0 : decide ((n : Int) < 0) = false := decide_eq_false (by omega)
  by_cases h0 : n = 0
  · subst h0
    go_enter Try.func136, Try.ntmps136
    go_wp2
    go_ret
    exact ⟨_, rfl, ownStrs_nil _ _, Below.refl _ _⟩
  · have d1 : decide ((0 : Int) < (n : Int)) = true := decide_eq_true (by omega)
    have x1 : IntKind.i64.wrap (n : Int) = (n : Int) := IntWalk.i64_in _ (by omega)
    have hG := grownCap_ge w n 0 9
    have hM := grownCap_le_maxLen w n 0 9 (by unfold maxLen; omega)
    have hold : (Builtin.firstCells i0.size 0 (.slice none 0 0)).run Try.prog w.drew = .ok ([] : List Value).toArray w.drew := run_firstCells_none w.drew i0.size 0 0 0
    have hrz : ∀ ty, (Builtin.append_ #[37, 3] ty #[.slice none 0 0, .int .i64 (n : Int)]).run Try.prog w = _ := fun ty => Lib.run_append_grow_zeros w 37 3 ty 9 i0 (.string ⟨#[]⟩) .i64 .i64 Try.underlying37 Try.underlying3 hi hz0 none 0 0 [] hold n (by omega) (by omega) (by omega) (by omega) (by rw [hz2]; omega) (growslice_fits (by omega) (by rw [hz2]; omega))
    simp only [Nat.zero_add] at hrz
    generalize grownCap w n 0 9 = G at *
    have R : Hid (OwnStrs w.heap.size [] (.slice (some ⟨w.heap.size, 0, none⟩) 0 G) (w.drew.alloc (.cells (([] : List Value).toArray ++ Builtin.zeroCells (Value.string ⟨#[]⟩).cells n ++ Builtin.zeroCells (Value.string ⟨#[]⟩).cells (G - n)) 9))) := Lib.hid ⟨rfl, .inr ⟨w.heap.size, G, _, rfl, Nat.le_refl _, block_alloc w.drew _, Nat.zero_le _, hM, by simp only [Array.size_append, List.size_toArray, size_zeroCells, List.length_nil]; show 0 + n * 1 + (G - n) * 1 = G * 1; omega, by simp⟩⟩
    have BR : Hid (Below w.heap.size w (w.drew.alloc (.cells (([] : List Value).toArray ++ Builtin.zeroCells (Value.string ⟨#[]⟩).cells n ++ Builtin.zeroCells (Value.string ⟨#[]⟩).cells (G - n)) 9))) := Lib.hid ((show Below w.heap.size w w.drew from ⟨rfl, rfl, rfl, Nat.le_refl _, fun _ _ => rfl⟩).trans (show Below w.heap.size w.drew _ from below_new (Below.refl w.drew.heap.size w.drew) _))
    generalize w.drew.alloc (.cells (([] : List Value).toArray ++ Builtin.zeroCells (Value.string ⟨#[]⟩).cells n ++ Builtin.zeroCells (Value.string ⟨#[]⟩).cells (G - n)) 9) = W at *
    clear hold hz0 hz1 hz2 hi
    go_enter Try.func136, Try.ntmps136
    go_wp2_with (at_builtin; go_loud (refine Lib.wpList_append_run _ rfl _ _ _ _ rfl _ _ rfl rfl _ _ (hrz _) ?_))
    go_ret
    exact ⟨_, rfl, R.out, BR.out⟩

/-! ### Concat -/
/-- Lists that lie in memory, none of them nil. -/
def LotN (w : World) (a : Option Addr) (ls : List (List ByteArray)) : Prop := ∀ i, i < ls.length → ∃ b off g sc, a = some ⟨b, off, none⟩ ∧ b < w.heap.size ∧
  w.cell? ⟨b, off + i, none⟩ = some (.slice (some ⟨g, 0, none⟩) (lsAt ls i).length sc) ∧ StrsIn w (some ⟨g, 0, none⟩) (lsAt ls i) ∧ Fit (lsAt ls i) ∧ (lsAt ls i).length ≤ maxLen
theorem lotN_below {w w' : World} {a : Option Addr} {ls : List (List ByteArray)} (h : LotN w a ls) (hb : Below w.heap.size w w') : LotN w' a ls := fun i hi => by
  obtain ⟨b, off, g, sc, ha, hlt, hc, hs, hf⟩ := h i hi
  exact ⟨b, off, g, sc, ha, Nat.lt_of_lt_of_le hlt hb.size, (hb.cell hlt).trans hc, strsIn_below hs hb, hf⟩
theorem lotN_in {w : World} {a : Option Addr} {ls : List (List ByteArray)} (h : LotN w a ls) : LotIn w a ls := fun i hi => by
  obtain ⟨b, off, g, sc, r⟩ := h i hi
  exact ⟨b, off, _, sc, r⟩
/-- How many words the first k lists have. -/
def nWords (ls : List (List ByteArray)) : Nat → Nat
  | 0 => 0
  | k + 1 => nWords ls k + (lsAt ls k).length
/-- All words of the first k lists. -/
def flatTo (ls : List (List ByteArray)) : Nat → List ByteArray
  | 0 => []
  | k + 1 => flatTo ls k ++ lsAt ls k
theorem flatTo_len (ls : List (List ByteArray)) : ∀ k, (flatTo ls k).length = nWords ls k
  | 0 => rfl
  | k + 1 => by show (flatTo ls k ++ lsAt ls k).length = nWords ls k + _; rw [List.length_append, flatTo_len ls k]
theorem nWords_mono (ls : List (List ByteArray)) (k : Nat) : ∀ d, nWords ls k ≤ nWords ls (k + d)
  | 0 => Nat.le_refl _
  | d + 1 => Nat.le_trans (nWords_mono ls k d) (by show nWords ls (k + d) ≤ nWords ls (k + d) + _; omega)
theorem nWords_lot {ls : List (List ByteArray)} (h : lotOk ls = true) : ∀ k, k ≤ ls.length → nWords ls k ≤ 12 * k
  | 0, _ => Nat.le_refl _
  | k + 1, hk => by
    have ih := nWords_lot h k (by omega)
    have hw := (of_decide_eq_true h).2 k (by omega)
    have : (lsAt ls k).length ≤ 12 := Nat.le_of_not_lt fun e => by rw [words_long e] at hw; cases hw
    show nWords ls k + _ ≤ _
    omega

set_option maxRecDepth 100000 in
set_option maxHeartbeats 3200000 in
theorem concat_any (al : Option Addr) (ls : List (List ByteArray)) (cl : Nat) (w : World) (hL : LotN w al ls) (hn : ls.length ≤ 60) (ht : nWords ls ls.length ≤ 720) :
    Calls Try.prog 122 #[.slice al ls.length cl] w (StR (flatTo ls ls.length) w) := by
  obtain ⟨i0, hi, hz0, hz1, hz2⟩ := info_parts info_strT
  have LL := Lib.hid hL
  have NT := Lib.hid (fun k (hk : k ≤ ls.length) => (show nWords ls k ≤ 720 by
    have := nWords_mono ls k (ls.length - k)
    rw [show k + (ls.length - k) = ls.length by omega] at this
    omega))
  have GR := Lib.hid (growS_any (nWords ls ls.length) (by omega) w)
  have FL := Lib.hid (flatTo_len ls)
  clear hL ht
  go_enter Try.func122, Try.ntmps122
  go_wp2
  go_loop [3, 11] (fun q i => ∃ k : Nat, k ≤ ls.length ∧ i = .int .i64 (k : Int) ∧ q = .int .i64 (nWords ls k : Int)) (fun _ i => ls.length - (intOf i).toNat)
  case atStart => exact ⟨0, Nat.zero_le _, rfl, rfl⟩
  case round =>
    obtain ⟨k, hk, rfl, rfl⟩ := hrel
    by_cases hlt : k < ls.length
    · obtain ⟨b, off, g, sc, rfl, hb, hc, _⟩ := LL.out k hlt
      have d2 : decide ((k : Int) < (ls.length : Int)) = true := by simpa using hlt
      have i1 : (0 : Int) ≤ (k : Int) := by omega
      have i2 : (k : Int) < (ls.length : Int) := by omega
      have e : nWords ls (k + 1) = nWords ls k + (lsAt ls k).length := rfl
      have nb := NT.out (k + 1) hlt
      have x1 : IntKind.i64.wrap ((nWords ls k : Int) + ((lsAt ls k).length : Int)) = (nWords ls k : Int) + ((lsAt ls k).length : Int) := IntWalk.i64_in _ (by omega)
      have d3 : decide ((nWords ls k : Int) + ((lsAt ls k).length : Int) < 0) = false := decide_eq_false (by omega)
      have NX := Lib.hid (show ((nWords ls k : Int) + ((lsAt ls k).length : Int)) = ((nWords ls (k + 1) : Nat) : Int) by rw [e]; simp)
      clear e nb
      generalize (lsAt ls k).length = m at *
      go_wp2
      go_round
      case rel => exact ⟨k + 1, by omega, by go_num, by rw [← NX.out]⟩
      case measure => simp [intOf]; omega
    · obtain rfl : k = ls.length := by omega
      have d2 : decide ((ls.length : Int) < (ls.length : Int)) = false := by simp
      go_wp2_with (go_at_call 136; refine GR.out.mono ?_; rintro e w1 ⟨v, rfl, hO, hB⟩; have O1 := Lib.hid hO; have B1 := Lib.hid hB; clear hO hB)
      go_loopw [6, 27] (fun v i wr => ∃ j : Nat, j ≤ ls.length ∧ i = .int .i64 j ∧ OwnStrs w.heap.size (flatTo ls j) v wr ∧ Below w.heap.size w wr) (fun _ i _ => ls.length - (intOf i).toNat)
      case atStart => exact ⟨0, Nat.zero_le _, rfl, O1.out, B1.out⟩
      case round =>
        obtain ⟨j, hj, rfl, O, hB⟩ := hrel
        have BB := Lib.hid hB
        have OO := Lib.hid O
        clear O
        by_cases hjl : j < ls.length
        · have hd : decide ((j : Int) < (ls.length : Int)) = true := by simpa using hjl
          obtain ⟨b1, o1, g, sc, rfl, hb1, p0, p1, _, p3⟩ := LL.out j hjl
          have d0 := (hB.cell (p := ⟨b1, o1 + j, none⟩) hb1).trans p0
          have i3 : (0 : Int) ≤ (j : Int) := by omega
          have i4 : (j : Int) < (ls.length : Int) := by omega
          have s1 := hB.size
          have P1 := strsIn_below p1 hB
          have cells : ∀ q u, ((lsAt ls j).map Value.string)[q]? = some u → wr.cell? ((⟨g, 0, none⟩ : Addr).add q) = some u := fun q u hu => by
            rw [List.getElem?_map] at hu
            have hq : q < (lsAt ls j).length := by
              rcases Nat.lt_or_ge q (lsAt ls j).length with h | h
              · exact h
              · rw [List.getElem?_eq_none h] at hu; cases hu
            rw [List.getElem?_eq_getElem hq] at hu
            simp at hu
            subst hu
            obtain ⟨b2, o2, e2, _, hc2⟩ := P1 q hq
            cases e2
            rw [Go.WideShapes.add_plain, hc2]
            simp [List.getD, hq]
          have CE := Lib.hid cells
          have e : nWords ls (j + 1) = nWords ls j + (lsAt ls j).length := rfl
          have nb := NT.out (j + 1) hjl
          have fl := FL.out j
          have nx : Hid (flatTo ls (j + 1) = flatTo ls j ++ lsAt ls j) := Lib.hid rfl
          have bd : (flatTo ls j).length + (lsAt ls j).length ≤ 720 := by omega
          clear hB p0 p1 p3 P1 cells e nb fl
          generalize flatTo ls j = xs at *
          generalize lsAt ls j = x at *
          go_wp2_with (at_builtin; refine wpList_append_own _ rfl _ _ 37 rfl w.heap.size 9 i0 (.string ⟨#[]⟩) 1 16 Try.underlying37 hi hz0 hz1 hz2 rfl (by decide) _ _ _ rfl OO.out ⟨g, 0, none⟩ x.length sc (x.map Value.string) rfl (by simp) CE.out (fun u hu => by obtain ⟨s, _, rfl⟩ := List.mem_map.1 hu; rfl) (by unfold maxLen; omega) (by omega) s1 ?_; intro v' w4 hown hgrow _; have P := Lib.hid (ownStrs_app hown); have G := Lib.hid hgrow; clear hown hgrow)
          exact ⟨⟨j + 1, hjl, by rw [Int.natCast_succ], by rw [nx.out]; exact P.out, Below.grown BB.out G.out s1 (fun k hk => ownStrs_lt OO.out k hk)⟩, by (simp [intOf]) <;> omega⟩
        · have e : j = ls.length := by omega
          subst e
          have hd : decide ((ls.length : Int) < (ls.length : Int)) = false := by simp
          clear hB
          go_wp2
          go_ret
          exact ⟨_, rfl, OO.out, BB.out⟩
end Go.Proofs.Ytoippchkhknhpaa

namespace Go.Proofs.Ytoippchkhknhpaa
open Go.ChangeShapes Go.WideShapes Go.ChangeAt Go.RowKit
attribute [local go_sem] Oper.semAt_some

theorem cell_eq {A B : World} {b o : Nat} (h : B.heap[b]? = A.heap[b]?) : B.cell? ⟨b, o, none⟩ = A.cell? ⟨b, o, none⟩ := by unfold World.cell?; simp only [h]
/-- What a round keeps: the iterator's two boxes, and the masks. -/
def KpD (L bm bh : Nat) (ad : Option Addr) (A B : World) : Prop := A.heap.size ≤ B.heap.size ∧ B.heap[bm]? = A.heap[bm]? ∧ B.heap[bh]? = A.heap[bh]? ∧ ∀ b o, ad = some ⟨b, o, none⟩ → b < L → B.heap[b]? = A.heap[b]?
theorem KpD.trans {L bm bh : Nat} {ad : Option Addr} {A B C : World} (h : KpD L bm bh ad A B) (k : KpD L bm bh ad B C) : KpD L bm bh ad A C := ⟨Nat.le_trans h.1 k.1, k.2.1.trans h.2.1, k.2.2.1.trans h.2.2.1, fun b o e l => (k.2.2.2 b o e l).trans (h.2.2.2 b o e l)⟩
theorem KpD.masks {L bm bh : Nat} {ad : Option Addr} {A B : World} {ms : List (Int × Int)} (h : KpD L bm bh ad A B) (hL : ∀ b o, ad = some ⟨b, o, none⟩ → 0 < ms.length → b < L) (hc : MasksIn A ad ms) : MasksIn B ad ms := fun i hi => by
  obtain ⟨b, o, ha, hlt, h0, h1⟩ := hc i hi
  have e := h.2.2.2 b o ha (hL b o ha (by omega))
  exact ⟨b, o, ha, Nat.lt_of_lt_of_le hlt h.1, (cell_eq e).trans h0, (cell_eq e).trans h1⟩

theorem dropping_any (ad : Option Addr) (n c : Nat) (x y : Int) (w : World) :
    Calls Try.prog 86 #[.slice ad n c, .agg #[.int .u64 x, .int .u64 y]] w fun e w' => e = .returned (.func (.func 117) #[] #[.pointer (some ⟨w.heap.size, 0, none⟩), .pointer (some ⟨w.heap.size + 1, 0, none⟩)]) ∧ w'.cell? ⟨w.heap.size, 0, none⟩ = some (.slice ad n c) ∧ (w'.cell? ⟨w.heap.size + 1, 0, none⟩ = some (.int .u64 x) ∧ w'.cell? ⟨w.heap.size + 1, 1, none⟩ = some (.int .u64 y)) ∧ w'.heap.size = w.heap.size + 2 ∧ Below w.heap.size w w' := by
  have hmf : ∀ (fn : Fn) (first cap : Array Value) (w : World), (Instr.makeFunc fn first cap).run Try.prog w = .ok (.func fn first cap) w := fun _ _ _ _ => rfl
  go_enter Try.func86, Try.ntmps86
  go_wp2
  go_returns
  exact ⟨rfl, (box2_0 ..).trans rfl, ⟨(box2_1 ..).trans rfl, (box2_1 ..).trans rfl⟩, by simp, (by repeat' (first | (with_reducible exact Below.refl _ _) | (with_reducible assumption) | (with_reducible refine below_drewN ?_ _) | (with_reducible refine Below.drew ?_) | (with_reducible refine below_new ?_ _) | (with_reducible refine below_next ?_ (by with_reducible assumption)) | (with_reducible refine Below.setCell ?_ ?_ _) | go_size))⟩

set_option maxRecDepth 100000 in
set_option maxHeartbeats 2000000 in
theorem dropping_by (bm bh : Nat) (ad : Option Addr) (ms : List (Int × Int)) (c : Nat) (x y : Int) (nb : ms.length ≤ 1048576) (w : World) (l1 : bm < w.heap.size) (l2 : bh < w.heap.size) (c1 : w.cell? ⟨bm, 0, none⟩ = some (.slice ad ms.length c)) (c2 : w.cell? ⟨bh, 0, none⟩ = some (.int .u64 x)) (c3 : w.cell? ⟨bh, 1, none⟩ = some (.int .u64 y)) (hM : MasksIn w ad ms) :
    SeqBy Try.prog 117 #[.pointer (some ⟨bm, 0, none⟩), .pointer (some ⟨bh, 0, none⟩)] (fun i : Int => #[.int .i64 i]) (KpD w.heap.size bm bh ad) (fun A B => Below A.heap.size A B)
      (fun xs => xs = idx (dropsAt x y ms) ms.length) (fun _ => True)
      (fun pre i => ∃ k : Nat, k < ms.length ∧ dropsAt x y ms k = true ∧ pre = idx (dropsAt x y ms) k ∧ i = (k : Int)) (fun _ => True) w := by
  intro l J Jx W hW hJ hJx _ hY h0
  have C1 := (hW.cell (p := ⟨bm, 0, none⟩) l1).trans c1
  have C2 := (hW.cell (p := ⟨bh, 0, none⟩) l2).trans c2
  have C3 := (hW.cell (p := ⟨bh, 1, none⟩) l2).trans c3
  have L2 : bh < W.heap.size := Nat.lt_of_lt_of_le l2 hW.size
  have E1 := Lib.hid (masksIn_below hM hW)
  have HL := Lib.hid (show ∀ b o, ad = some ⟨b, o, none⟩ → 0 < ms.length → b < w.heap.size from fun b o e h => by obtain ⟨b', o', e', hlt, _⟩ := hM 0 h; rw [e] at e'; cases e'; exact hlt)
  have HY := Lib.hid hY
  have HJ := Lib.hid hJ
  have J0 := Lib.hid h0
  have IW := Lib.hid fun m1 m2 W => iWithin_any x y m1 m2 W
  clear hW hM c1 c2 c3 l1 l2 hY hJ h0
  refine callsIn_of_wp Try.func117 rfl trivial ?_ rfl
  simp only [Try.ntmps117, List.size_toArray, List.length_cons, List.length_nil, Nat.reduceAdd, Nat.reduceSub, Array.replicate_succ, Array.replicate_zero, List.push_toArray, List.append_toArray, List.nil_append, List.cons_append]
  gi_wp2
  gi_loopw [8] (fun i wr => ∃ k : Nat, k ≤ ms.length ∧ i = .int .i64 k ∧ J (idx (dropsAt x y ms) k) wr ∧ (wr.cell? ⟨bh, 0, none⟩ = some (.int .u64 x) ∧ wr.cell? ⟨bh, 1, none⟩ = some (.int .u64 y) ∧ bh < wr.heap.size) ∧ MasksIn wr ad ms) (fun i _ => ms.length - (intOf i).toNat)
  case atStart => exact ⟨0, Nat.zero_le _, rfl, J0.out, ⟨C2, C3, L2⟩, E1.out⟩
  case round =>
    obtain ⟨k, hk, rfl, hJp, ⟨k2, k3, y2⟩, hMk⟩ := hrel
    have JP := Lib.hid hJp
    have MK := Lib.hid hMk
    clear hJp hMk E1 J0 C1 C2 C3 L2
    by_cases hkl : k < ms.length
    · have hdd : decide ((k : Int) < (ms.length : Int)) = true := by simpa using hkl
      obtain ⟨b1, o1, rfl, hb1, p0, p1⟩ := MK.out k hkl
      have i1 : (0 : Int) ≤ (k : Int) := by omega
      have i2 : (k : Int) < (ms.length : Int) := by omega
      have x1 : IntKind.i64.wrap ((k : Int) + 1) = (k : Int) + 1 := IntWalk.i64_in _ (by omega)
      have I := fun W => IW.out (ms.getD k (0, 0)).1 (ms.getD k (0, 0)).2 W
      change ∀ W : World, Calls _ _ _ W (fun e w' => e = .returned (.bool (dropsAt x y ms k)) ∧ Below W.heap.size W w') at I
      have YES := fun h => Lib.hid (idx_yes (p := dropsAt x y ms) (k := k) h)
      have NO := fun h => Lib.hid (idx_no (p := dropsAt x y ms) (k := k) h)
      have AS := fun h => Lib.hid (show ∃ k' : Nat, k' < ms.length ∧ dropsAt x y ms k' = true ∧ idx (dropsAt x y ms) k = idx (dropsAt x y ms) k' ∧ (k : Int) = (k' : Int) from ⟨k, hkl, h, rfl, rfl⟩)
      have yr : b1 < wr.heap.size := hb1
      generalize (ms.getD k (0, 0)).1 = m1 at *
      generalize (ms.getD k (0, 0)).2 = m2 at *
      cases hq : dropsAt x y ms k
      · have NN := NO hq
        rw [hq] at I
        have I := Lib.hid I
        clear YES NO AS hq HY
        gi_wp2_with (first | (refine ⟨trivial, rfl, ?_⟩; gi_at_call 59; refine (callsIn_wide.2 (I.out _)).mono ?_; rintro e w9 ⟨rfl, hB⟩; have D9 := Lib.hid (Ab.trans (ab_new wr _) hB); clear hB) | (refine ⟨fun _ hf => absurd hf (by simp), ?_⟩))
        all_goals exact ⟨⟨k + 1, hkl, by rw [Int.natCast_succ], by rw [NN.out]; exact HJ.out _ _ _ JP.out D9.out, ⟨(D9.out.cell (p := ⟨bh, 0, none⟩) y2).trans k2, (D9.out.cell (p := ⟨bh, 1, none⟩) y2).trans k3, Nat.lt_of_lt_of_le y2 D9.out.size⟩, masksIn_below MK.out D9.out⟩, by (simp [intOf]) <;> omega⟩
      · have YY := YES hq
        have AK := AS hq
        rw [hq] at I
        have I := Lib.hid I
        clear YES NO AS hq
        gi_wp2_with (refine ⟨trivial, rfl, ?_⟩; gi_at_call 59; refine (callsIn_wide.2 (I.out _)).mono ?_; rintro e w9 ⟨rfl, hB⟩; have D9 := Lib.hid (Ab.trans (ab_new wr _) hB); have J9 := HJ.out _ _ _ JP.out D9.out; obtain ⟨fn, tmps, assign, body, hy, hR⟩ := HY.out _ (k : Int) w9 J9 AK.out; have hy2 : (Instr.yield l #[.int .i64 (k : Int)]).run Try.prog w9 = _ := hy; clear hB hy J9)
        refine ⟨rfl, hR.mono ?_⟩
        rintro e W2 (⟨rfl, hJ2, hk2⟩ | ⟨rfl, hJ2⟩)
        · have M2 := Lib.hid (hk2.masks HL.out (masksIn_below MK.out D9.out))
          have q2 := (cell_eq (o := 0) hk2.2.2.1).trans ((D9.out.cell (p := ⟨bh, 0, none⟩) y2).trans k2)
          have q3 := (cell_eq (o := 1) hk2.2.2.1).trans ((D9.out.cell (p := ⟨bh, 1, none⟩) y2).trans k3)
          have z2 : bh < W2.heap.size := Nat.lt_of_lt_of_le (Nat.lt_of_lt_of_le y2 D9.out.size) hk2.1
          have J2 := Lib.hid hJ2
          clear hk2 hJ2
          gi_wp2
          exact ⟨⟨k + 1, hkl, by rw [Int.natCast_succ], by rw [YY.out]; exact J2.out, ⟨q2, q3, z2⟩, M2.out⟩, by (simp [intOf]) <;> omega⟩
        · have J2 := Lib.hid hJ2
          clear hJ2
          gi_wp2
          first | go_end0 | refine bodyPost_ret (results_none rfl _ _ _) rfl ?_
          exact ⟨⟨_, rfl⟩, .inr ⟨_, trivial, J2.out⟩⟩
    · have e : k = ms.length := by omega
      subst e
      have hdd : decide ((ms.length : Int) < (ms.length : Int)) = false := by simp
      clear HY
      gi_wp2
      first | go_end0 | refine bodyPost_ret (results_none rfl _ _ _) rfl ?_
      exact ⟨⟨_, rfl⟩, .inl ⟨_, rfl, JP.out⟩⟩
end Go.Proofs.Ytoippchkhknhpaa

namespace Go.Proofs.Ytoippchkhknhpaa
open Go.ChangeShapes Go.WideShapes Go.ChangeAt Go.RowKit
attribute [local go_sem] Oper.semAt_some

theorem own_row {B : Nat} {zs : List Int} {v : Value} {w : World} (h : OwnInts B zs v w) : w.ownsRow B 2 1 v zs.length (zs.map (Value.int .i64)) := h
/-- What the words' holes are. -/
def dofL (t z : Int) (F : Int → Nat) (ms : List (Int × Int)) (zs : List ByteArray) : List Int := idx (dropsAt (A0 t z F zs zs.length : Int) (A1 t z F zs zs.length : Int) ms) ms.length
theorem ask_masks {ms : List (Int × Int)} {zs : List ByteArray} {m : Nat} (h : askC true ms zs m = 0) : masksOk ms = true ∧ ms.length ≤ 60 ∧ wordsOk zs m = true := by
  cases h1 : masksOk ms
  · rw [ask_2 zs m h1] at h; exact absurd h (by decide)
  · by_cases h2 : 60 < ms.length
    · rw [ask_3 zs m h1 h2] at h; exact absurd h (by decide)
    · rw [ask_4 zs m h1 (by omega)] at h
      cases h3 : wordsOk zs m
      · rw [wordsC_no h3] at h; exact absurd h (by decide)
      · exact ⟨rfl, by omega, rfl⟩

set_option maxRecDepth 100000 in
set_option maxHeartbeats 2000000 in
theorem iDofNo (t z p : Int) (ht : I16 t) (hz : I16 z) (am : Option Addr) (ms : List (Int × Int)) (cm : Nat) (ad : Option Addr) (zs : List ByteArray) (cap : Nat) (w : World) (hm : MasksIn w am ms) (h : StrsIn w ad zs) (hf : Fit zs) (lm : ms.length ≤ 9223372036854775807) (hl : zs.length ≤ 9223372036854775807) (hc : askC (mixOk t z p) ms zs 12 ≠ 0) :
    Calls Try.prog 38 #[.agg #[.int .i16 t, .int .i16 z, .int .i16 p], .slice am ms.length cm, .slice ad zs.length cap] w (MwR (askC (mixOk t z p) ms zs 12) [] w) := by
  have V := Lib.hid fun W => iValidMix_any t z p ht hz W
  have B0 := Lib.hid (below_new (Below.refl w.heap.size w) (.cells #[.int .i16 t, .int .i16 z, .int .i16 p] 30))
  have K := Lib.hid fun W hb => iAreMasks_any am ms cm W (masksIn_below hm hb) lm
  have S := Lib.hid fun W hb => iAreWords_any ad zs cap 12 W (strsIn_below h hb) hf hl
  clear h hf ht hz hm
  cases hv : mixOk t z p
  · rw [hv] at V
    rw [ask_1]
    clear hv hc
    go_enter Try.func38, Try.ntmps38
    go_wp2_with (first | (go_at_call 72; refine (V.out _).mono ?_; rintro e w1 ⟨rfl, hB⟩; have b1 := Lib.hid (B0.out.trans (Below.mono hB B0.out.size)); clear hB))
    go_ret2
    exact ⟨_, rfl, u_nil _ _, b1.out⟩
  · rw [hv] at V hc
    clear hv
    cases h1 : masksOk ms
    · rw [h1] at K
      rw [ask_2 zs 12 h1]
      clear h1 hc
      go_enter Try.func38, Try.ntmps38
      go_wp2_with (first | (go_at_call 72; refine (V.out _).mono ?_; rintro e w1 ⟨rfl, hB⟩; have b1 := Lib.hid (B0.out.trans (Below.mono hB B0.out.size)); clear hB) | (go_at_call 85; refine (K.out _ b1.out).mono ?_; rintro e w2 ⟨rfl, hB⟩; have b2 := Lib.hid (b1.out.trans (Below.mono hB b1.out.size)); clear hB))
      go_ret2
      exact ⟨_, rfl, u_nil _ _, b2.out⟩
    · rw [h1] at K
      by_cases h2 : 60 < ms.length
      · have d2 : decide ((60 : Int) < (ms.length : Int)) = true := by simp; omega
        rw [ask_3 zs 12 h1 h2]
        clear h1 h2 hc
        go_enter Try.func38, Try.ntmps38
        go_wp2_with (first | (go_at_call 72; refine (V.out _).mono ?_; rintro e w1 ⟨rfl, hB⟩; have b1 := Lib.hid (B0.out.trans (Below.mono hB B0.out.size)); clear hB) | (go_at_call 85; refine (K.out _ b1.out).mono ?_; rintro e w2 ⟨rfl, hB⟩; have b2 := Lib.hid (b1.out.trans (Below.mono hB b1.out.size)); clear hB))
        go_ret2
        exact ⟨_, rfl, u_nil _ _, b2.out⟩
      · have d2 : decide ((60 : Int) < (ms.length : Int)) = false := by simp; omega
        rw [ask_4 zs 12 h1 (by omega)] at hc ⊢
        cases h3 : wordsOk zs 12
        · rw [h3] at S
          rw [wordsC_no h3]
          clear h1 h2 hc h3
          go_enter Try.func38, Try.ntmps38
          go_wp2_with (first | (go_at_call 72; refine (V.out _).mono ?_; rintro e w1 ⟨rfl, hB⟩; have b1 := Lib.hid (B0.out.trans (Below.mono hB B0.out.size)); clear hB) | (go_at_call 85; refine (K.out _ b1.out).mono ?_; rintro e w2 ⟨rfl, hB⟩; have b2 := Lib.hid (b1.out.trans (Below.mono hB b1.out.size)); clear hB) | (go_at_call 78; refine (S.out _ b2.out).mono ?_; rintro e w3 ⟨rfl, rfl⟩))
          go_ret2
          exact ⟨_, rfl, u_nil _ _, b2.out⟩
        · exact absurd (wordsC_yes h3) hc

set_option maxRecDepth 100000 in
set_option maxHeartbeats 4000000 in
theorem iDofYes (t z p : Int) (ht : I16 t) (hz : I16 z) (F : Int → Nat) (hF : StopF t z p F) (am : Option Addr) (ms : List (Int × Int)) (cm : Nat) (ad : Option Addr) (zs : List ByteArray) (cap : Nat) (w : World) (hm : MasksIn w am ms) (h : StrsIn w ad zs) (hf : Fit zs) (hl : zs.length ≤ 9223372036854775807) (hmix : mixOk t z p = true) (hc : askC true ms zs 12 = 0) :
    Calls Try.prog 38 #[.agg #[.int .i16 t, .int .i16 z, .int .i16 p], .slice am ms.length cm, .slice ad zs.length cap] w (MwR 0 (dofL t z F ms zs) w) := by
  obtain ⟨m1, m2, m3⟩ := ask_masks hc
  obtain ⟨i0, hi, hz0, hz1, hz2⟩ := info_parts info_i64
  obtain ⟨t0, z0, tz, p1, p8, pz⟩ := mix_inv hmix
  have V := fun W => iValidMix_any t z p ht hz W
  rw [hmix] at V
  have V := Lib.hid V
  have M0 := Lib.hid (block_alloc w (.cells #[.int .i16 t, .int .i16 z, .int .i16 p] 30))
  have B0 := Lib.hid (below_new (Below.refl w.heap.size w) (.cells #[.int .i16 t, .int .i16 z, .int .i16 p] 30))
  have K := fun W hb => iAreMasks_any am ms cm W (masksIn_below hm hb) (by omega)
  have S := fun W hb => iAreWords_any ad zs cap 12 W (strsIn_below h hb) hf hl
  rw [m1] at K
  rw [m3] at S
  have K := Lib.hid K
  have S := Lib.hid S
  have HM := Lib.hid hm
  have A := Lib.hid fun W (hb : Below w.heap.size w W) => iAll_any t z p F hF t0 z0 tz p1 p8 ad zs cap W (strsIn_below h hb) hf hl
  have d2 : decide ((60 : Int) < (ms.length : Int)) = false := by simp; omega
  unfold dofL
  generalize (A0 t z F zs zs.length : Int) = X at *
  generalize (A1 t z F zs zs.length : Int) = Y at *
  have DR := Lib.hid fun W => dropping_any am ms.length cm X Y W
  have DB := Lib.hid fun bm bh W h1 h2 h3 h4 h5 h6 => dropping_by bm bh am ms cm X Y (by omega) W h1 h2 h3 h4 h5 h6
  clear hm h hf ht hz hF hmix hc m1 m3
  refine (callsIn_wide (n := 0)).1 (callsIn_of_wp_marks Try.func38 rfl trivial ?_ rfl)
  simp only [Try.ntmps38, List.size_toArray, List.length_cons, List.length_nil, Nat.reduceAdd, Nat.reduceSub, Array.replicate_succ, Array.replicate_zero, List.push_toArray, List.append_toArray, List.nil_append, List.cons_append]
  refine wpIn_wide.2 ?_
  go_wp2_with (first
    | (go_at_call 72; refine (V.out _).mono ?_; rintro e w1 ⟨rfl, hB⟩; have b1 := Lib.hid (B0.out.trans (Below.mono hB B0.out.size)); have a1 := Lib.hid (Ab.block hB M0.out); clear hB)
    | (go_at_call 85; refine (K.out _ b1.out).mono ?_; rintro e w2 ⟨rfl, hB⟩; have b2 := Lib.hid (b1.out.trans (Below.mono hB b1.out.size)); have a2 := Lib.hid (Ab.block hB a1.out); have g0 := cell_of_block a2.out 0; have g1 := cell_of_block a2.out 1; have g2 := cell_of_block a2.out 2; have s2 := lt_of_block a2.out; clear hB)
    | (go_at_call 78; refine (S.out _ b2.out).mono ?_; rintro e w3 ⟨rfl, rfl⟩)
    | (go_at_call 87; refine (A.out _ (b2.out.alloc b2.out.size _)).mono ?_; rintro e w4 ⟨rfl, hB⟩; have B4 := Lib.hid hB; clear hB)
    | (go_at_call 86; refine (DR.out _).mono ?_; rintro e w5 ⟨rfl, p1, p2, hz, hB⟩; have P1 := Lib.hid p1; have P2 := Lib.hid p2; have B5 := Lib.hid hB; have hz5 := Nat.le_of_eq hz.symm; clear p1 p2 hB hz))
  have hz4 : w2.heap.size < w4.heap.size := by have := B4.out.size; simp at this; omega
  have k4 := (B4.out.cell (p := ⟨w2.heap.size, 0, none⟩) (by simp)).trans (show (w2.alloc (.cells #[.slice none 0 0] 39)).cell? ⟨w2.heap.size, 0, none⟩ = some (.slice none 0 0) by simp)
  have f4 := (B4.out.frozen (p := ⟨w2.heap.size, 0, none⟩) (by simp)).trans (show (w2.alloc (.cells #[.slice none 0 0] 39)).frozen? ⟨w2.heap.size, 0, none⟩ = false by simp)
  have c1 := (B5.out.cell (p := ⟨w2.heap.size, 0, none⟩) (by exact hz4)).trans k4
  have f1 := (B5.out.frozen (p := ⟨w2.heap.size, 0, none⟩) (by exact hz4)).trans f4
  have lw : w.heap.size ≤ w2.heap.size := b2.out.size
  have BW := Lib.hid (b2.out.trans (Below.mono ((ab_new w2 _).trans (Below.mono (B4.out.trans (Below.mono B5.out B4.out.size)) (by simp))) lw))
  have hq := DB.out _ _ w5 (by omega) (by omega) P1.out P2.out.1 P2.out.2 (masksIn_below HM.out BW.out)
  clear P1 P2 B4 B5 DR DB V K S A k4 f4 g0 g1 g2 s2 a1 a2 M0 b1
  refine wp_rangeO rfl (enters_of Try.func117 (by kernel_rfl) rfl) hq (fun _ => rfl) KpD.trans
    (fun A B hAB => ⟨hAB.size, hAB.block _ (by omega), hAB.block _ (by omega), fun b o _ hb => hAB.block b hb⟩) (fun A B hAB k _ hk2 => hAB.block k hk2)
    (fun pre W => (∃ v, W.cell? ⟨w2.heap.size, 0, none⟩ = some v ∧ OwnInts (w5.heap.size + 2) pre v W) ∧ W.frozen? ⟨w2.heap.size, 0, none⟩ = false ∧ w5.heap.size ≤ W.heap.size ∧ Below w.heap.size w W)
    (fun _ _ _ => False)
    ?i1 (fun _ _ _ _ h => h.elim) ?i3 ?i4 (fun _ _ _ _ _ _ _ _ _ h => h.elim) (fun _ _ _ => trivial) ⟨⟨_, c1, u_nil _ _⟩, f1, Nat.le_refl _, BW.out⟩
    (fun q => { tmps := #[.agg #[.int .i16 t, .int .i16 z, .int .i16 p], .slice am ms.length cm, .slice ad zs.length cap, .pointer (some ⟨w.heap.size, 0, none⟩), undef, undef, .slice none 0 0, .int .i64 0, .pointer (some ⟨w2.heap.size, 0, none⟩), .int .i64 q, .agg #[.int .i16 t, .int .i16 z, .int .i16 p], .bool true, .bool false, .bool false, .slice am ms.length cm, .bool true, .bool false, .bool false, .slice am ms.length cm, .int .i64 ms.length, .bool false, .bool false, .slice ad zs.length cap, .bool true, .bool false, .bool false, .slice am ms.length cm, .agg #[.int .i16 t, .int .i16 z, .int .i16 p], .slice ad zs.length cap, .agg #[.int .u64 X, .int .u64 Y], .func (.func 117) #[] #[.pointer (some ⟨w4.heap.size, 0, none⟩), .pointer (some ⟨w4.heap.size + 1, 0, none⟩)], .int .i64 q, undef, undef, undef, undef, undef], defers := [] }) ?assign ?body ?done (fun _ _ _ _ h => h.elim)
  case i1 =>
    rintro pre A B ⟨⟨v, h2, hO⟩, h4, h7, h8⟩ hs
    exact ⟨⟨v, (hs.cell (p := ⟨w2.heap.size, 0, none⟩) (by simp; omega)).trans h2, ownInts_kept hO hs⟩, (hs.frozen (p := ⟨w2.heap.size, 0, none⟩) (by simp; omega)).trans h4, Nat.le_trans h7 hs.size, h8.trans (hs.mono (by omega))⟩
  case i3 =>
    rintro pre A o hA ⟨⟨v, h2, hO⟩, h4, h7, h8⟩
    have hs := below_new (Below.refl A.heap.size A) o
    exact ⟨⟨v, (hs.cell (p := ⟨w2.heap.size, 0, none⟩) (by simp; omega)).trans h2, World.ownsRow.alloc hO _⟩, (hs.frozen (p := ⟨w2.heap.size, 0, none⟩) (by simp; omega)).trans h4, Nat.le_trans h7 hs.size, h8.trans (hs.mono (by omega))⟩
  case i4 =>
    rintro pre A k o o' hk hl ho ⟨⟨v, h2, hO⟩, h4, h7, h8⟩
    have hs : Below w5.heap.size A (A.putObj k o') := below_put hk
    exact ⟨⟨v, (hs.cell (p := ⟨w2.heap.size, 0, none⟩) (by simp; omega)).trans h2, ownsRow_putObj hO o' hl ho⟩, (hs.frozen (p := ⟨w2.heap.size, 0, none⟩) (by simp; omega)).trans h4, by simpa using h7, h8.trans (hs.mono (by omega))⟩
  case assign =>
    intro l x W K hK
    gi_wp2
    first | exact hK | (go_simp; exact hK) | (simp; exact hK)
  case body =>
    rintro l pre x W ⟨⟨v, h2, hO⟩, h4, h7, h8⟩ ⟨k, hk, _, hp, rfl⟩ hlt
    have hpl := idx_len (dropsAt X Y ms) k
    rw [← hp] at hpl
    have R := Lib.hid (own_row hO)
    have BW := Lib.hid h8
    have lt := u_lt hO
    clear hq hp hO h8
    gi_wp2_with (gi_at_builtin; go_loud (refine wpListIn_append_own _ rfl _ _ 39 rfl (w5.heap.size + 2) 2 i0 (.int .i64 0) 1 8 Try.underlying39 hi hz0 hz1 hz2 rfl (by decide) _ _ _ rfl (World.ownsRow.alloc R.out _) ⟨W.heap.size, 0, none⟩ 1 1 [.int .i64 (k : Int)] rfl rfl (u_one_new _ _ _) (fun x hx => by simp at hx; subst hx; rfl) (by unfold maxLen; omega) (by omega) (by simp; omega) ?_; intro v' w6 hown hgrow _; have P0 := u_push hown; obtain ⟨av, cv, rfl, _⟩ := ownInts_in P0; rw [show (pre ++ [(k : Int)]).length = pre.length + 1 from by simp] at P0; have P := Lib.hid P0; clear P0; have G := Lib.hid (Below.grown ((Below.refl (w5.heap.size + 2) W).alloc (by omega) (.cells #[.int .i64 (k : Int)] 2)) hgrow (by simp; omega) lt); have k5 := (G.out.cell (p := ⟨w2.heap.size, 0, none⟩) (by simp; omega)).trans h2; have z5 := G.out.frozen (p := ⟨w2.heap.size, 0, none⟩) (by simp; omega); rw [h4] at z5; clear hown hgrow))
    have bk : ∀ j, j < w5.heap.size + 2 → j ≠ w2.heap.size → (w6.setCell ⟨w2.heap.size, 0, none⟩ (.slice av (pre.length + 1) cv)).heap[j]? = W.heap[j]? := fun j hj hne => (Below.heap_setCell _ _ _ _ (by simp; omega)).trans (G.out.block j hj)
    have gs := G.out.size
    refine ⟨⟨bk _ (by omega) (by omega), bk _ (by omega) (by omega)⟩, ⟨by simp [World.setCell]; omega, bk _ (by omega) (by omega), bk _ (by omega) (by omega), fun b o e hb => ?_⟩, ⟨_, World.cell?_setCell_same' _ _ _ (by rw [k5]; rfl), ownsRow_setCell_below P.out (by simp; omega) _⟩, by rw [World.frozen?_setCell]; exact z5, by simp [World.setCell]; omega, (BW.out.trans (G.out.mono (by omega))).setCell (p := ⟨w2.heap.size, 0, none⟩) (by simp; omega) _⟩
    have hne : b ≠ w2.heap.size := by
      obtain ⟨b', o', e', hlt', _⟩ := HM.out k hk
      rw [e] at e'
      cases e'
      omega
    exact bk b (by omega) hne
  case done =>
    rintro xs W rfl ⟨⟨v, h2, hO⟩, h4, h7, h8⟩ hK
    have OO := Lib.hid hO
    clear hO
    go_wp2
    refine ⟨by simp, .inl ⟨_, _, rfl, run_takeDeferred hK, ?_⟩⟩
    refine ⟨.tuple #[v, .int .i64 0], ?_, v, rfl, u_weaken (ownsRow_putObj OO.out _ hK rfl) (by omega), h8.trans (below_put (by omega))⟩
    simp [results, Try.results38, go_sem]

theorem iDof_any (t z p : Int) (ht : I16 t) (hz : I16 z) (F : Int → Nat) (hF : mixOk t z p = true → StopF t z p F) (am : Option Addr) (ms : List (Int × Int)) (cm : Nat) (ad : Option Addr) (zs : List ByteArray) (cap : Nat) (w : World) (hm : MasksIn w am ms) (h : StrsIn w ad zs) (hf : Fit zs) (lm : ms.length ≤ 9223372036854775807) (hl : zs.length ≤ 9223372036854775807) :
    Calls Try.prog 38 #[.agg #[.int .i16 t, .int .i16 z, .int .i16 p], .slice am ms.length cm, .slice ad zs.length cap] w (MwR (askC (mixOk t z p) ms zs 12) (mayL (askC (mixOk t z p) ms zs 12) (dofL t z F ms zs)) w) := by
  by_cases hc : askC (mixOk t z p) ms zs 12 = 0
  · have hv := ask_ok hc
    rw [hv] at hc
    rw [hv, hc, mayL_yes]
    exact iDofYes t z p ht hz F (hF hv) am ms cm ad zs cap w hm h hf hl hv hc
  · rw [mayL_no hc]
    exact iDofNo t z p ht hz am ms cm ad zs cap w hm h hf lm hl hc
end Go.Proofs.Ytoippchkhknhpaa

namespace Go.Proofs.Ytoippchkhknhpaa
open Go.ChangeShapes Go.WideShapes Go.ChangeAt Go.RowKit

set_option maxHeartbeats 3200000 in
theorem sDropped_any (x y : Int) (hx : U64 x) (hy : U64 y) (am : Option Addr) (ms : List (Int × Int)) (cm : Nat) (w : World) (hm : MasksIn w am ms) (hU : ∀ i, i < ms.length → U64 (ms.getD i (0, 0)).1 ∧ U64 (ms.getD i (0, 0)).2) (hl : ms.length ≤ 1048576) :
    Calls Try.prog 84 #[.slice am ms.length cm, .agg #[.int .u64 x, .int .u64 y]] w (NumR (idx (dropsAt x y ms) ms.length) w) := by
  obtain ⟨i0, hi, hz0, hz1, hz2⟩ := info_parts info_i64
  have H := Lib.hid hm
  have IW := Lib.hid fun k (hk : k < ms.length) W => sIsWithin_any x y (ms.getD k (0, 0)).1 (ms.getD k (0, 0)).2 hx hy (hU k hk).1 (hU k hk).2 W
  clear hm hx hy hU
  have hbw := cell_bw
  go_enter Try.func84, Try.ntmps84
  go_wp2
  go_loopw [5, 6] (fun v i wr => ∃ j : Nat, j ≤ ms.length ∧ i = .int .i64 j ∧ OwnInts (w.heap.size + 1) (idx (dropsAt x y ms) j) v wr ∧ wr.heap[w.heap.size]? = some (.cells #[.int .u64 x, .int .u64 y] 51 (0, 0)) ∧ Below w.heap.size w wr) (fun _ i _ => ms.length - (intOf i).toNat)
  case atStart => exact ⟨0, Nat.zero_le _, rfl, u_none (by simp) (by simp), (block_alloc2 _ _ _).1, below_new (below_new (Below.refl _ _) _) _⟩
  case round =>
    obtain ⟨j, hj, rfl, O, hM, hB⟩ := hrel
    have BB := Lib.hid hB
    have OO := Lib.hid O
    have MM := Lib.hid hM
    clear O
    by_cases hjl : j < ms.length
    · have hd : decide ((j : Int) < (ms.length : Int)) = true := by simpa using hjl
      obtain ⟨b1, o1, rfl, hb1, p0, p1⟩ := H.out j hjl
      have d0 := (hB.cell (p := ⟨b1, o1 + j * 2, none⟩) hb1).trans p0
      have d1 := (hB.cell (p := ⟨b1, o1 + j * 2 + 1, none⟩) hb1).trans p1
      have m0 := cell_of_block hM
      have y0 : w.heap.size < wr.heap.size := lt_of_block hM
      have y1 : b1 < wr.heap.size := Nat.lt_of_lt_of_le hb1 hB.size
      have i3 : (0 : Int) ≤ (j : Int) := by omega
      have i4 : (j : Int) < (ms.length : Int) := by omega
      have I := IW.out j hjl
      change ∀ W : World, Calls _ _ _ W (fun e w' => e = .returned (.bool (dropsAt x y ms j)) ∧ Below W.heap.size W w') at I
      have yes := Lib.hid fun h => idx_yes (p := dropsAt x y ms) (k := j) h
      have no := Lib.hid fun h => idx_no (p := dropsAt x y ms) (k := j) h
      have al := idx_len (dropsAt x y ms) j
      clear hB p0 p1 hM
      generalize idx (dropsAt x y ms) j = xs at *
      generalize dropsAt x y ms j = q at *
      generalize (ms.getD j (0, 0)).1 = m1 at *
      generalize (ms.getD j (0, 0)).2 = m2 at *
      cases q
      · have NO := Lib.hid (no.out rfl)
        have I := Lib.hid I
        clear yes no
        go_wp2_with fail
        refine region_bw (by kernel_rfl) (by kernel_rfl) ?_
        repeat (go_big_quiet_step (first | (go_at_call 82; exact calls_bw (I.out _))))
        refine wpQuiet_nil ?_; intro wq hq; replace hq := below_of_bw hq; obtain ⟨qc, qf, qz⟩ := bcell hq
        have M1 := Lib.hid (Ab.block hq MM.out)
        go_wp2_with fail
        exact ⟨⟨j + 1, hjl, by rw [Int.natCast_succ], by rw [NO.out]; exact ownInts_kept OO.out hq, M1.out, BB.out.trans (hq.mono BB.out.size)⟩, by (simp [intOf]) <;> omega⟩
      · have YE := Lib.hid (yes.out rfl)
        have I := Lib.hid I
        clear yes no
        go_wp2_with fail
        refine region_bw (by kernel_rfl) (by kernel_rfl) ?_
        repeat (go_big_quiet_step (first | (go_at_call 82; exact calls_bw (I.out _))))
        refine wpQuiet_nil ?_; intro wq hq; replace hq := below_of_bw hq; obtain ⟨qc, qf, qz⟩ := bcell hq
        have M1 := Lib.hid (Ab.block hq MM.out)
        have O1 := Lib.hid (ownInts_kept OO.out hq)
        have B1 := Lib.hid (BB.out.trans (hq.mono BB.out.size))
        have s1 := B1.out.size
        have l1 := lt_of_block M1.out
        clear d0 d1 m0 y0 y1 hq qc qf qz hbw
        go_wp2_with (at_builtin; refine wpList_append_own _ rfl _ _ 39 rfl (w.heap.size + 1) 2 i0 (.int .i64 0) 1 8 Try.underlying39 hi hz0 hz1 hz2 rfl (by decide) _ _ _ rfl (O1.out.alloc _) ⟨wq.heap.size, 0, none⟩ 1 1 [.int .i64 (j : Int)] rfl rfl (u_one_new _ _ _) (fun x hx => by simp at hx; subst hx; rfl) (by unfold maxLen; omega) (by omega) (by simp; omega) ?_; intro v' w4 hown hgrow _; have P := Lib.hid (u_push hown); have G := Lib.hid hgrow; clear hown hgrow)
        refine ⟨⟨j + 1, hjl, by rw [Int.natCast_succ], by rw [YE.out]; exact P.out, ?_, ?_⟩, by (simp [intOf]) <;> omega⟩
        · exact (G.out.block _ (by simp; omega) (fun e => by have := u_lt O1.out _ e.symm; omega)).trans ((block_old _ _ l1).trans M1.out)
        · exact Below.grown (B1.out.alloc s1 _) G.out (by simp; omega) (fun k hk => Nat.le_of_succ_le (u_lt O1.out k hk))
    · have e : j = ms.length := by omega
      subst e
      have hd : decide ((ms.length : Int) < (ms.length : Int)) = false := by simp
      clear hB hM
      go_wp2
      go_ret
      exact ⟨_, rfl, u_weaken OO.out (Nat.le_succ _), BB.out⟩

/-- A box of the call's own: a mix. -/
def Rx (w wr : World) (t z p : Int) : Prop := wr.heap[w.heap.size]? = some (.cells #[.int .i16 t, .int .i16 z, .int .i16 p] 30 (0, 0)) ∧ Below w.heap.size w wr
theorem rx_ab {w wr w' : World} {t z p : Int} (h : Rx w wr t z p) (k : Below wr.heap.size wr w') : Rx w w' t z p := ⟨Ab.block k h.1, h.2.trans (Below.mono k h.2.size)⟩
theorem rx_start (w : World) (t z p : Int) : Rx w (w.alloc (.cells #[.int .i16 t, .int .i16 z, .int .i16 p] 30)) t z p := ⟨block_alloc _ _, ab_new _ _⟩
theorem A_u64 {t z : Int} (F : Int → Nat) (zs : List ByteArray) (t0 : 0 ≤ t) (z0 : 4 ≤ z) (tz : t + z ≤ 96) : U64 (A0 t z F zs zs.length : Int) ∧ U64 (A1 t z F zs zs.length : Int) := by
  obtain ⟨h0, h1⟩ := A_lt F zs t0 (show 0 < z by omega) tz zs.length
  exact ⟨⟨by omega, by omega⟩, ⟨by omega, by omega⟩⟩

set_option maxRecDepth 100000 in
set_option maxHeartbeats 1600000 in
theorem sDofW_any (t z p : Int) (ht : I16 t) (hz : I16 z) (hp : I16 p) (F : Int → Nat) (hF : mixOk t z p = true → StopF t z p F) (am : Option Addr) (ms : List (Int × Int)) (cm : Nat) (ad : Option Addr) (zs : List ByteArray) (cap : Nat) (w : World) (hm : MasksIn w am ms) (hU : ∀ i, i < ms.length → U64 (ms.getD i (0, 0)).1 ∧ U64 (ms.getD i (0, 0)).2) (lm : ms.length ≤ 1048576) (h : StrsIn w ad zs) (hf : Fit zs) (hl : zs.length ≤ 9223372036854775807) :
    Calls Try.prog 36 #[.agg #[.int .i16 t, .int .i16 z, .int .i16 p], .slice am ms.length cm, .slice ad zs.length cap] w (MwR (askC (mixOk t z p) ms zs 12) (mayL (askC (mixOk t z p) ms zs 12) (dofL t z F ms zs)) w) := by
  have R0 := rx_start w t z p
  have Q := sAsk_any t z p ht hz hp w.heap.size 0 am ad ms zs cm cap 12 _ (by simp) (by simp) (by simp) (masksIn_below hm R0.2) (strsIn_below h R0.2) hf (by omega) hl
  have R := Lib.hid R0
  have H := Lib.hid h
  have HM := Lib.hid hm
  have FT := Lib.hid hf
  have UU := Lib.hid hU
  generalize hc : askC (mixOk t z p) ms zs 12 = c at Q ⊢
  have Q := Lib.hid Q
  clear h hm hf ht hz hp hU R0
  by_cases h0 : c = 0
  · subst h0
    have hv := ask_ok hc
    have hF := hF hv
    obtain ⟨t0, z0, tz, p1, p8, pz⟩ := mix_inv hv
    have A := Lib.hid fun W hs c0 c1 c2 => sAll_any t z p F hF t0 z0 tz p1 p8 ad zs cap w.heap.size 0 W hs FT.out hl c0 c1 c2
    obtain ⟨ux, uy⟩ := A_u64 F zs t0 z0 tz
    rw [mayL_yes]
    unfold dofL
    generalize (A0 t z F zs zs.length : Int) = X at *
    generalize (A1 t z F zs zs.length : Int) = Y at *
    have D := Lib.hid fun W hs => sDropped_any X Y ux uy am ms cm W hs UU.out lm
    clear hv hF hc ux uy
    generalize idx (dropsAt X Y ms) ms.length = xs at *
    go_enter Try.func36, Try.ntmps36
    go_wp2_with (first
      | (go_at_call 81; refine Q.out.mono ?_; rintro e w1 ⟨rfl, hB⟩; have r1 := Lib.hid (rx_ab R.out hB); clear hB)
      | (go_at_call 83; refine (A.out _ (strsIn_below H.out r1.out.2) (by simpa using cell_of_block r1.out.1 0) (by simpa using cell_of_block r1.out.1 1) (by simpa using cell_of_block r1.out.1 2)).mono ?_; rintro e w2 ⟨rfl, hB⟩; have r2 := Lib.hid (rx_ab r1.out hB); clear hB)
      | (go_at_call 84; refine (D.out _ (masksIn_below HM.out r2.out.2)).mono ?_; rintro e w3 ⟨v, rfl, hO, hB⟩; have O := Lib.hid hO; have B := Lib.hid hB; clear hO hB))
    go_ret2
    exact ⟨_, rfl, u_weaken O.out r2.out.2.size, r2.out.2.trans (Below.mono B.out r2.out.2.size)⟩
  · have d : (c == 0) = false := by simpa using h0
    have d2 : (c != 0) = true := by simp [h0]
    rw [mayL_no h0]
    clear hF hc
    go_enter Try.func36, Try.ntmps36
    go_wp2_with (go_at_call 81; refine Q.out.mono ?_; rintro e w1 ⟨rfl, hB⟩; have r2 := Lib.hid (rx_ab R.out hB); clear hB)
    go_ret2
    exact ⟨_, rfl, u_none rfl r2.out.2.size, r2.out.2.trans (Below.mono (ab_new _ _) r2.out.2.size)⟩
end Go.Proofs.Ytoippchkhknhpaa

namespace Go.Proofs.Ytoippchkhknhpaa
open Go.ChangeShapes Go.WideShapes Go.ChangeAt Go.RowKit
attribute [local go_sem] Oper.semAt_some

theorem idx_filter {d tr : Nat → Bool} {f : Int → Bool} : ∀ (m : Nat), (∀ k : Nat, k < m → f (k : Int) = !tr k) → (idx d m).filter f = idx (fun k => d k && !tr k) m
  | 0, _ => rfl
  | m + 1, h => by
    have ih := idx_filter (d := d) m (fun k hk => h k (by omega))
    have hm := h m (Nat.lt_succ_self m)
    cases hd : d m
    · rw [idx_no hd, ih, idx_no (p := fun k => d k && !tr k) (by show (d m && _) = false; rw [hd]; rfl)]
    · rw [idx_yes hd, List.filter_append, ih]
      cases ht : tr m
      · rw [ht] at hm
        rw [idx_yes (p := fun k => d k && !tr k) (by show (d m && !tr m) = true; rw [hd, ht]; rfl), List.filter_cons_of_pos hm]; rfl
      · rw [ht] at hm
        rw [idx_no (p := fun k => d k && !tr k) (by show (d m && !tr m) = false; rw [hd, ht]; rfl), List.filter_cons_of_neg (by rw [hm]; decide)]
        simp
/-- Does the mask with an index drop falsely? -/
def falseAt (x y : Int) (ms : List (Int × Int)) (ls : List (List ByteArray)) (zs : List ByteArray) (k : Nat) : Bool := dropsAt x y ms k && !trueAt ls zs k
/-- Those of some indices whose lists have not all words. -/
def fltT (ls : List (List ByteArray)) (zs : List ByteArray) (xs : List Int) : List Int := xs.filter fun x => !trueAt ls zs x.toNat
theorem fltT_yes {ls : List (List ByteArray)} {zs : List ByteArray} {xs : List Int} {k : Nat} (h : trueAt ls zs k = true) : fltT ls zs (xs ++ [(k : Int)]) = fltT ls zs xs := by
  unfold fltT
  rw [List.filter_append, List.filter_cons_of_neg (by simp [h])]
  simp
theorem fltT_no {ls : List (List ByteArray)} {zs : List ByteArray} {xs : List Int} {k : Nat} (h : trueAt ls zs k = false) : fltT ls zs (xs ++ [(k : Int)]) = fltT ls zs xs ++ [(k : Int)] := by
  unfold fltT
  rw [List.filter_append, List.filter_cons_of_pos (by simp [h])]
  rfl
theorem fltT_len (ls : List (List ByteArray)) (zs : List ByteArray) (xs : List Int) : (fltT ls zs xs).length ≤ xs.length := List.length_filter_le _ _
theorem fltT_all (x y : Int) (ms : List (Int × Int)) (ls : List (List ByteArray)) (zs : List ByteArray) (n : Nat) : fltT ls zs (idx (dropsAt x y ms) n) = idx (falseAt x y ms ls zs) n := idx_filter n fun k _ => by simp
theorem four_boxes (w : World) (a b c d : Obj) : ((((w.alloc a).alloc b).alloc c).alloc d).heap[w.heap.size]? = some a ∧ ((((w.alloc a).alloc b).alloc c).alloc d).heap[w.heap.size + 1]? = some b ∧ ((((w.alloc a).alloc b).alloc c).alloc d).heap[w.heap.size + 2]? = some c ∧ ((((w.alloc a).alloc b).alloc c).alloc d).heap[w.heap.size + 3]? = some d := by
  have e1 : (w.alloc a).heap.size = w.heap.size + 1 := World.size_alloc _ _
  have e2 : ((w.alloc a).alloc b).heap.size = w.heap.size + 2 := by rw [World.size_alloc, e1]
  have e3 : (((w.alloc a).alloc b).alloc c).heap.size = w.heap.size + 3 := by rw [World.size_alloc, e2]
  have h1 := block_alloc w a
  have h2 := block_alloc (w.alloc a) b
  have h3 := block_alloc ((w.alloc a).alloc b) c
  have h4 := block_alloc (((w.alloc a).alloc b).alloc c) d
  rw [e1] at h2
  rw [e2] at h3
  rw [e3] at h4
  exact ⟨Ab.block (ab_new _ _) (Ab.block (ab_new _ _) (Ab.block (ab_new _ _) h1)), Ab.block (ab_new _ _) (Ab.block (ab_new _ _) h2), Ab.block (ab_new _ _) h3, h4⟩

set_option maxRecDepth 100000 in
set_option maxHeartbeats 4000000 in
theorem iFalseD_any (t z p : Int) (F : Int → Nat) (hF : StopF t z p F) (t0 : 0 ≤ t) (z0 : 4 ≤ z) (tz : t + z ≤ 96) (p1 : 1 ≤ p) (p8 : p ≤ 8) (al : Option Addr) (ls : List (List ByteArray)) (cl : Nat) (am : Option Addr) (ms : List (Int × Int)) (cm : Nat) (ad : Option Addr) (zs : List ByteArray) (cap : Nat) (w : World) (hL : LotIn w al ls) (hm : MasksIn w am ms) (h : StrsIn w ad zs) (hf : Fit zs) (hl : zs.length ≤ 9223372036854775807) (hn : ls.length ≤ 60) (hmn : ms.length = ls.length) :
    Calls Try.prog 89 #[.agg #[.int .i16 t, .int .i16 z, .int .i16 p], .slice al ls.length cl, .slice am ms.length cm, .slice ad zs.length cap] w (NumR (idx (falseAt (A0 t z F zs zs.length : Int) (A1 t z F zs zs.length : Int) ms ls zs) ms.length) w) := by
  obtain ⟨i0, hi, hz0, hz1, hz2⟩ := info_parts info_i64
  have bx := four_boxes w (.cells #[.int .i16 t, .int .i16 z, .int .i16 p] 30) (.cells #[.slice al ls.length cl] 25) (.cells #[.slice ad zs.length cap] 37) (.cells #[.slice none 0 0] 39)
  have b0 : Below w.heap.size w ((((w.alloc (.cells #[.int .i16 t, .int .i16 z, .int .i16 p] 30)).alloc (.cells #[.slice al ls.length cl] 25)).alloc (.cells #[.slice ad zs.length cap] 37)).alloc (.cells #[.slice none 0 0] 39)) := below_new (below_new (below_new (below_new (Below.refl _ _) _) _) _) _
  have BX := Lib.hid bx
  have B0 := Lib.hid b0
  have HM := Lib.hid hm
  have LL := Lib.hid hL
  have H := Lib.hid h
  have A := Lib.hid (iAll_any t z p F hF t0 z0 tz p1 p8 ad zs cap _ (strsIn_below h b0) hf hl)
  rw [← fltT_all]
  generalize (A0 t z F zs zs.length : Int) = X at *
  generalize (A1 t z F zs zs.length : Int) = Y at *
  have DR := Lib.hid fun W => dropping_any am ms.length cm X Y W
  have DB := Lib.hid fun bm bh W h1 h2 h3 h4 h5 h6 => dropping_by bm bh am ms cm X Y (by rw [hmn]; omega) W h1 h2 h3 h4 h5 h6
  have MN := Lib.hid hmn
  clear hm h hf hF hL bx b0 hmn
  refine (callsIn_wide (n := 0)).1 (callsIn_of_wp_marks Try.func89 rfl trivial ?_ rfl)
  simp only [Try.ntmps89, List.size_toArray, List.length_cons, List.length_nil, Nat.reduceAdd, Nat.reduceSub, Array.replicate_succ, Array.replicate_zero, List.push_toArray, List.append_toArray, List.nil_append, List.cons_append]
  refine wpIn_wide.2 ?_
  go_wp2_with (first
    | (go_at_call 87; refine A.out.mono ?_; rintro e w4 ⟨rfl, hB⟩; have B4 := Lib.hid hB; clear hB)
    | (go_at_call 86; refine (DR.out _).mono ?_; rintro e w5 ⟨rfl, p1, p2, hz, hB⟩; have P1 := Lib.hid p1; have P2 := Lib.hid p2; have B5 := Lib.hid hB; have hz5 := Nat.le_of_eq hz.symm; clear p1 p2 hB hz))
  have q0 := Ab.block B5.out (Ab.block B4.out BX.out.2.1)
  have q1 := Ab.block B5.out (Ab.block B4.out BX.out.2.2.1)
  have q2 := Ab.block B5.out (Ab.block B4.out BX.out.2.2.2)
  have s4 : w.heap.size + 4 ≤ w4.heap.size := by have := B4.out.size; simp at this; omega
  have k0 : w5.cell? ⟨w.heap.size + 1, 0, none⟩ = some (.slice al ls.length cl) := cell_of_block q0 0
  have k1 : w5.cell? ⟨w.heap.size + 1 + 1, 0, none⟩ = some (.slice ad zs.length cap) := cell_of_block q1 0
  have k2 : w5.cell? ⟨w.heap.size + 1 + 1 + 1, 0, none⟩ = some (.slice none 0 0) := cell_of_block q2 0
  have f2 : w5.frozen? ⟨w.heap.size + 1 + 1 + 1, 0, none⟩ = false := free_of_block q2 0
  have BW := Lib.hid (B0.out.trans (Below.mono (B4.out.trans (Below.mono B5.out B4.out.size)) B0.out.size))
  have hq := DB.out _ _ w5 (by omega) (by omega) P1.out P2.out.1 P2.out.2 (masksIn_below HM.out BW.out)
  have hmx : Try.prog.follows .mixedOrders = true := by kernel_rfl
  clear P1 P2 B4 B5 DR DB A q0 q1 q2 BX B0
  refine wp_rangeO rfl (enters_of Try.func117 (by kernel_rfl) rfl) hq (fun _ => rfl) KpD.trans
    (fun A B hAB => ⟨hAB.size, hAB.block _ (by omega), hAB.block _ (by omega), fun b o _ hb => hAB.block b hb⟩) (fun A B hAB k _ hk2 => hAB.block k hk2)
    (fun pre W => (∃ v, W.cell? ⟨w.heap.size + 1 + 1 + 1, 0, none⟩ = some v ∧ OwnInts (w5.heap.size + 2) (fltT ls zs pre) v W) ∧ W.frozen? ⟨w.heap.size + 1 + 1 + 1, 0, none⟩ = false ∧ (W.cell? ⟨w.heap.size + 1, 0, none⟩ = some (.slice al ls.length cl) ∧ W.cell? ⟨w.heap.size + 1 + 1, 0, none⟩ = some (.slice ad zs.length cap)) ∧ w5.heap.size ≤ W.heap.size ∧ Below w.heap.size w W)
    (fun _ _ _ => False)
    ?i1 (fun _ _ _ _ h => h.elim) ?i3 ?i4 (fun _ _ _ _ _ _ _ _ _ h => h.elim) (fun _ _ _ => trivial) ⟨⟨_, k2, u_nil _ _⟩, f2, ⟨k0, k1⟩, Nat.le_refl _, BW.out⟩
    (fun q => { tmps := #[.agg #[.int .i16 t, .int .i16 z, .int .i16 p], .slice al ls.length cl, .slice am ms.length cm, .slice ad zs.length cap, .pointer (some ⟨w.heap.size, 0, none⟩), .pointer (some ⟨w.heap.size + 1, 0, none⟩), undef, .pointer (some ⟨w.heap.size + 1 + 1, 0, none⟩), .slice none 0 0, .pointer (some ⟨w.heap.size + 1 + 1 + 1, 0, none⟩), .int .i64 q, .slice am ms.length cm, .agg #[.int .i16 t, .int .i16 z, .int .i16 p], .slice ad zs.length cap, .agg #[.int .u64 X, .int .u64 Y], .func (.func 117) #[] #[.pointer (some ⟨w4.heap.size, 0, none⟩), .pointer (some ⟨w4.heap.size + 1, 0, none⟩)], .int .i64 q, undef, undef, undef, undef, undef, undef, undef, undef, undef, undef, undef, undef], defers := [] }) ?assign ?body ?done (fun _ _ _ _ h => h.elim)
  case i1 =>
    rintro pre A B ⟨⟨v, h2, hO⟩, h4, ⟨h5, h6⟩, h7, h8⟩ hs
    exact ⟨⟨v, (hs.cell (p := ⟨w.heap.size + 1 + 1 + 1, 0, none⟩) (by simp; omega)).trans h2, ownInts_kept hO hs⟩, (hs.frozen (p := ⟨w.heap.size + 1 + 1 + 1, 0, none⟩) (by simp; omega)).trans h4, ⟨(hs.cell (p := ⟨w.heap.size + 1, 0, none⟩) (by simp; omega)).trans h5, (hs.cell (p := ⟨w.heap.size + 1 + 1, 0, none⟩) (by simp; omega)).trans h6⟩, Nat.le_trans h7 hs.size, h8.trans (hs.mono (by omega))⟩
  case i3 =>
    rintro pre A o hA ⟨⟨v, h2, hO⟩, h4, ⟨h5, h6⟩, h7, h8⟩
    have hs := below_new (Below.refl A.heap.size A) o
    exact ⟨⟨v, (hs.cell (p := ⟨w.heap.size + 1 + 1 + 1, 0, none⟩) (by simp; omega)).trans h2, World.ownsRow.alloc hO _⟩, (hs.frozen (p := ⟨w.heap.size + 1 + 1 + 1, 0, none⟩) (by simp; omega)).trans h4, ⟨(hs.cell (p := ⟨w.heap.size + 1, 0, none⟩) (by simp; omega)).trans h5, (hs.cell (p := ⟨w.heap.size + 1 + 1, 0, none⟩) (by simp; omega)).trans h6⟩, Nat.le_trans h7 hs.size, h8.trans (hs.mono (by omega))⟩
  case i4 =>
    rintro pre A k o o' hk hl ho ⟨⟨v, h2, hO⟩, h4, ⟨h5, h6⟩, h7, h8⟩
    have hs : Below w5.heap.size A (A.putObj k o') := below_put hk
    exact ⟨⟨v, (hs.cell (p := ⟨w.heap.size + 1 + 1 + 1, 0, none⟩) (by simp; omega)).trans h2, ownsRow_putObj hO o' hl ho⟩, (hs.frozen (p := ⟨w.heap.size + 1 + 1 + 1, 0, none⟩) (by simp; omega)).trans h4, ⟨(hs.cell (p := ⟨w.heap.size + 1, 0, none⟩) (by simp; omega)).trans h5, (hs.cell (p := ⟨w.heap.size + 1 + 1, 0, none⟩) (by simp; omega)).trans h6⟩, by simpa using h7, h8.trans (hs.mono (by omega))⟩
  case assign =>
    intro l x W K hK
    gi_wp2
    first | exact hK | (go_simp; exact hK) | (simp; exact hK)
  case body =>
    rintro l pre x W ⟨⟨v, h2, hO⟩, h4, ⟨h5, h6⟩, h7, h8⟩ ⟨k, hk, _, hp, rfl⟩ hlt
    have hkl : k < ls.length := by have := MN.out; omega
    have hpl := idx_len (dropsAt X Y ms) k
    rw [← hp] at hpl
    have hfl := fltT_len ls zs pre
    obtain ⟨b1, o1, sa, sc, rfl, hb1, c0, c1, _, c3⟩ := LL.out k hkl
    have d0 := (h8.cell (p := ⟨b1, o1 + k, none⟩) hb1).trans c0
    have i1 : (0 : Int) ≤ (k : Int) := by omega
    have i2 : (k : Int) < (ls.length : Int) := by omega
    unfold maxLen at c3
    have C := fun W' (hb : Below W.heap.size W W') => iHasAll_any sa (lsAt ls k) sc ad zs cap W' (strsIn_below (strsIn_below c1 h8) hb) (strsIn_below (strsIn_below H.out h8) hb) (by omega) hl
    change ∀ W', Below W.heap.size W W' → Calls _ _ _ W' (fun e w' => e = .returned (.bool (trueAt ls zs k)) ∧ W' = w') at C
    have yes := Lib.hid fun h => fltT_yes (ls := ls) (zs := zs) (xs := pre) (k := k) h
    have no := Lib.hid fun h => fltT_no (ls := ls) (zs := zs) (xs := pre) (k := k) h
    have OO := Lib.hid hO
    have BB := Lib.hid h8
    have lt := u_lt hO
    have dr : ∀ U : World, Below U.heap.size U U.drew := fun U => ⟨rfl, rfl, rfl, Nat.le_refl _, fun _ _ => rfl⟩
    have DRW := Lib.hid dr
    clear hq hp hO h8 c0 c1 c3 dr
    generalize fltT ls zs pre = xs at *
    generalize trueAt ls zs k = q at *
    generalize lsAt ls k = y at *
    cases q
    · have NO := Lib.hid (no.out rfl)
      have C := Lib.hid C
      clear yes no
      gi_wp2
      gi_region_with_o (refine ⟨trivial, rfl, ?_⟩; gi_at_call 79; refine (CallsIn.inRound l (callsIn_wide.2 (C.out _ (DRW.out _)))).mono ?_; rintro e w6 ⟨rfl, rfl⟩)
      all_goals gi_wp2_with (gi_at_builtin; go_loud (refine wpListIn_append_own _ rfl _ _ 39 rfl (w5.heap.size + 2) 2 i0 (.int .i64 0) 1 8 Try.underlying39 hi hz0 hz1 hz2 rfl (by decide) _ _ _ rfl (World.ownsRow.alloc (World.ownsRow.drew OO.out) _) ⟨W.heap.size, 0, none⟩ 1 1 [.int .i64 (k : Int)] rfl rfl (u_one_new W.drew _ _) (fun x hx => by simp at hx; subst hx; rfl) (by unfold maxLen; omega) (by omega) (by simp; omega) ?_; intro v' w6 hown hgrow _; have P0 := u_push hown; obtain ⟨av, cv, rfl, _⟩ := ownInts_in P0; rw [show (xs ++ [(k : Int)]).length = xs.length + 1 from by simp] at P0; have P := Lib.hid P0; clear P0; have G := Lib.hid (Below.grown ((Below.refl (w5.heap.size + 2) W.drew).alloc (show w5.heap.size + 2 ≤ W.heap.size by omega) (.cells #[.int .i64 (k : Int)] 2)) hgrow (by simp; omega) lt); have k5 := (G.out.cell (p := ⟨w.heap.size + 1 + 1 + 1, 0, none⟩) (by simp; omega)).trans (show W.drew.cell? ⟨w.heap.size + 1 + 1 + 1, 0, none⟩ = some v from h2); have z5 := (G.out.frozen (p := ⟨w.heap.size + 1 + 1 + 1, 0, none⟩) (by simp; omega)).trans (show W.drew.frozen? ⟨w.heap.size + 1 + 1 + 1, 0, none⟩ = false from h4); clear hown hgrow))
      all_goals
        have bk : ∀ j, j < w5.heap.size + 2 → j ≠ w.heap.size + 1 + 1 + 1 → (w6.setCell ⟨w.heap.size + 1 + 1 + 1, 0, none⟩ (.slice av (xs.length + 1) cv)).heap[j]? = W.heap[j]? := fun j hj hne => (Below.heap_setCell _ _ _ _ (by simp; omega)).trans (G.out.block j hj)
        have gs : W.heap.size ≤ w6.heap.size := G.out.size
        refine ⟨⟨bk _ (by omega) (by omega), bk _ (by omega) (by omega)⟩, ⟨by simp [World.setCell]; omega, bk _ (by omega) (by omega), bk _ (by omega) (by omega), fun b o e hb => ?_⟩, ⟨_, World.cell?_setCell_same' _ _ _ (by rw [k5]; rfl), by rw [NO.out]; exact ownsRow_setCell_below P.out (by simp; omega) _⟩, by rw [World.frozen?_setCell]; exact z5, ⟨(cell_eq (bk _ (by omega) (by omega))).trans h5, (cell_eq (bk _ (by omega) (by omega))).trans h6⟩, by simp [World.setCell]; omega, (BB.out.trans (Below.mono (show Below (w5.heap.size + 2) W w6 from ⟨G.out.os, G.out.tape, G.out.output, gs, G.out.block⟩) (by omega))).setCell (p := ⟨w.heap.size + 1 + 1 + 1, 0, none⟩) (by simp; omega) _⟩
        have hne : b ≠ w.heap.size + 1 + 1 + 1 := by
          obtain ⟨b', o', e', hlt', _⟩ := HM.out k hk
          rw [e] at e'
          cases e'
          omega
        exact bk b (by omega) hne
    · have YE := Lib.hid (yes.out rfl)
      have C := Lib.hid C
      clear yes no
      gi_wp2
      gi_region_with_o (refine ⟨trivial, rfl, ?_⟩; gi_at_call 79; refine (CallsIn.inRound l (callsIn_wide.2 (C.out _ (DRW.out _)))).mono ?_; rintro e w6 ⟨rfl, rfl⟩)
      all_goals gi_wp2
      all_goals exact ⟨⟨rfl, rfl⟩, ⟨Nat.le_refl _, rfl, rfl, fun _ _ _ _ => rfl⟩, ⟨v, h2, by rw [YE.out]; exact World.ownsRow.drew OO.out⟩, h4, ⟨h5, h6⟩, h7, ⟨BB.out.os, BB.out.tape, BB.out.output, BB.out.size, BB.out.block⟩⟩
  case done =>
    rintro xs W rfl ⟨⟨v, h2, hO⟩, h4, _, h7, h8⟩ hK
    have OO := Lib.hid hO
    clear hO
    go_wp2
    refine ⟨by simp, .inl ⟨_, _, rfl, run_takeDeferred hK, ?_⟩⟩
    refine ⟨v, ?_, v, rfl, u_weaken (ownsRow_putObj OO.out _ hK rfl) (by omega), h8.trans (below_put (by omega))⟩
    simp [results, Try.results89, go_sem]
end Go.Proofs.Ytoippchkhknhpaa

namespace Go.Proofs.Ytoippchkhknhpaa
open Go.ChangeShapes Go.WideShapes Go.ChangeAt Go.RowKit

/-- Is a number in a list? -/
def hasI (zs : List Int) (x : Int) : Bool := decide (x ∈ zs)
theorem hasI_hit {zs : List Int} {j : Nat} {x : Int} (hj : j < zs.length) (h : (zs.getD j 0 == x) = true) : hasI zs x = true := by
  refine decide_eq_true ?_
  have e : zs.getD j 0 = zs[j] := by simp [List.getD, hj]
  rw [e] at h
  rw [← eq_of_beq h]
  exact List.getElem_mem hj
theorem hasI_end {zs : List Int} {x : Int} (h : ∀ j, j < zs.length → (zs.getD j 0 == x) = false) : hasI zs x = false := by
  refine decide_eq_false fun hm => ?_
  obtain ⟨j, hj, e⟩ := List.mem_iff_getElem.1 hm
  have := h j hj
  rw [show zs.getD j 0 = zs[j] by simp [List.getD, hj], e] at this
  simp at this

theorem sHasI_any (a : Option Addr) (zs : List Int) (c : Nat) (x : Int) (w : World) (h : IntsIn w a zs) (hl : zs.length ≤ 9223372036854775807) :
    Calls Try.prog 120 #[.slice a zs.length c, .int .i64 x] w fun e w' => e = .returned (.bool (hasI zs x)) ∧ w = w' := by
  have H := Lib.hid h
  clear h
  go_enter Try.func120, Try.ntmps120
  go_wp2
  go_loop [5] (fun i => ∃ k : Nat, k ≤ zs.length ∧ i = .int .i64 (k : Int) ∧ ∀ j, j < k → (zs.getD j 0 == x) = false) (fun i => zs.length - (intOf i).toNat)
  case atStart => exact ⟨0, Nat.zero_le _, rfl, fun j hj => absurd hj (Nat.not_lt_zero _)⟩
  case round =>
    obtain ⟨k, hk, rfl, hg⟩ := hrel
    have HG := Lib.hid hg
    clear hg
    by_cases hlt : k < zs.length
    · obtain ⟨b, off, rfl, hb, hc⟩ := H.out k hlt
      have d2 : decide ((k : Int) < (zs.length : Int)) = true := by simpa using hlt
      have i1 : (0 : Int) ≤ (k : Int) := by omega
      have i2 : (k : Int) < (zs.length : Int) := by omega
      have HT := Lib.hid fun h => hasI_hit (x := x) hlt h
      have NX := Lib.hid fun (h : (zs.getD k 0 == x) = false) (j : Nat) (hj : j < k + 1) => (show (zs.getD j 0 == x) = false by
        rcases Nat.lt_succ_iff_lt_or_eq.1 hj with q | q
        · exact HG.out j q
        · subst q; exact h)
      generalize hy : zs.getD k 0 = y at *
      cases hq : (y == x)
      · have N2 := Lib.hid (NX.out hq)
        clear HT NX hy
        go_wp2
        go_round
        case rel => exact ⟨k + 1, by omega, by go_num, N2.out⟩
        case measure => simp [intOf]; omega
      · have T2 := Lib.hid (HT.out hq)
        clear HT NX hy
        go_wp2
        go_returns
        exact ⟨retBo T2.out, rfl⟩
    · obtain rfl : k = zs.length := by omega
      have f := Lib.hid (hasI_end HG.out)
      have d2 : decide ((zs.length : Int) < (zs.length : Int)) = false := by simp
      go_wp2
      go_returns
      exact ⟨retBo f.out, rfl⟩

/-- Those of some numbers that are not in a list. -/
def outI (own xs : List Int) : List Int := xs.filter fun x => !hasI own x
theorem outI_yes {own xs : List Int} {x : Int} (h : hasI own x = true) : outI own (xs ++ [x]) = outI own xs := by
  unfold outI
  rw [List.filter_append, List.filter_cons_of_neg (by simp [h])]
  simp
theorem outI_no {own xs : List Int} {x : Int} (h : hasI own x = false) : outI own (xs ++ [x]) = outI own xs ++ [x] := by
  unfold outI
  rw [List.filter_append, List.filter_cons_of_pos (by simp [h])]
  rfl
theorem outI_len (own xs : List Int) : (outI own xs).length ≤ xs.length := List.length_filter_le _ _
theorem hasI_idx {p : Nat → Bool} {n k : Nat} (hk : k < n) : hasI (idx p n) (k : Int) = p k := by
  unfold hasI
  cases h : p k
  · refine decide_eq_false fun hm => ?_
    obtain ⟨j, _, hj, e⟩ := (idx_mem p _ n).1 hm
    rw [show j = k by omega, h] at hj; cases hj
  · exact decide_eq_true ((idx_mem p _ n).2 ⟨k, hk, h, rfl⟩)
theorem outI_all (x y : Int) (ms : List (Int × Int)) (ls : List (List ByteArray)) (zs : List ByteArray) (n : Nat) : outI (idx (trueAt ls zs) n) (idx (dropsAt x y ms) n) = idx (falseAt x y ms ls zs) n := idx_filter n fun k hk => by rw [hasI_idx hk]
theorem take_next (xs : List Int) (j : Nat) (h : j < xs.length) : xs.take (j + 1) = xs.take j ++ [xs.getD j 0] := by
  rw [List.take_add_one, List.getElem?_eq_getElem h]
  simp [List.getD, h]

set_option maxRecDepth 100000 in
set_option maxHeartbeats 3200000 in
theorem sFalseL_any (t z p : Int) (F : Int → Nat) (hF : StopF t z p F) (t0 : 0 ≤ t) (z0 : 4 ≤ z) (tz : t + z ≤ 96) (p1 : 1 ≤ p) (p8 : p ≤ 8) (g o : Nat) (al : Option Addr) (ls : List (List ByteArray)) (cl : Nat) (am : Option Addr) (ms : List (Int × Int)) (cm : Nat) (ad : Option Addr) (zs : List ByteArray) (cap : Nat) (w : World) (hL : LotIn w al ls) (hm : MasksIn w am ms) (hU : ∀ i, i < ms.length → U64 (ms.getD i (0, 0)).1 ∧ U64 (ms.getD i (0, 0)).2) (h : StrsIn w ad zs) (hf : Fit zs) (hl : zs.length ≤ 9223372036854775807) (hn : ls.length ≤ 60) (hmn : ms.length = ls.length) (h1 : w.cell? ⟨g, o, none⟩ = some (.int .i16 t)) (h2 : w.cell? ⟨g, o + 1, none⟩ = some (.int .i16 z)) (h3 : w.cell? ⟨g, o + 2, none⟩ = some (.int .i16 p)) :
    Calls Try.prog 88 #[.pointer (some ⟨g, o, none⟩), .slice al ls.length cl, .slice am ms.length cm, .slice ad zs.length cap] w (NumR (idx (falseAt (A0 t z F zs zs.length : Int) (A1 t z F zs zs.length : Int) ms ls zs) ms.length) w) := by
  obtain ⟨i0, hi, hz0, hz1, hz2⟩ := info_parts info_i64
  have hg := World.block_lt_of_cell? _ _ h1
  have T : Calls Try.prog 77 #[.slice al ls.length cl, .slice ad zs.length cap] w (NumR (idx (trueAt ls zs) ms.length) w) := by rw [hmn]; exact sTrueL_any al ls cl ad zs cap w hL h hn hl
  have A := Lib.hid fun W (hb : Below w.heap.size w W) => sAll_any t z p F hF t0 z0 tz p1 p8 ad zs cap g o W (strsIn_below h hb) hf hl ((hb.cell (p := ⟨g, o, none⟩) hg).trans h1) ((hb.cell (p := ⟨g, o + 1, none⟩) hg).trans h2) ((hb.cell (p := ⟨g, o + 2, none⟩) hg).trans h3)
  obtain ⟨ux, uy⟩ := A_u64 F zs t0 z0 tz
  rw [← outI_all]
  generalize (A0 t z F zs zs.length : Int) = X at *
  generalize (A1 t z F zs zs.length : Int) = Y at *
  have D := Lib.hid fun W (hb : Below w.heap.size w W) => sDropped_any X Y ux uy am ms cm W (masksIn_below hm hb) hU (by omega)
  have lo := idx_len (trueAt ls zs) ms.length
  have ll := idx_len (dropsAt X Y ms) ms.length
  generalize idx (trueAt ls zs) ms.length = own at *
  generalize idx (dropsAt X Y ms) ms.length = L at *
  have T := Lib.hid T
  have lo6 : own.length ≤ 60 := by omega
  have ll6 : L.length ≤ 60 := by omega
  clear hF hL hm hU h hf h1 h2 h3 ux uy hmn lo ll
  go_enter Try.func88, Try.ntmps88
  go_wp2_with (first
    | (go_at_call 77; refine T.out.mono ?_; rintro e w1 ⟨v1, rfl, hO, hB⟩; obtain ⟨a1, c1, rfl, hi1⟩ := ownInts_in hO; have B1 := Lib.hid hB; have I1 := Lib.hid hi1; clear hO hB hi1)
    | (go_at_call 83; refine (A.out _ B1.out).mono ?_; rintro e w2 ⟨rfl, hB⟩; have B2 := Lib.hid (B1.out.trans (Below.mono hB B1.out.size)); have I2 := Lib.hid (intsIn_below I1.out hB); clear hB)
    | (go_at_call 84; refine (D.out _ B2.out).mono ?_; rintro e w3 ⟨v3, rfl, hO, hB⟩; obtain ⟨a3, c3, rfl, hi3⟩ := ownInts_in hO; have B3 := Lib.hid (B2.out.trans (Below.mono hB B2.out.size)); have I3 := Lib.hid (intsIn_below I2.out hB); have L3 := Lib.hid hi3; clear hO hB hi3))
  go_loopw [11, 12] (fun v i wr => ∃ j : Nat, j ≤ L.length ∧ i = .int .i64 j ∧ OwnInts w3.heap.size (outI own (L.take j)) v wr ∧ Below w3.heap.size w3 wr) (fun _ i _ => L.length - (intOf i).toNat)
  case atStart => exact ⟨0, Nat.zero_le _, rfl, u_none rfl (Nat.le_refl _), ab_new _ _⟩
  case round =>
    obtain ⟨j, hj, rfl, O, hB⟩ := hrel
    have BB := Lib.hid hB
    have OO := Lib.hid O
    clear O
    by_cases hjl : j < L.length
    · have hd : decide ((j : Int) < (L.length : Int)) = true := by simpa using hjl
      obtain ⟨b1, o1, rfl, hb1, p0⟩ := L3.out j hjl
      have d0 := (hB.cell (p := ⟨b1, o1 + j, none⟩) hb1).trans p0
      have i3 : (0 : Int) ≤ (j : Int) := by omega
      have i4 : (j : Int) < (L.length : Int) := by omega
      have C := sHasI_any a1 own c1 (L.getD j 0) wr (intsIn_below I3.out hB) (by omega)
      have tn := take_next L j hjl
      have yes := Lib.hid fun h => outI_yes (own := own) (xs := L.take j) (x := L.getD j 0) h
      have no := Lib.hid fun h => outI_no (own := own) (xs := L.take j) (x := L.getD j 0) h
      rw [← tn] at yes no
      have ol := Nat.le_trans (outI_len own (L.take j)) (List.length_take_le j L)
      have s1 := hB.size
      clear hB p0 tn
      generalize outI own (L.take j) = xs at *
      generalize hasI own (L.getD j 0) = q at *
      generalize L.getD j 0 = x at *
      cases q
      · have NO := Lib.hid (no.out rfl)
        have C := Lib.hid C
        clear yes no
        go_wp2_with (first
          | (go_at_call 120; refine C.out.mono ?_; rintro e w4 ⟨rfl, rfl⟩)
          | (at_builtin; refine wpList_append_own _ rfl _ _ 39 rfl w3.heap.size 2 i0 (.int .i64 0) 1 8 Try.underlying39 hi hz0 hz1 hz2 rfl (by decide) _ _ _ rfl (OO.out.alloc _) ⟨wr.heap.size, 0, none⟩ 1 1 [.int .i64 x] rfl rfl (u_one_new _ _ _) (fun x hx => by simp at hx; subst hx; rfl) (by unfold maxLen; omega) (by omega) (by simp; omega) ?_; intro v' w4 hown hgrow _; have P := Lib.hid (u_push hown); have G := Lib.hid hgrow; clear hown hgrow))
        exact ⟨⟨j + 1, hjl, by rw [Int.natCast_succ], by rw [NO.out]; exact P.out, Below.grown (BB.out.alloc s1 _) G.out (by simp; omega) (fun k hk => u_lt OO.out k hk)⟩, by (simp [intOf]) <;> omega⟩
      · have YE := Lib.hid (yes.out rfl)
        have C := Lib.hid C
        clear yes no
        go_wp2_with (go_at_call 120; refine C.out.mono ?_; rintro e w4 ⟨rfl, rfl⟩)
        exact ⟨⟨j + 1, hjl, by rw [Int.natCast_succ], by rw [YE.out]; exact OO.out, BB.out⟩, by (simp [intOf]) <;> omega⟩
    · have e : j = L.length := by omega
      subst e
      have hd : decide ((L.length : Int) < (L.length : Int)) = false := by simp
      have O9 := OO.out
      rw [List.take_length] at O9
      have O9 := Lib.hid O9
      clear hB
      go_wp2
      go_ret
      exact ⟨_, rfl, u_weaken O9.out B3.out.size, B3.out.trans (Below.mono BB.out B3.out.size)⟩
end Go.Proofs.Ytoippchkhknhpaa

namespace Go.Proofs.Ytoippchkhknhpaa
open Go.ChangeShapes Go.WideShapes Go.ChangeAt Go.RowKit

/-- The code of a mix, a lot and words. -/
def flC (ok : Bool) (ls : List (List ByteArray)) (zs : List ByteArray) : Int := if ok = true then lwC ls zs else 1
theorem flC_mix (ls : List (List ByteArray)) (zs : List ByteArray) : flC false ls zs = 1 := rfl
theorem flC_ok (ls : List (List ByteArray)) (zs : List ByteArray) : flC true ls zs = lwC ls zs := rfl
/-- The false drops of words in a lot. -/
def flL (t z : Int) (F : Int → Nat) (ls : List (List ByteArray)) (zs : List ByteArray) : List Int := idx (falseAt (A0 t z F zs zs.length : Int) (A1 t z F zs zs.length : Int) (mkTo t z F ls ls.length) ls zs) ls.length
theorem flL_as {t z : Int} {F : Int → Nat} {ls : List (List ByteArray)} {zs : List ByteArray} : idx (falseAt (A0 t z F zs zs.length : Int) (A1 t z F zs zs.length : Int) (mkTo t z F ls ls.length) ls zs) (mkTo t z F ls ls.length).length = flL t z F ls zs := by rw [mkTo_len]; rfl

set_option maxRecDepth 100000 in
set_option maxHeartbeats 3200000 in
theorem iFof_any (t z p : Int) (ht : I16 t) (hz : I16 z) (F : Int → Nat) (hF : mixOk t z p = true → StopF t z p F) (al : Option Addr) (ls : List (List ByteArray)) (cl : Nat) (ad : Option Addr) (zs : List ByteArray) (cap : Nat) (w : World) (hL : LotIn w al ls) (h : StrsIn w ad zs) (hf : Fit zs) (hn : ls.length ≤ 9223372036854775807) (hl : zs.length ≤ 9223372036854775807) :
    Calls Try.prog 40 #[.agg #[.int .i16 t, .int .i16 z, .int .i16 p], .slice al ls.length cl, .slice ad zs.length cap] w (MwR (flC (mixOk t z p) ls zs) (mayL (flC (mixOk t z p) ls zs) (flL t z F ls zs)) w) := by
  have V := fun W => iValidMix_any t z p ht hz W
  have M0 := Lib.hid (block_alloc w (.cells #[.int .i16 t, .int .i16 z, .int .i16 p] 30))
  have B0 := Lib.hid (below_new (Below.refl w.heap.size w) (.cells #[.int .i16 t, .int .i16 z, .int .i16 p] 30))
  have K := fun W (hb : Below w.heap.size w W) => iIsLot_any al ls cl W (lotIn_below hL hb) hn
  have S := fun W (hb : Below w.heap.size w W) => iAreWords_any ad zs cap 12 W (strsIn_below h hb) hf hl
  have LL := Lib.hid hL
  have H := Lib.hid h
  have FT := Lib.hid hf
  clear hL ht hz h hf
  cases hv : mixOk t z p
  · rw [hv] at V
    rw [flC_mix, mayL_no (by decide)]
    have V := Lib.hid V
    clear hv hF K S
    go_enter Try.func40, Try.ntmps40
    go_wp2_with (go_at_call 72; refine (V.out _).mono ?_; rintro e w1 ⟨rfl, hB⟩; have b1 := Lib.hid (B0.out.trans (Below.mono hB B0.out.size)); clear hB)
    go_ret2
    exact ⟨_, rfl, u_nil _ _, b1.out⟩
  · rw [hv] at V
    have V := Lib.hid V
    have hF := hF hv
    obtain ⟨t0, z0, tz, p1, p8, pz⟩ := mix_inv hv
    rw [flC_ok]
    clear hv
    cases h1 : lotOk ls
    · rw [h1] at K
      rw [lwC_lot zs h1, mayL_no (by decide)]
      have K := Lib.hid K
      clear h1 hF S
      go_enter Try.func40, Try.ntmps40
      go_wp2_with (first | (go_at_call 72; refine (V.out _).mono ?_; rintro e w1 ⟨rfl, hB⟩; have b1 := Lib.hid (B0.out.trans (Below.mono hB B0.out.size)); clear hB) | (go_at_call 73; refine (K.out _ b1.out).mono ?_; rintro e w2 ⟨rfl, rfl⟩))
      go_ret2
      exact ⟨_, rfl, u_nil _ _, b1.out⟩
    · rw [h1] at K
      rw [lwC_words h1]
      have K := Lib.hid K
      cases h2 : wordsOk zs 12
      · rw [h2] at S
        rw [wordsC_no h2, mayL_no (by decide)]
        have S := Lib.hid S
        clear h1 h2 hF
        go_enter Try.func40, Try.ntmps40
        go_wp2_with (first | (go_at_call 72; refine (V.out _).mono ?_; rintro e w1 ⟨rfl, hB⟩; have b1 := Lib.hid (B0.out.trans (Below.mono hB B0.out.size)); clear hB) | (go_at_call 73; refine (K.out _ b1.out).mono ?_; rintro e w2 ⟨rfl, rfl⟩) | (go_at_call 78; refine (S.out _ b1.out).mono ?_; rintro e w3 ⟨rfl, rfl⟩))
        go_ret2
        exact ⟨_, rfl, u_nil _ _, b1.out⟩
      · rw [h2] at S
        rw [wordsC_yes h2, mayL_yes]
        have S := Lib.hid S
        have n60 := lot_60 h1
        have MS := Lib.hid fun W (hb : Below w.heap.size w W) => iMasksOf_any t z p F hF t0 z0 tz p1 p8 al ls cl W (lotIn_below LL.out hb) n60
        have ML := mkTo_len t z F ls ls.length
        have FD := fun W am cm (hb : Below w.heap.size w W) hm => iFalseD_any t z p F hF t0 z0 tz p1 p8 al ls cl am (mkTo t z F ls ls.length) cm ad zs cap W (lotIn_below LL.out hb) hm (strsIn_below H.out hb) FT.out hl n60 ML
        rw [flL_as] at FD
        generalize flL t z F ls zs = xs at *
        generalize mkTo t z F ls ls.length = ms at *
        have FD := Lib.hid FD
        clear h1 h2 hF ML
        go_enter Try.func40, Try.ntmps40
        go_wp2_with (first | (go_at_call 72; refine (V.out _).mono ?_; rintro e w1 ⟨rfl, hB⟩; have b1 := Lib.hid (B0.out.trans (Below.mono hB B0.out.size)); have a1 := Lib.hid (Ab.block hB M0.out); clear hB) | (go_at_call 73; refine (K.out _ b1.out).mono ?_; rintro e w2 ⟨rfl, rfl⟩) | (go_at_call 78; refine (S.out _ b1.out).mono ?_; rintro e w3 ⟨rfl, rfl⟩))
        refine wp_region_make1Y_at (XX := Option Addr × Nat) (Y := Option Addr × Nat) 4 1 (fun x W => MasksIn W x.1 ms) (fun y W => OwnInts w.heap.size xs (.slice y.1 xs.length y.2) W) (fun _ _ _ h hb => masksIn_below h hb) (fun _ _ _ h hb => ownInts_kept h hb) (fun x => .slice x.1 ms.length x.2) (fun y => .slice y.1 xs.length y.2) (by kernel_rfl) rfl rfl rfl (by kernel_rfl) rfl rfl (none, 0) (none, 0) ?_
        simp only [Nat.reduceAdd, List.take_succ_cons, List.take_zero, List.drop_succ_cons, List.drop_zero]
        have hbw := cell_bw
        intro v1 hv1
        have BV := fun {W : World} (hW : Ab w1 W) => (b1.out.trans (Below.mono hW b1.out.size) : Below w.heap.size w W)
        have e0 := cell_of_block (Ab.block hv1 a1.out)
        have z0 := lt_of_block (Ab.block hv1 a1.out)
        repeat (go_big_quiet_step (fail))
        refine wpQuiet_nil ?_
        clear e0 z0
        refine ⟨?_, ?_⟩
        · intro v2 hv2
          go_simp
          simp only [Yld]
          refine ⟨trivial, (MS.out v2 (BV hv2)).mono ?_⟩
          rintro e v3 ⟨v, rfl, hO, hB⟩
          obtain ⟨x, c, rfl, hm⟩ := ownMs_in hO
          exact ⟨_, rfl, x, ⟨c, rfl⟩, hB, hm⟩
        rintro ⟨x, cx⟩ v2 hv2
        simp only [Act.put, List.setIfInBounds_toArray, List.set_cons_succ, List.set_cons_zero]
        repeat (go_big_quiet_step (fail))
        refine wpQuiet_nil ?_
        refine ⟨?_, ?_⟩
        · intro v3 hv3 hx
          go_simp
          simp only [Yld]
          refine ⟨trivial, (FD.out v3 x cx (BV hv3) hx).mono ?_⟩
          rintro e v4 ⟨v, rfl, hO, hb⟩
          obtain ⟨ai, ci, rfl, _⟩ := ownInts_in hO
          exact ⟨_, rfl, ai, ci, rfl, hb, u_weaken hO (BV hv3).size⟩
        rintro ⟨ay, cy⟩
        simp only [List.setIfInBounds_toArray, List.set_cons_succ, List.set_cons_zero]
        refine ⟨rfl, .slice ay xs.length cy, fun _ => rfl, ?_⟩
        simp only [Act.put, List.setIfInBounds_toArray, List.set_cons_succ, List.set_cons_zero]
        refine ⟨rfl, .int .i64 0, fun _ => rfl, ?_⟩
        simp only [Act.put, List.setIfInBounds_toArray, List.set_cons_succ, List.set_cons_zero]
        intro w5 hw5 _ hy
        have O5 := Lib.hid hy
        have B5 := Lib.hid (BV hw5)
        clear hy hw5 hv1 hv2 BV hbw
        go_wp2
        go_ret2
        exact ⟨_, rfl, O5.out, B5.out⟩

set_option maxRecDepth 100000 in
set_option maxHeartbeats 3200000 in
theorem sFof_any (t z p : Int) (ht : I16 t) (hz : I16 z) (hp : I16 p) (F : Int → Nat) (hF : mixOk t z p = true → StopF t z p F) (al : Option Addr) (ls : List (List ByteArray)) (cl : Nat) (ad : Option Addr) (zs : List ByteArray) (cap : Nat) (w : World) (hL : LotIn w al ls) (h : StrsIn w ad zs) (hf : Fit zs) (hn : ls.length ≤ 9223372036854775807) (hl : zs.length ≤ 9223372036854775807) :
    Calls Try.prog 39 #[.agg #[.int .i16 t, .int .i16 z, .int .i16 p], .slice al ls.length cl, .slice ad zs.length cap] w (MwR (flC (mixOk t z p) ls zs) (mayL (flC (mixOk t z p) ls zs) (flL t z F ls zs)) w) := by
  have M0 := Lib.hid (block_alloc w (.cells #[.int .i16 t, .int .i16 z, .int .i16 p] 30))
  have b0 := below_new (Below.refl w.heap.size w) (.cells #[.int .i16 t, .int .i16 z, .int .i16 p] 30)
  have V := sMixLot_any t z p ht hz hp F hF al ls cl _ (lotIn_below hL b0) hn
  have B0 := Lib.hid b0
  have S := fun W (hb : Below w.heap.size w W) => sWords_any ad zs cap 12 W (strsIn_below h hb) hf hl
  have LL := Lib.hid hL
  have H := Lib.hid h
  have FT := Lib.hid hf
  clear hL ht hz hp h hf b0
  cases hv : mixOk t z p
  · rw [hv, mlC_mix, mlL_no (by decide)] at V
    rw [flC_mix, mayL_no (by decide)]
    have V := Lib.hid V
    clear hv hF S
    go_enter Try.func39, Try.ntmps39
    go_wp2_with (go_at_call 14; refine V.out.mono ?_; rintro e w1 ⟨v, rfl, hO, hB⟩; have b1 := Lib.hid (B0.out.trans (Below.mono hB B0.out.size)); clear hB hO)
    go_ret2
    exact ⟨_, rfl, u_none rfl b1.out.size, b1.out.trans (Below.mono (ab_new _ _) b1.out.size)⟩
  · rw [hv, mlC_ok] at V
    have hF := hF hv
    obtain ⟨t0, z0, tz, p1, p8, pz⟩ := mix_inv hv
    rw [flC_ok]
    clear hv
    cases h1 : lotOk ls
    · rw [lotC_no h1, mlL_no (by decide)] at V
      rw [lwC_lot zs h1, mayL_no (by decide)]
      have V := Lib.hid V
      clear h1 hF S
      go_enter Try.func39, Try.ntmps39
      go_wp2_with (go_at_call 14; refine V.out.mono ?_; rintro e w1 ⟨v, rfl, hO, hB⟩; have b1 := Lib.hid (B0.out.trans (Below.mono hB B0.out.size)); clear hB hO)
      go_ret2
      exact ⟨_, rfl, u_none rfl b1.out.size, b1.out.trans (Below.mono (ab_new _ _) b1.out.size)⟩
    · rw [lotC_yes h1, mlL_yes] at V
      rw [lwC_words h1]
      have n60 := lot_60 h1
      have ML := mkTo_len t z F ls ls.length
      have MU := mkTo_u64 F ls ls.length t0 z0 tz
      have FD := fun W am cm (hb : Below w.heap.size w W) hm q0 q1 q2 => sFalseL_any t z p F hF t0 z0 tz p1 p8 w.heap.size 0 al ls cl am (mkTo t z F ls ls.length) cm ad zs cap W (lotIn_below LL.out hb) hm MU (strsIn_below H.out hb) FT.out hl n60 ML q0 q1 q2
      rw [flL_as] at FD
      generalize flL t z F ls zs = xs at *
      generalize mkTo t z F ls ls.length = ms at *
      have FD := Lib.hid FD
      have V := Lib.hid V
      cases h2 : wordsOk zs 12
      · rw [wordsC_no h2] at S
        rw [wordsC_no h2, mayL_no (by decide)]
        have S := Lib.hid S
        clear h1 h2 hF ML MU
        go_enter Try.func39, Try.ntmps39
        go_wp2_with (first | (go_at_call 14; refine V.out.mono ?_; rintro e w1 ⟨v, rfl, hO, hB⟩; have b1 := Lib.hid (B0.out.trans (Below.mono hB B0.out.size)); clear hB hO) | (go_at_call 76; refine (S.out _ b1.out).mono ?_; rintro e w2 ⟨rfl, rfl⟩))
        go_ret2
        exact ⟨_, rfl, u_none rfl b1.out.size, b1.out.trans (Below.mono (ab_new _ _) b1.out.size)⟩
      · rw [wordsC_yes h2] at S
        rw [wordsC_yes h2, mayL_yes]
        have S := Lib.hid S
        clear h1 h2 hF ML MU
        go_enter Try.func39, Try.ntmps39
        go_wp2_with (first
          | (go_at_call 14; refine V.out.mono ?_; rintro e w1 ⟨v, rfl, hO, hB⟩; obtain ⟨a1, c1, rfl, hm⟩ := ownMs_in hO; have b1 := Lib.hid (B0.out.trans (Below.mono hB B0.out.size)); have a1' := Lib.hid (Ab.block hB M0.out); have m1 := Lib.hid hm; clear hB hO hm)
          | (go_at_call 76; refine (S.out _ b1.out).mono ?_; rintro e w2 ⟨rfl, rfl⟩)
          | (go_at_call 88; refine (FD.out _ _ _ b1.out m1.out (by simpa using cell_of_block a1'.out 0) (by simpa using cell_of_block a1'.out 1) (by simpa using cell_of_block a1'.out 2)).mono ?_; rintro e w3 ⟨v, rfl, hO, hB⟩; have O := Lib.hid hO; have B := Lib.hid hB; clear hO hB))
        go_ret2
        exact ⟨_, rfl, u_weaken O.out b1.out.size, b1.out.trans (Below.mono B.out b1.out.size)⟩
end Go.Proofs.Ytoippchkhknhpaa

namespace Go.Proofs.Ytoippchkhknhpaa
open Go.ChangeShapes Go.WideShapes Go.ChangeAt Go.RowKit

/-- The different ones of the first k words. -/
def difN (ws : List ByteArray) : Nat → List ByteArray
  | 0 => []
  | k + 1 => if hasN (difN ws k) (ws.getD k ⟨#[]⟩) then difN ws k else difN ws k ++ [ws.getD k ⟨#[]⟩]
theorem difN_yes {ws : List ByteArray} {k : Nat} (h : hasN (difN ws k) (ws.getD k ⟨#[]⟩) = true) : difN ws (k + 1) = difN ws k := if_pos h
theorem difN_no {ws : List ByteArray} {k : Nat} (h : hasN (difN ws k) (ws.getD k ⟨#[]⟩) = false) : difN ws (k + 1) = difN ws k ++ [ws.getD k ⟨#[]⟩] := if_neg (by rw [h]; decide)
theorem difN_len (ws : List ByteArray) : ∀ k, (difN ws k).length ≤ k
  | 0 => Nat.le_refl _
  | k + 1 => by
    have := difN_len ws k
    cases h : hasN (difN ws k) (ws.getD k ⟨#[]⟩)
    · rw [difN_no h, List.length_append]; simp; omega
    · rw [difN_yes h]; omega
/-- All of some texts are not too long. -/
def FitM (zs : List ByteArray) : Prop := ∀ s ∈ zs, s.size ≤ maxLen
theorem fitM_of {zs : List ByteArray} (h : Fit zs) : FitM zs := fun s hs => by
  obtain ⟨j, hj, rfl⟩ := List.mem_iff_getElem.1 hs
  have := h j hj
  rwa [show zs.getD j ⟨#[]⟩ = zs[j] by simp [List.getD, hj]] at this
theorem fitM_at {zs : List ByteArray} (h : FitM zs) {j : Nat} (hj : j < zs.length) : (zs.getD j ⟨#[]⟩).size ≤ maxLen := by
  rw [show zs.getD j ⟨#[]⟩ = zs[j] by simp [List.getD, hj]]
  exact h _ (List.getElem_mem hj)
theorem difN_fit {ws : List ByteArray} (h : FitM ws) : ∀ k, k ≤ ws.length → FitM (difN ws k)
  | 0, _ => fun s hs => by cases hs
  | k + 1, hk => by
    have ih := difN_fit h k (by omega)
    cases e : hasN (difN ws k) (ws.getD k ⟨#[]⟩)
    · rw [difN_no e]
      intro s hs
      rcases List.mem_append.1 hs with hs | hs
      · exact ih s hs
      · rw [List.mem_singleton.1 hs]; exact fitM_at h (by omega)
    · rw [difN_yes e]; exact ih
theorem flat_fit {ls : List (List ByteArray)} : ∀ n, (∀ i, i < n → FitM (lsAt ls i)) → FitM (flatTo ls n)
  | 0, _ => fun s hs => by cases hs
  | n + 1, h => fun s hs => by
    rcases List.mem_append.1 (show s ∈ flatTo ls n ++ lsAt ls n from hs) with hs | hs
    · exact flat_fit n (fun i hi => h i (by omega)) s hs
    · exact h n (Nat.lt_succ_self n) s hs
theorem flat_at {ls : List (List ByteArray)} {i k : Nat} (hk : k < (lsAt ls i).length) : ∀ n, i < n → (flatTo ls n).getD (nWords ls i + k) ⟨#[]⟩ = (lsAt ls i).getD k ⟨#[]⟩
  | 0, h => absurd h (Nat.not_lt_zero _)
  | n + 1, h => by
    show (flatTo ls n ++ lsAt ls n).getD (nWords ls i + k) ⟨#[]⟩ = _
    have hl := flatTo_len ls n
    by_cases e : i = n
    · subst e
      rw [List.getD, List.getElem?_append_right (by omega), hl, Nat.add_sub_cancel_left]; rfl
    · have ih := flat_at hk n (by omega)
      have hm := nWords_mono ls (i + 1) (n - (i + 1))
      rw [show i + 1 + (n - (i + 1)) = n by omega] at hm
      have e2 : nWords ls (i + 1) = nWords ls i + (lsAt ls i).length := rfl
      rw [List.getD, List.getElem?_append_left (by omega)]
      exact ih

def sumF (f : ByteArray → Nat) : List ByteArray → Nat
  | [] => 0
  | s :: l => f s + sumF f l
theorem sumF_app (f : ByteArray → Nat) (s : ByteArray) : ∀ xs, sumF f (xs ++ [s]) = sumF f xs + f s
  | [] => by simp [sumF]
  | x :: xs => by show f x + sumF f (xs ++ [s]) = f x + sumF f xs + f s; rw [sumF_app f s xs]; omega
theorem sumF_le {f : ByteArray → Nat} (h : ∀ s, f s ≤ 60) : ∀ xs, sumF f xs ≤ 60 * xs.length
  | [] => Nat.le_refl _
  | x :: xs => by have := sumF_le h xs; have := h x; show f x + sumF f xs ≤ 60 * (xs.length + 1); omega
/-- How many false drops a word has. -/
def cfN (t z : Int) (F : Int → Nat) (ls : List (List ByteArray)) (s : ByteArray) : Nat := (flL t z F ls [s]).length
theorem cfN_le {t z : Int} {F : Int → Nat} {ls : List (List ByteArray)} (h : ls.length ≤ 60) (s : ByteArray) : cfN t z F ls s ≤ 60 := Nat.le_trans (idx_len _ _) h
/-- All false drops of all words. -/
def cfAll (t z : Int) (F : Int → Nat) (ls : List (List ByteArray)) : Nat := sumF (cfN t z F ls) (difN (flatTo ls ls.length) (nWords ls ls.length))
theorem cfAll_le {t z : Int} {F : Int → Nat} {ls : List (List ByteArray)} (h : ls.length ≤ 60) (hw : nWords ls ls.length ≤ 720) : cfAll t z F ls ≤ 43200 := by
  have h1 := sumF_le (fun s => cfN_le (t := t) (z := z) (F := F) h s) (difN (flatTo ls ls.length) (nWords ls ls.length))
  have h2 := difN_len (flatTo ls ls.length) (nWords ls ls.length)
  unfold cfAll
  omega
end Go.Proofs.Ytoippchkhknhpaa

namespace Go.Proofs.Ytoippchkhknhpaa
open Go.ChangeShapes Go.WideShapes Go.ChangeAt Go.RowKit

theorem zero_boolS (w : World) : (zeroValue 4).run Try.prog w = .ok (.bool false) w := by kernel_rfl
theorem strs_oneB (w : World) (s : ByteArray) (t : TypeId) : StrsIn (w.alloc (.cells #[.string s] t)) (some ⟨w.heap.size, 0, none⟩) [s] := fun i hi => by
  have hi0 : i = 0 := by simp at hi; omega
  subst hi0
  exact ⟨w.heap.size, 0, rfl, by simp, by simp⟩
theorem fit_oneB {s : ByteArray} (hs : s.size ≤ maxLen) : Fit [s] := fun i hi => by
  have hi0 : i = 0 := by simp at hi; omega
  subst hi0
  exact hs

set_option maxRecDepth 100000 in
set_option maxHeartbeats 4000000 in
theorem iCountF_any (t z p : Int) (F : Int → Nat) (hF : StopF t z p F) (t0 : 0 ≤ t) (z0 : 4 ≤ z) (tz : t + z ≤ 96) (p1 : 1 ≤ p) (p8 : p ≤ 8) (al : Option Addr) (ls : List (List ByteArray)) (cl : Nat) (w : World) (hL : LotN w al ls) (hok : lotOk ls = true) :
    Calls Try.prog 91 #[.agg #[.int .i16 t, .int .i16 z, .int .i16 p], .slice al ls.length cl] w fun e w' => e = .returned (.int .i64 (cfAll t z F ls : Int)) ∧ Below w.heap.size w w' := by
  have n60 := lot_60 hok
  have nw : nWords ls ls.length ≤ 720 := by have := nWords_lot hok ls.length (Nat.le_refl _); omega
  have M0 := Lib.hid (block_alloc w (.cells #[.int .i16 t, .int .i16 z, .int .i16 p] 30))
  have B0 := Lib.hid (below_new (Below.refl w.heap.size w) (.cells #[.int .i16 t, .int .i16 z, .int .i16 p] 30))
  have LL := Lib.hid hL
  have MS := Lib.hid fun W (hb : Below w.heap.size w W) => iMasksOf_any t z p F hF t0 z0 tz p1 p8 al ls cl W (lotN_in (lotN_below LL.out hb)) n60
  have CC := Lib.hid fun W (hb : Below w.heap.size w W) => concat_any al ls cl W (lotN_below LL.out hb) n60 nw
  have ML := mkTo_len t z F ls ls.length
  have FD := fun W am cm ad s cap (hb : Below w.heap.size w W) hm hs hf => iFalseD_any t z p F hF t0 z0 tz p1 p8 al ls cl am (mkTo t z F ls ls.length) cm ad [s] cap W (lotN_in (lotN_below LL.out hb)) hm hs hf (by simp) n60 ML
  simp only [flL_as] at FD
  have FT := Lib.hid (difN_fit (ws := flatTo ls ls.length) (flat_fit ls.length fun i hi => fitM_of (lot_fit (lotN_in hL) hi)))
  have FF := Lib.hid (flat_fit ls.length fun i hi => fitM_of (lot_fit (lotN_in hL) hi))
  have fl := flatTo_len ls ls.length
  have CN := Lib.hid fun s => cfN_le (t := t) (z := z) (F := F) n60 s
  have cfe : ∀ s, (flL t z F ls [s]).length = cfN t z F ls s := fun _ => rfl
  unfold cfAll
  rw [← fl]
  generalize flatTo ls ls.length = ws at *
  have nws : ws.length ≤ 720 := by omega
  have FD := Lib.hid FD
  generalize mkTo t z F ls ls.length = ms at *
  have CFE := Lib.hid cfe
  clear hF hL hok ML fl nw cfe
  have hmm := fun W => run_makeMap (P := Try.prog) 140 W
  go_enter Try.func91, Try.ntmps91
  go_wp2_with (first
    | (go_at_call 74; refine (MS.out _ B0.out).mono ?_; rintro e w1 ⟨v, rfl, hO, hB⟩; obtain ⟨a1, c1, rfl, hm⟩ := ownMs_in hO; have b1 := Lib.hid (B0.out.trans (Below.mono hB B0.out.size)); have m1 := Lib.hid (Ab.block hB M0.out); have I1 := Lib.hid hm; clear hB hO hm)
    | (go_at_call 122; refine (CC.out _ (b1.out.alloc b1.out.size _)).mono ?_; rintro e w3 ⟨v, rfl, hO, hB⟩; obtain ⟨a3, c3, hv, _⟩ := ownStrs_in hO; subst hv; have O3 := Lib.hid hO; have B3 := Lib.hid hB; clear hO hB))
  have NM := Lib.hid ((namesIn_made Try.prog 9 4 w1).below B3.out)
  have BM := Lib.hid ((show Below w1.heap.size w1 (w1.alloc (.map #[] 0)) from below_new (Below.refl _ _) _).trans (Below.mono B3.out (by simp)))
  have e9 : (w1.alloc (.map #[] 0)).heap.size = w1.heap.size + 1 := World.size_alloc _ _
  have O4 := O3.out
  rw [e9] at O4
  have O4 := Lib.hid O4
  clear hmm O3 B3 e9 MS CC
  go_loopw [7, 17] (fun q i wr => ∃ j : Nat, j ≤ ws.length ∧ i = .int .i64 j ∧ q = .int .i64 (sumF (cfN t z F ls) (difN ws j) : Int) ∧ NamesIn Try.prog 9 4 wr w1.heap.size (difN ws j) ∧ OwnStrs (w1.heap.size + 1) ws (.slice a3 ws.length c3) wr ∧ Below w1.heap.size w1 wr) (fun _ i _ => ws.length - (intOf i).toNat)
  case atStart => exact ⟨0, Nat.zero_le _, rfl, rfl, NM.out, O4.out, BM.out⟩
  case round =>
    obtain ⟨j, hj, rfl, rfl, hN, hO, hB⟩ := hrel
    have N := Lib.hid hN
    have OO := Lib.hid hO
    have BB := Lib.hid hB
    have BW := Lib.hid (b1.out.trans (Below.mono hB b1.out.size))
    have ne3 := ownStrs_lt hO
    clear NM O4 BM hN
    by_cases hjl : j < ws.length
    · have hd : decide ((j : Int) < (ws.length : Int)) = true := by simpa using hjl
      obtain ⟨a9, c9, hv9, hs9⟩ := ownStrs_in hO
      cases hv9
      obtain ⟨g3, o3, rfl, hg3, p0⟩ := hs9 j hjl
      have i1 : (0 : Int) ≤ (j : Int) := by omega
      have i2 : (j : Int) < (ws.length : Int) := by omega
      have FS := Lib.hid (fitM_at FF.out hjl)
      have yes := Lib.hid fun h => difN_yes (ws := ws) (k := j) h
      have no := Lib.hid fun h => difN_no (ws := ws) (k := j) h
      have dl := difN_len ws j
      have sl := sumF_le (fun s => CN.out s) (difN ws j)
      have J := Lib.hid (show (difN ws j).length < maxLen by unfold maxLen; omega)
      have SA := Lib.hid fun s => sumF_app (cfN t z F ls) s (difN ws j)
      have cb := CN.out (ws.getD j ⟨#[]⟩)
      have CE := Lib.hid (CFE.out (ws.getD j ⟨#[]⟩))
      have L := N.out.asked Try.underlying140 Try.underlying9 Try.underlying4 (zero_boolS wr) _ FS.out
      clear hO hB hs9
      generalize difN ws j = ds at *
      generalize ws.getD j ⟨#[]⟩ = s at *
      cases hq : hasN ds s
      · rw [hq] at L
        have NO := Lib.hid (no.out hq)
        obtain ⟨w5, U, N5, hg⟩ := N.out.added Try.underlying140 Try.underlying9 Try.underlying4 _ FS.out J.out
        have G5 := Lib.hid hg
        have N5 := Lib.hid N5
        have B5 := Lib.hid (Below.grown BB.out hg BB.out.size (fun k hk => by cases hk; exact Nat.le_refl _))
        have m5 := Ab.block (Below.mono B5.out (Nat.le_refl _)) m1.out
        have g0 := cell_of_block m5 0
        have g1 := cell_of_block m5 1
        have g2 := cell_of_block m5 2
        have s5 := lt_of_block m5
        have FD1 := Lib.hid (FD.out (w5.alloc (.cells #[.string s] 9)) a1 c1 (some ⟨w5.heap.size, 0, none⟩) s 1 ((b1.out.trans (Below.mono B5.out b1.out.size)).alloc (Nat.le_trans b1.out.size B5.out.size) _) (masksIn_below I1.out (B5.out.alloc B5.out.size _)) (strs_oneB _ _ _) (fit_oneB FS.out))
        have x1 : IntKind.i64.wrap ((sumF (cfN t z F ls) ds : Int) + ((flL t z F ls [s]).length : Int)) = ((sumF (cfN t z F ls) ds + cfN t z F ls s : Nat) : Int) := by rw [CE.out, Int.natCast_add]; exact IntWalk.i64_in _ (by omega)
        have SS := Lib.hid (SA.out s)
        clear yes no hq m5 hg sl dl cb
        generalize flL t z F ls [s] = xs at *
        go_wp2_with (go_at_call 89; refine FD1.out.mono ?_; rintro e w6 ⟨v6, rfl, hO6, hB6⟩; obtain ⟨a6, c6, rfl, _⟩ := ownInts_in hO6; have B6 := Lib.hid (Below.trans (show Below w5.heap.size w5 _ from below_new (Below.refl _ _) _) (Below.mono hB6 (by simp))); clear hO6 hB6)
        refine ⟨⟨j + 1, hjl, by rw [Int.natCast_succ], by rw [NO.out, SS.out, Int.natCast_add], by rw [NO.out]; exact N5.out.below B6.out, ?_, B5.out.trans (Below.mono B6.out B5.out.size)⟩, by (simp [intOf]) <;> omega⟩
        exact ownStrs_kept (row_grown OO.out G5.out (fun k hk e => by cases e; have := ne3 _ hk; omega)) B6.out
      · rw [hq] at L
        have YE := Lib.hid (yes.out hq)
        clear yes no hq sl dl cb
        go_wp2
        exact ⟨⟨j + 1, hjl, by rw [Int.natCast_succ], by rw [YE.out], by rw [YE.out]; exact N.out, OO.out, BB.out⟩, by (simp [intOf]) <;> omega⟩
    · have e : j = ws.length := by omega
      subst e
      have hd : decide ((ws.length : Int) < (ws.length : Int)) = false := by simp
      clear hO hB
      go_wp2
      go_ret
      exact ⟨rfl, BW.out⟩
end Go.Proofs.Ytoippchkhknhpaa

namespace Go.Proofs.Ytoippchkhknhpaa
open Go.ChangeShapes Go.WideShapes Go.ChangeAt Go.RowKit

set_option maxRecDepth 100000 in
set_option maxHeartbeats 800000 in
theorem sDiff_any (al : Option Addr) (ls : List (List ByteArray)) (cl : Nat) (w : World) (hL : LotIn w al ls) (hn : ls.length ≤ 60) (hw : nWords ls ls.length ≤ 720) :
    Calls Try.prog 121 #[.slice al ls.length cl] w (StR (difN (flatTo ls ls.length) (nWords ls ls.length)) w) := by
  obtain ⟨i0, hi, hz0, hz1, hz2⟩ := info_parts info_strT
  have LL := Lib.hid hL
  have NT := Lib.hid (fun k (hk : k ≤ ls.length) => (show nWords ls k ≤ 720 by
    have := nWords_mono ls k (ls.length - k)
    rw [show k + (ls.length - k) = ls.length by omega] at this
    omega))
  have FA := Lib.hid fun i k (hi : i < ls.length) (hk : k < (lsAt ls i).length) => flat_at (ls := ls) (i := i) (k := k) hk ls.length hi
  have NS := Lib.hid fun i => (show nWords ls (i + 1) = nWords ls i + (lsAt ls i).length from rfl)
  generalize flatTo ls ls.length = ws at *
  clear hL hw
  go_enter Try.func121, Try.ntmps121
  go_wp2
  go_loopw [3, 4] (fun v i wr => ∃ j : Nat, j ≤ ls.length ∧ i = .int .i64 j ∧ OwnStrs w.heap.size (difN ws (nWords ls j)) v wr ∧ Below w.heap.size w wr) (fun _ i _ => ls.length - (intOf i).toNat)
  case atStart => exact ⟨0, Nat.zero_le _, rfl, ownStrs_none rfl (Nat.le_refl _), ab_new _ _⟩
  case round =>
    obtain ⟨j, hj, rfl, O, hB⟩ := hrel
    have B0 := Lib.hid hB
    have O0 := Lib.hid O
    clear O
    by_cases hjl : j < ls.length
    · have hd : decide ((j : Int) < (ls.length : Int)) = true := by simpa using hjl
      obtain ⟨b1, o1, sa, sc, rfl, hb1, p0, p1, _, p3⟩ := LL.out j hjl
      have i3 : (0 : Int) ≤ (j : Int) := by omega
      have i4 : (j : Int) < (ls.length : Int) := by omega
      have P0 := Lib.hid p0
      have P1 := Lib.hid p1
      have nj := NS.out j
      have nt := NT.out (j + 1) hjl
      have nl : (lsAt ls j).length ≤ 720 := by omega
      have NB := Lib.hid (show nWords ls j + (lsAt ls j).length ≤ 720 by omega)
      have NJ := Lib.hid nj
      have FX := Lib.hid fun k hk => FA.out j k hjl hk
      clear hB p0 p1 p3 nj nt
      generalize nWords ls j = n0 at *
      generalize lsAt ls j = x at *
      go_wp2
      go_loopw [3, 5] (fun v i wr => ∃ k : Nat, k ≤ x.length ∧ i = .int .i64 k ∧ OwnStrs w.heap.size (difN ws (n0 + k)) v wr ∧ Below w.heap.size w wr) (fun _ i _ => x.length - (intOf i).toNat)
      case atStart => exact ⟨0, Nat.zero_le _, rfl, O0.out, B0.out⟩
      case round =>
        obtain ⟨k, hk, rfl, O, hB⟩ := hrel
        have BB := Lib.hid hB
        have OO := Lib.hid O
        have d0 := (hB.cell (p := ⟨b1, o1 + j, none⟩) hb1).trans P0.out
        clear O
        by_cases hkl : k < x.length
        · have hd2 : decide ((k : Int) < (x.length : Int)) = true := by simpa using hkl
          obtain ⟨b2, o2, rfl, hb2, r0⟩ := P1.out k hkl
          have d1 := (hB.cell (p := ⟨b2, o2 + k, none⟩) hb2).trans r0
          have i5 : (0 : Int) ≤ (k : Int) := by omega
          have i6 : (k : Int) < (x.length : Int) := by omega
          have fx := FX.out k hkl
          have yes := Lib.hid fun h => difN_yes (ws := ws) (k := n0 + k) h
          have no := Lib.hid fun h => difN_no (ws := ws) (k := n0 + k) h
          rw [fx] at yes no
          have dl := difN_len ws (n0 + k)
          have nb := NB.out
          have dl2 : (difN ws (n0 + k)).length ≤ 720 := by omega
          have s1 := hB.size
          obtain ⟨ao, co, hv, hs⟩ := ownStrs_in OO.out
          subst hv
          have C := sHasS_any ao (difN ws (n0 + k)) co (x.getD k ⟨#[]⟩) wr hs (by omega)
          have EA : Hid (n0 + (k + 1) = n0 + k + 1) := Lib.hid (show n0 + (k + 1) = n0 + k + 1 from rfl)
          clear hB r0 fx dl nb hs
          generalize difN ws (n0 + k) = xs at *
          generalize x.getD k ⟨#[]⟩ = s at *
          generalize hasN xs s = q at *
          cases q
          · have NO := Lib.hid (no.out rfl)
            have C := Lib.hid C
            clear yes no
            go_wp2_with (first
              | (go_at_call 112; refine C.out.mono ?_; rintro e w4 ⟨rfl, rfl⟩)
              | (at_builtin; refine wpList_append_own _ rfl _ _ 37 rfl w.heap.size 9 i0 (.string ⟨#[]⟩) 1 16 Try.underlying37 hi hz0 hz1 hz2 rfl (by decide) _ _ _ rfl (World.ownsRow.alloc OO.out _) ⟨wr.heap.size, 0, none⟩ 1 1 [.string s] rfl rfl (u_one_new _ _ _) (fun u hu => by simp at hu; subst hu; rfl) (by unfold maxLen; omega) (by omega) (by simp; omega) ?_; intro v' w4 hown hgrow _; have P := Lib.hid (ownStrs_push hown); have G := Lib.hid hgrow; clear hown hgrow))
            exact ⟨⟨k + 1, hkl, by rw [Int.natCast_succ], by rw [EA.out, NO.out]; exact P.out, Below.grown (BB.out.alloc s1 _) G.out (by simp; omega) (fun k hk => ownStrs_lt OO.out k hk)⟩, by (simp [intOf]) <;> omega⟩
          · have YE := Lib.hid (yes.out rfl)
            have C := Lib.hid C
            clear yes no
            go_wp2_with (go_at_call 112; refine C.out.mono ?_; rintro e w4 ⟨rfl, rfl⟩)
            exact ⟨⟨k + 1, hkl, by rw [Int.natCast_succ], by rw [EA.out, YE.out]; exact OO.out, BB.out⟩, by (simp [intOf]) <;> omega⟩
        · have e : k = x.length := by omega
          subst e
          have hd2 : decide ((x.length : Int) < (x.length : Int)) = false := by simp
          clear hB
          go_wp2
          exact ⟨⟨j + 1, hjl, by rw [Int.natCast_succ], by rw [NJ.out]; exact OO.out, BB.out⟩, by (simp [intOf]) <;> omega⟩
    · have e : j = ls.length := by omega
      subst e
      have hd : decide ((ls.length : Int) < (ls.length : Int)) = false := by simp
      clear hB
      go_wp2
      go_ret
      exact ⟨_, rfl, O0.out, B0.out⟩

/-- A part of one text. -/
theorem strs_part {w : World} {g j : Nat} {zs : List ByteArray} (h : StrsIn w (some ⟨g, 0, none⟩) zs) (hj : j < zs.length) : StrsIn w (some ⟨g, j, none⟩) [zs.getD j ⟨#[]⟩] := fun i hi => by
  have hi0 : i = 0 := by simp at hi; omega
  subst hi0
  obtain ⟨b, o, e, hb, hc⟩ := h j hj
  cases e
  exact ⟨g, j, rfl, hb, by rw [Nat.zero_add] at hc; simpa using hc⟩

set_option maxRecDepth 100000 in
set_option maxHeartbeats 800000 in
theorem sSum_any (t z p : Int) (F : Int → Nat) (hF : StopF t z p F) (t0 : 0 ≤ t) (z0 : 4 ≤ z) (tz : t + z ≤ 96) (p1 : 1 ≤ p) (p8 : p ≤ 8) (g o : Nat) (al : Option Addr) (ls : List (List ByteArray)) (cl : Nat) (w : World) (hL : LotIn w al ls) (hok : lotOk ls = true) (h1 : w.cell? ⟨g, o, none⟩ = some (.int .i16 t)) (h2 : w.cell? ⟨g, o + 1, none⟩ = some (.int .i16 z)) (h3 : w.cell? ⟨g, o + 2, none⟩ = some (.int .i16 p)) :
    Calls Try.prog 90 #[.pointer (some ⟨g, o, none⟩), .slice al ls.length cl] w fun e w' => e = .returned (.int .i64 (cfAll t z F ls : Int)) ∧ Below w.heap.size w w' := by
  have n60 := lot_60 hok
  have nw : nWords ls ls.length ≤ 720 := by have := nWords_lot hok ls.length (Nat.le_refl _); omega
  have hg := World.block_lt_of_cell? _ _ h1
  have LL := Lib.hid hL
  have MS := Lib.hid (sMasks_any t z p F hF t0 z0 tz p1 p8 g o al ls cl w hL n60 h1 h2 h3)
  have DD := Lib.hid fun W (hb : Below w.heap.size w W) => sDiff_any al ls cl W (lotIn_below LL.out hb) n60 nw
  have ML := mkTo_len t z F ls ls.length
  have MU := mkTo_u64 F ls ls.length t0 z0 tz
  have FD := fun W am cm ad s cap (hb : Below w.heap.size w W) hm hs hf => sFalseL_any t z p F hF t0 z0 tz p1 p8 g o al ls cl am (mkTo t z F ls ls.length) cm ad [s] cap W (lotIn_below LL.out hb) hm MU hs hf (by simp) n60 ML ((hb.cell (p := ⟨g, o, none⟩) hg).trans h1) ((hb.cell (p := ⟨g, o + 1, none⟩) hg).trans h2) ((hb.cell (p := ⟨g, o + 2, none⟩) hg).trans h3)
  simp only [flL_as] at FD
  have FF := difN_fit (ws := flatTo ls ls.length) (flat_fit ls.length fun i hi => fitM_of (lot_fit hL hi)) (nWords ls ls.length) (by rw [flatTo_len]; exact Nat.le_refl _)
  have FF := Lib.hid FF
  have CN := Lib.hid fun s => cfN_le (t := t) (z := z) (F := F) n60 s
  have cfe : ∀ s, (flL t z F ls [s]).length = cfN t z F ls s := fun _ => rfl
  have nws := difN_len (flatTo ls ls.length) (nWords ls ls.length)
  unfold cfAll
  generalize difN (flatTo ls ls.length) (nWords ls ls.length) = ws at *
  have nws : ws.length ≤ 720 := by omega
  have FD := Lib.hid FD
  generalize mkTo t z F ls ls.length = ms at *
  have CFE := Lib.hid cfe
  clear hF hL hok ML MU nw cfe h1 h2 h3
  go_enter Try.func90, Try.ntmps90
  go_wp2_with (first
    | (go_at_call 71; refine MS.out.mono ?_; rintro e w1 ⟨v, rfl, hO, hB⟩; obtain ⟨a1, c1, rfl, hm⟩ := ownMs_in hO; have b1 := Lib.hid hB; have I1 := Lib.hid hm; clear hB hO hm)
    | (go_at_call 121; refine (DD.out _ b1.out).mono ?_; rintro e w3 ⟨v, rfl, hO, hB⟩; have O3 := Lib.hid hO; have b3 := Lib.hid (b1.out.trans (Below.mono hB b1.out.size)); have I3 := Lib.hid (masksIn_below I1.out hB); obtain ⟨a3, c3, hv, _⟩ := ownStrs_in hO; subst hv; clear hB hO))
  clear MS DD
  go_loopw [7, 8] (fun q i wr => ∃ j : Nat, j ≤ ws.length ∧ i = .int .i64 j ∧ q = .int .i64 (sumF (cfN t z F ls) (ws.take j) : Int) ∧ Below w3.heap.size w3 wr) (fun _ i _ => ws.length - (intOf i).toNat)
  case atStart => exact ⟨0, Nat.zero_le _, rfl, rfl, Below.refl _ _⟩
  case round =>
    obtain ⟨j, hj, rfl, rfl, hB⟩ := hrel
    have BB := Lib.hid hB
    have BW := Lib.hid (b3.out.trans (Below.mono hB b3.out.size))
    by_cases hjl : j < ws.length
    · have hd : decide ((j : Int) < (ws.length : Int)) = true := by simpa using hjl
      have hO := ownStrs_kept O3.out hB
      rcases hO.2 with ⟨hv, hn0⟩ | ⟨g3, cap3, cur3, hv, hb3, _, hcap, hmax, _⟩
      · omega
      cases hv
      obtain ⟨a9, c9, hv9, hs9⟩ := ownStrs_in hO
      cases hv9
      have i1 : (0 : Int) ≤ (j : Int) := by omega
      have i2 : (j : Int) + 1 ≤ (c3 : Int) := by omega
      have i3 : (j : Int) ≤ (j : Int) + 1 := by omega
      have x0 : IntKind.i64.wrap ((j : Int) + 1) = (j : Int) + 1 := IntWalk.i64_in _ (by omega)
      have cj : (c3 == j) = false := by rw [beq_eq_false_iff_ne]; omega
      have ne1 : ¬ c3 = j := by omega
      have ne2 : ¬ c3 - j = 0 := by omega
      have FD1 := FD.out wr a1 c1 (some ⟨g3, j, none⟩) (ws.getD j ⟨#[]⟩) (c3 - j) BW.out (masksIn_below I3.out hB) (strs_part hs9 hjl) (fit_oneB (fitM_at FF.out hjl))
      have tk : ws.take (j + 1) = ws.take j ++ [ws.getD j ⟨#[]⟩] := by
        rw [List.take_add_one, List.getElem?_eq_getElem hjl]
        simp [List.getD, hjl]
      have sl := sumF_le (fun s => CN.out s) (ws.take j)
      have tl := List.length_take_le j ws
      have cb := CN.out (ws.getD j ⟨#[]⟩)
      have SA := Lib.hid (show sumF (cfN t z F ls) (ws.take (j + 1)) = sumF (cfN t z F ls) (ws.take j) + cfN t z F ls (ws.getD j ⟨#[]⟩) by rw [tk, sumF_app])
      have CE := CFE.out (ws.getD j ⟨#[]⟩)
      have x1 : IntKind.i64.wrap ((sumF (cfN t z F ls) (ws.take j) : Int) + ((flL t z F ls [ws.getD j ⟨#[]⟩]).length : Int)) = ((sumF (cfN t z F ls) (ws.take j) + cfN t z F ls (ws.getD j ⟨#[]⟩) : Nat) : Int) := by rw [CE, Int.natCast_add]; exact IntWalk.i64_in _ (by omega)
      have FD1 := Lib.hid FD1
      clear hB hO hs9 tk sl tl cb CE hcap hmax
      generalize flL t z F ls [ws.getD j ⟨#[]⟩] = xs at *
      generalize ws.getD j ⟨#[]⟩ = s at *
      go_wp2_with (go_at_call 88; refine FD1.out.mono ?_; rintro e w6 ⟨v6, rfl, hO6, hB6⟩; obtain ⟨a6, c6, rfl, _⟩ := ownInts_in hO6; have B6 := Lib.hid hB6; clear hO6 hB6)
      exact ⟨⟨j + 1, hjl, by rw [Int.natCast_succ], by rw [SA.out, Int.natCast_add], BB.out.trans (Below.mono B6.out BB.out.size)⟩, by (simp [intOf]) <;> omega⟩
    · have e : j = ws.length := by omega
      subst e
      have hd : decide ((ws.length : Int) < (ws.length : Int)) = false := by simp
      have tk := Lib.hid (List.take_length (l := ws))
      clear hB
      go_wp2
      go_ret
      exact ⟨by rw [tk.out]; rfl, BW.out⟩
end Go.Proofs.Ytoippchkhknhpaa

namespace Go.Proofs.Ytoippchkhknhpaa
open Go.ChangeShapes Go.WideShapes Go.ChangeAt Go.RowKit

def cnV (c : Int) (n : Nat) : Value := .tuple #[.int .i64 (if c = 0 then (n : Int) else 0), .int .i64 c]
theorem cnV_no {c : Int} (n : Nat) (h : c ≠ 0) : cnV c n = .tuple #[.int .i64 0, .int .i64 c] := by unfold cnV; rw [if_neg h]
theorem cnV_yes (n : Nat) : cnV 0 n = .tuple #[.int .i64 (n : Int), .int .i64 0] := rfl

set_option maxRecDepth 100000 in
set_option maxHeartbeats 1600000 in
theorem iCf_any (t z p : Int) (ht : I16 t) (hz : I16 z) (F : Int → Nat) (hF : mixOk t z p = true → StopF t z p F) (al : Option Addr) (ls : List (List ByteArray)) (cl : Nat) (w : World) (hL : LotN w al ls) (hn : ls.length ≤ 9223372036854775807) :
    Calls Try.prog 42 #[.agg #[.int .i16 t, .int .i16 z, .int .i16 p], .slice al ls.length cl] w fun e w' => e = .returned (cnV (mlC (mixOk t z p) ls) (cfAll t z F ls)) ∧ Below w.heap.size w w' := by
  have V := fun W => iValidMix_any t z p ht hz W
  have M0 := Lib.hid (block_alloc w (.cells #[.int .i16 t, .int .i16 z, .int .i16 p] 30))
  have B0 := Lib.hid (below_new (Below.refl w.heap.size w) (.cells #[.int .i16 t, .int .i16 z, .int .i16 p] 30))
  have K := fun W (hb : Below w.heap.size w W) => iIsLot_any al ls cl W (lotIn_below (lotN_in hL) hb) hn
  have LL := Lib.hid hL
  clear hL ht hz
  cases hv : mixOk t z p
  · rw [hv] at V
    rw [mlC_mix, cnV_no _ (by decide)]
    have V := Lib.hid V
    clear hv hF K
    go_enter Try.func42, Try.ntmps42
    go_wp2_with (go_at_call 72; refine (V.out _).mono ?_; rintro e w1 ⟨rfl, hB⟩; have b1 := Lib.hid (B0.out.trans (Below.mono hB B0.out.size)); clear hB)
    go_ret2
    exact ⟨rfl, b1.out⟩
  · rw [hv] at V
    have V := Lib.hid V
    have hF := hF hv
    obtain ⟨t0, z0, tz, p1, p8, pz⟩ := mix_inv hv
    rw [mlC_ok]
    clear hv
    cases h1 : lotOk ls
    · rw [h1] at K
      rw [lotC_no h1, cnV_no _ (by decide)]
      have K := Lib.hid K
      clear h1 hF
      go_enter Try.func42, Try.ntmps42
      go_wp2_with (first | (go_at_call 72; refine (V.out _).mono ?_; rintro e w1 ⟨rfl, hB⟩; have b1 := Lib.hid (B0.out.trans (Below.mono hB B0.out.size)); clear hB) | (go_at_call 73; refine (K.out _ b1.out).mono ?_; rintro e w2 ⟨rfl, rfl⟩))
      go_ret2
      exact ⟨rfl, b1.out⟩
    · rw [h1] at K
      rw [lotC_yes h1, cnV_yes]
      have K := Lib.hid K
      have CF := Lib.hid fun W h => iCountF_any t z p F hF t0 z0 tz p1 p8 al ls cl W h h1
      clear h1 hF
      generalize cfAll t z F ls = n at *
      go_enter Try.func42, Try.ntmps42
      go_wp2_with (first | (go_at_call 72; refine (V.out _).mono ?_; rintro e w1 ⟨rfl, hB⟩; have b1 := Lib.hid (B0.out.trans (Below.mono hB B0.out.size)); have a1 := Ab.block hB M0.out; have g0 := cell_of_block a1 0; have g1 := cell_of_block a1 1; have g2 := cell_of_block a1 2; have s1 := lt_of_block a1; clear hB a1) | (go_at_call 73; refine (K.out _ b1.out).mono ?_; rintro e w2 ⟨rfl, rfl⟩) | (go_at_call 91; refine (CF.out _ (lotN_below LL.out b1.out)).mono ?_; rintro e w3 ⟨rfl, hB⟩; have B := Lib.hid hB; clear hB))
      go_ret2
      exact ⟨rfl, b1.out.trans (Below.mono B.out b1.out.size)⟩

set_option maxRecDepth 100000 in
set_option maxHeartbeats 1600000 in
theorem sCf_any (t z p : Int) (ht : I16 t) (hz : I16 z) (hp : I16 p) (F : Int → Nat) (hF : mixOk t z p = true → StopF t z p F) (al : Option Addr) (ls : List (List ByteArray)) (cl : Nat) (w : World) (hL : LotIn w al ls) (hn : ls.length ≤ 9223372036854775807) :
    Calls Try.prog 41 #[.agg #[.int .i16 t, .int .i16 z, .int .i16 p], .slice al ls.length cl] w fun e w' => e = .returned (cnV (mlC (mixOk t z p) ls) (cfAll t z F ls)) ∧ Below w.heap.size w w' := by
  have V := sOkMix_any t z p ht hz hp w.heap.size 0 (w.alloc (.cells #[.int .i16 t, .int .i16 z, .int .i16 p] 30)) (by simp) (by simp) (by simp)
  have M0 := Lib.hid (block_alloc w (.cells #[.int .i16 t, .int .i16 z, .int .i16 p] 30))
  have B0 := Lib.hid (below_new (Below.refl w.heap.size w) (.cells #[.int .i16 t, .int .i16 z, .int .i16 p] 30))
  have K := fun W (hb : Below w.heap.size w W) => sLot_any al ls cl W (lotIn_below hL hb) hn
  have LL := Lib.hid hL
  clear hL ht hz hp
  cases hv : mixOk t z p
  · rw [hv] at V
    rw [mlC_mix, cnV_no _ (by decide)]
    have V := Lib.hid V
    clear hv hF K
    go_enter Try.func41, Try.ntmps41
    go_wp2_with (go_at_call 69; refine V.out.mono ?_; rintro e w1 ⟨rfl, hB⟩; have b1 := Lib.hid (B0.out.trans (Below.mono hB B0.out.size)); clear hB)
    go_ret2
    exact ⟨rfl, b1.out⟩
  · rw [hv] at V
    have V := Lib.hid V
    have hF := hF hv
    obtain ⟨t0, z0, tz, p1, p8, pz⟩ := mix_inv hv
    rw [mlC_ok]
    clear hv
    cases h1 : lotOk ls
    · rw [lotC_no h1] at K
      rw [lotC_no h1, cnV_no _ (by decide)]
      have K := Lib.hid K
      clear h1 hF
      go_enter Try.func41, Try.ntmps41
      go_wp2_with (first | (go_at_call 69; refine V.out.mono ?_; rintro e w1 ⟨rfl, hB⟩; have b1 := Lib.hid (B0.out.trans (Below.mono hB B0.out.size)); clear hB) | (go_at_call 70; refine (K.out _ b1.out).mono ?_; rintro e w2 ⟨rfl, rfl⟩))
      go_ret2
      exact ⟨rfl, b1.out⟩
    · rw [lotC_yes h1] at K
      rw [lotC_yes h1, cnV_yes]
      have K := Lib.hid K
      have SM := Lib.hid fun W h q0 q1 q2 => sSum_any t z p F hF t0 z0 tz p1 p8 w.heap.size 0 al ls cl W h h1 q0 q1 q2
      clear h1 hF
      generalize cfAll t z F ls = n at *
      go_enter Try.func41, Try.ntmps41
      go_wp2_with (first | (go_at_call 69; refine V.out.mono ?_; rintro e w1 ⟨rfl, hB⟩; have b1 := Lib.hid (B0.out.trans (Below.mono hB B0.out.size)); have a1 := Lib.hid (Ab.block hB M0.out); clear hB) | (go_at_call 70; refine (K.out _ b1.out).mono ?_; rintro e w2 ⟨rfl, rfl⟩) | (go_at_call 90; refine (SM.out _ (lotIn_below LL.out b1.out) (by simpa using cell_of_block a1.out 0) (by simpa using cell_of_block a1.out 1) (by simpa using cell_of_block a1.out 2)).mono ?_; rintro e w3 ⟨rfl, hB⟩; have B := Lib.hid hB; clear hB))
      go_ret2
      exact ⟨rfl, b1.out.trans (Below.mono B.out b1.out.size)⟩
end Go.Proofs.Ytoippchkhknhpaa

namespace Go.Proofs.Ytoippchkhknhpaa
open Go.ChangeShapes Go.WideShapes Go.ChangeAt Go.RowKit

theorem cell_sm {A B : World} {b o : Nat} (h : B.heap[b]? = A.heap[b]?) : B.cell? ⟨b, o, none⟩ = A.cell? ⟨b, o, none⟩ := by unfold World.cell?; simp only [h]
theorem Wb.oth {w w' : World} {g g' m : Nat} (h : Wb w g m) (o : Oth g' w w') (hne : g ≠ g') (hg : g < w.heap.size) : Wb w' g m :=
  ⟨fun j hj => (h.1 j hj).imp fun _ hv => (cell_sm (o.block g hne hg)).trans hv, fun j hj => by have := h.2 j hj; unfold World.frozen? at this ⊢; simp only [o.block g hne hg]; exact this⟩

set_option maxHeartbeats 1600000 in
theorem toMasksW_any (ad : Option Addr) (ms : List (Int × Int)) (c : Nat) (w : World) (hc : MasksIn w ad ms) (hn : ms.length ≤ 1048576) :
    Calls Try.prog 37 #[.slice ad ms.length c] w fun e w' => ∃ g, e = .returned (.slice (some ⟨g, 0, none⟩) ms.length ms.length) ∧ (w.heap.size ≤ g ∧ g < w'.heap.size) ∧ Wb w' g (ms.length * 2) ∧ MasksIn w' (some ⟨g, 0, none⟩) ms ∧ Below w.heap.size w w' := by
  obtain ⟨i0, hi, hz0, hz1, hz2⟩ := info_parts info_mask
  have C := Lib.hid hc
  clear hc
  go_enter Try.func37, Try.ntmps37
  go_wp2_with (at_make; refine wpList_make_full _ rfl _ _ 27 rfl w.heap.size 51 i0 (.agg #[.int .u64 0, .int .u64 0]) 2 Try.underlying27 hi hz0 hz1 _ _ _ _ ms.length rfl rfl rfl rfl (by rw [hz2]; omega) (by unfold maxLen; omega) (Nat.le_refl _) ?_; intro w1 hown hgrow; have M := Lib.hid hown; have G := Lib.hid hgrow; clear hown hgrow)
  have O : w1.ownsRow w.heap.size 51 2 (.slice (some ⟨w.heap.size, 0, none⟩) ms.length ms.length) ms.length (rowM ms 0) := by rw [← rowM_zero]; exact M.out
  have B1 := Lib.hid (Below.grown (Below.refl w.heap.size w) G.out (Nat.le_refl _) (fun j hj => by cases hj))
  have OO := Lib.hid O
  clear M G O hi hz0 hz1 hz2
  go_loopw [4] (fun i wr => ∃ k : Nat, k ≤ ms.length ∧ i = .int .i64 k ∧ wr.ownsRow w.heap.size 51 2 (.slice (some ⟨w.heap.size, 0, none⟩) ms.length ms.length) ms.length (rowM ms k) ∧ Below w.heap.size w wr) (fun i _ => ms.length - (intOf i).toNat)
  case atStart => exact ⟨0, Nat.zero_le _, rfl, OO.out, B1.out⟩
  case round =>
    obtain ⟨k, hk, rfl, O2, hB⟩ := hrel
    have O3 := Lib.hid O2
    have BB := Lib.hid hB
    have gl := (O2.lt w.heap.size rfl).2
    by_cases hkl : k < ms.length
    · have hd : decide ((k : Int) < (ms.length : Int)) = true := by simpa using hkl
      obtain ⟨b1, o1, rfl, hb1, p0, p1⟩ := C.out k hkl
      have d0 := (hB.cell (p := ⟨b1, o1 + k * 2, none⟩) hb1).trans p0
      have d1 := (hB.cell (p := ⟨b1, o1 + k * 2 + 1, none⟩) hb1).trans p1
      have nx := Lib.hid (rowM_next ms k hkl)
      have i1 : (0 : Int) ≤ (k : Int) := by omega
      have i2 : (k : Int) < (ms.length : Int) := by omega
      have r0 := O2.cellAt (k * 2) (by omega)
      have r1 := O2.cellAt (k * 2 + 1) (by omega)
      rw [rowM_get ms k _ (by omega)] at r0 r1
      have fz := fun j => O2.frozenAt j
      generalize (ms.getD k (0, 0)).1 = a at *
      generalize (ms.getD k (0, 0)).2 = b at *
      have K := Lib.hid fun W => toMask_up a b W
      have R0 := Lib.hid r0
      have R1 := Lib.hid r1
      have FZ := Lib.hid fz
      clear hB p0 p1 O2 r0 r1 fz
      go_wp2_with (go_at_call 33; refine (K.out _).mono ?_; rintro e w2 ⟨rfl, hB2⟩; have t0 := (hB2.cell (p := ⟨w.heap.size, k * 2, none⟩) gl).trans R0.out; have t1 := (hB2.cell (p := ⟨w.heap.size, k * 2 + 1, none⟩) gl).trans R1.out; have u : ∀ j, w2.frozen? ⟨w.heap.size, j, none⟩ = false := (fun j => (hB2.frozen (p := ⟨w.heap.size, j, none⟩) gl).trans (FZ.out j)); have O4 := Lib.hid (ownsRow_up O3.out hB2); have B2 := Lib.hid (below_next BB.out hB2); clear hB2)
      have s0 := O4.out.stored (k * 2) (.int .u64 a)
      have s1 := s0.1.stored (k * 2 + 1) (.int .u64 b)
      have o := s1.1
      have n := nx.out
      rw [n] at o
      exact ⟨⟨k + 1, hkl, by rw [Int.natCast_succ], o, (B2.out.setCell (Nat.le_refl _) _).setCell (Nat.le_refl _) _⟩, by (simp [intOf]) <;> omega⟩
    · have e : k = ms.length := by omega
      subst e
      have hd : decide ((ms.length : Int) < (ms.length : Int)) = false := by simp
      clear O2 hB
      go_wp2
      go_ret
      refine ⟨w.heap.size, rfl, ⟨Nat.le_refl _, gl⟩, ⟨fun j hj => ⟨_, (O3.out.cellAt j (by omega)).trans (rowM_get ms _ _ hj)⟩, fun j _ => O3.out.frozenAt j⟩, fun i hi => ⟨w.heap.size, 0, rfl, gl, ?_, ?_⟩, BB.out⟩
      · rw [Nat.zero_add, O3.out.cellAt _ (by omega), rowM_get ms _ _ (by omega), show i * 2 / 2 = i by omega, if_pos hi, show i * 2 % 2 = 0 by omega]; rfl
      · rw [Nat.zero_add, O3.out.cellAt _ (by omega), rowM_get ms _ _ (by omega), show (i * 2 + 1) / 2 = i by omega, if_pos hi, show (i * 2 + 1) % 2 = 1 by omega]; rfl


set_option maxRecDepth 100000 in
set_option maxHeartbeats 1600000 in
theorem markMasks_any (n g k c : Nat) (w : World) (hW0 : Wb w g (n * 2)) (hg : g < w.heap.size) (hk : k + 2 * n ≤ 4000000) :
    Calls Try.prog 21 #[.slice (some ⟨g, 0, none⟩) n c, .int .i64 (k : Int)] w fun e w' => e = .returned (.int .i64 ((k + 2 * n : Nat) : Int)) ∧ Oth g w w' := by
  have W0 := Lib.hid hW0
  clear hW0
  go_enter Try.func21, Try.ntmps21
  go_wp2
  go_loopw [1, 5] (fun q i wr => ∃ j q0 : Nat, j ≤ n ∧ i = .int .i64 j ∧ q = .int .i64 (q0 : Int) ∧ q0 = k + 2 * j ∧ Wb wr g (n * 2) ∧ Oth g w wr) (fun _ i _ => n - (intOf i).toNat)
  case atStart => exact ⟨0, k, Nat.zero_le _, rfl, rfl, by omega, W0.out, Oth.refl _ _⟩
  case round =>
    obtain ⟨j, q0, hj, rfl, rfl, hq, hW, hO⟩ := hrel
    have Q := Lib.hid hq
    have WW := Lib.hid hW
    have OO := Lib.hid hO
    have gl : g < wr.heap.size := Nat.lt_of_lt_of_le hg hO.size
    by_cases hkl : j < n
    · have hd : decide ((j : Int) < (n : Int)) = true := by simpa using hkl
      have qb : q0 ≤ 4000000 := by omega
      have i1 : (0 : Int) ≤ (j : Int) := by omega
      have i2 : (j : Int) < (n : Int) := by omega
      obtain ⟨y0, r0⟩ := hW.1 (j * 2) (by omega)
      obtain ⟨y1, r1⟩ := hW.1 (j * 2 + 1) (by omega)
      have z0 := hW.2 (j * 2) (by omega)
      have z1 := hW.2 (j * 2 + 1) (by omega)
      have x1 : IntKind.i64.wrap ((q0 : Int) + 1) = (q0 : Int) + 1 := IntWalk.i64_in _ (by omega)
      have x2 : IntKind.i64.wrap ((q0 : Int) + 1 + 1) = (q0 : Int) + 1 + 1 := IntWalk.i64_in _ (by omega)
      have x3 : IntKind.u64.wrap (q0 : Int) = (q0 : Int) := IntWalk.u64_in _ (by omega)
      have x4 : IntKind.u64.wrap ((q0 : Int) + 1) = (q0 : Int) + 1 := IntWalk.u64_in _ (by omega)
      clear hq hW hO
      go_wp2
      refine wp_loop_rounds 3 ?_
      rw [rounds_succ]; go_wp2
      rw [rounds_succ]; go_wp2
      rw [rounds_succ]; go_wp2
      exact ⟨⟨j + 1, q0 + 2, hkl, by rw [Int.natCast_succ], by congr 1, by have := Q.out; omega, (WW.out.set _ (by omega) _).set _ (by omega) _, (OO.out.set _ _).set _ _⟩, by (simp [intOf]) <;> omega⟩
    · have e : j = n := by omega
      subst e
      have hd : decide ((j : Int) < (j : Int)) = false := by simp
      clear hW hO
      have hq2 := hq
      subst hq2
      clear hq
      go_wp2
      go_ret
      exact ⟨rfl, OO.out⟩

/-! ### Of the call's own -/
def mrkM (q : Nat) : Int × Int := ((q : Int), (q : Int) + 1)
def MarkedM (k j : Nat) (ms : List (Int × Int)) : Prop := ∀ l, l < j → ms.getD l (0, 0) = mrkM (k + 2 * l)
theorem markedM_next {k j : Nat} {ms : List (Int × Int)} (h : MarkedM k j ms) (hj : j < ms.length) : MarkedM k (j + 1) (ms.set j (mrkM (k + 2 * j))) := by
  intro l hl
  rw [List.getD, List.getElem?_set]
  by_cases e : j = l
  · subst e; simp [hj]
  · rw [if_neg e]; exact h l (by omega)
theorem flatM_set : ∀ (ms : List (Int × Int)) (i : Nat) (m : Int × Int), ((flatM ms).set (i * 2) (.int .u64 m.1)).set (i * 2 + 1) (.int .u64 m.2) = flatM (ms.set i m)
  | [], i, m => rfl
  | d :: ms, 0, m => rfl
  | d :: ms, i + 1, m => by
    rw [show (i + 1) * 2 = i * 2 + 1 + 1 by omega]
    have := flatM_set ms i m
    simp only [flatM, List.set_cons_succ, this]

set_option maxRecDepth 100000 in
set_option maxHeartbeats 3200000 in
theorem markMsOwn_any (B : Nat) (ms : List (Int × Int)) (v : Value) (k : Nat) (w : World) (h : OwnMs B ms v w) (hk : k + 2 * ms.length ≤ 4000000) :
    Calls Try.prog 21 #[v, .int .i64 (k : Int)] w fun e w' => e = .returned (.int .i64 ((k + 2 * ms.length : Nat) : Int)) ∧ (∃ ds, ds.length = ms.length ∧ MarkedM k ds.length ds ∧ OwnMs B ds v w') ∧ Below B w w' := by
  obtain ⟨h1, h2⟩ := h
  rcases h2 with ⟨rfl, hz⟩ | ⟨g, cap, cur, rfl, hb, hg, hcap, hmax, hsz, htk⟩
  · have e : ms = [] := List.length_eq_zero_iff.1 hz
    subst e
    go_enter Try.func21, Try.ntmps21
    go_wp2
    refine wp_loop_rounds 1 ?_
    rw [rounds_succ]; go_wp2
    go_ret
    exact ⟨rfl, ⟨[], rfl, fun l hl => absurd hl (Nat.not_lt_zero _), ⟨rfl, .inl ⟨rfl, rfl⟩⟩⟩, Below.refl _ _⟩
  · have O : OwnMs B ms (.slice (some ⟨g, 0, none⟩) ms.length cap) w := ⟨h1, .inr ⟨g, cap, cur, rfl, hb, hg, hcap, hmax, hsz, htk⟩⟩
    have hgB := Lib.hid hb
    have OW := Lib.hid O
    clear h1 hg hcap hsz htk hmax cur O
    obtain ⟨n, hn⟩ : ∃ n, ms.length = n := ⟨_, rfl⟩
    rw [hn] at hk ⊢
    have NN := Lib.hid hn
    clear hn
    go_enter Try.func21, Try.ntmps21
    go_wp2
    go_loopw [1, 5] (fun q i wr => ∃ (j q0 : Nat) (ds : List (Int × Int)), j ≤ n ∧ i = .int .i64 j ∧ q = .int .i64 (q0 : Int) ∧ q0 = k + 2 * j ∧ ds.length = n ∧ MarkedM k j ds ∧ OwnMs B ds (.slice (some ⟨g, 0, none⟩) ds.length cap) wr ∧ Below B w wr) (fun _ i _ => n - (intOf i).toNat)
    case atStart => exact ⟨0, k, ms, Nat.zero_le _, rfl, rfl, by omega, NN.out, fun l hl => absurd hl (Nat.not_lt_zero _), OW.out, Below.refl _ _⟩
    case round =>
      obtain ⟨j, q0, ds, hj, rfl, rfl, hq, hds, hM, hO, hB⟩ := hrel
      have Q := Lib.hid hq
      have DS := Lib.hid hds
      have MM := Lib.hid hM
      have OO := Lib.hid hO
      have BB := Lib.hid hB
      have gl : g < wr.heap.size := (World.ownsRow.lt hO g rfl).2
      by_cases hkl : j < n
      · have hd : decide ((j : Int) < (n : Int)) = true := by simpa using hkl
        have qb : q0 ≤ 4000000 := by omega
        have i1 : (0 : Int) ≤ (j : Int) := by omega
        have i2 : (j : Int) < (n : Int) := by omega
        have hjd : j < ds.length := by omega
        have g3 := flatM_get ds j hjd
        have r0 := (World.ownsRow.cellAt hO (j * 2) (by omega)).trans g3.1
        have r1 := (World.ownsRow.cellAt hO (j * 2 + 1) (by omega)).trans g3.2
        have z0 := World.ownsRow.frozenAt hO (j * 2)
        have z1 := World.ownsRow.frozenAt hO (j * 2 + 1)
        have NX := Lib.hid (markedM_next hM hjd)
        have ST := Lib.hid (flatM_set ds j (mrkM (k + 2 * j)))
        have QM := Lib.hid (show mrkM (k + 2 * j) = ((q0 : Int), (q0 : Int) + 1) by rw [← hq]; rfl)
        have x1 : IntKind.i64.wrap ((q0 : Int) + 1) = (q0 : Int) + 1 := IntWalk.i64_in _ (by omega)
        have x2 : IntKind.i64.wrap ((q0 : Int) + 1 + 1) = (q0 : Int) + 1 + 1 := IntWalk.i64_in _ (by omega)
        have x3 : IntKind.u64.wrap (q0 : Int) = (q0 : Int) := IntWalk.u64_in _ (by omega)
        have x4 : IntKind.u64.wrap ((q0 : Int) + 1) = (q0 : Int) + 1 := IntWalk.u64_in _ (by omega)
        clear hq hds hM hO hB g3 hjd
        go_wp2
        refine wp_loop_rounds 3 ?_
        rw [rounds_succ]; go_wp2
        rw [rounds_succ]; go_wp2
        rw [rounds_succ]; go_wp2
        have s1 := World.ownsRow.stored OO.out (j * 2) (.int .u64 (q0 : Int))
        have s2 := s1.1.stored (j * 2 + 1) (.int .u64 ((q0 : Int) + 1))
        have o := s2.1
        have st := ST.out
        rw [QM.out] at st
        simp only at st
        rw [st, ← QM.out] at o
        refine ⟨⟨j + 1, q0 + 2, ds.set j (mrkM (k + 2 * j)), hkl, by rw [Int.natCast_succ], by congr 1, by have := Q.out; omega, by rw [List.length_set]; exact DS.out, NX.out, ?_, (BB.out.setCell hgB.out _).setCell hgB.out _⟩, by (simp [intOf]) <;> omega⟩
        unfold OwnMs
        rw [List.length_set]
        exact o
      · have e : j = n := by omega
        subst e
        have hd : decide ((j : Int) < (j : Int)) = false := by simp
        clear hds hM hO hB
        have hq2 := hq
        subst hq2
        clear hq
        go_wp2
        go_ret
        exact ⟨rfl, ⟨ds, DS.out, by rw [DS.out]; exact MM.out, by have := OO.out; rw [DS.out] at this; exact this⟩, BB.out⟩

set_option maxRecDepth 100000 in
set_option maxHeartbeats 3200000 in
theorem heldMs_any (a : Option Addr) (ds : List (Int × Int)) (c k : Nat) (w : World) (h : MasksIn w a ds) (hm : MarkedM k ds.length ds) (hk : k + 2 * ds.length ≤ 4000000) :
    Calls Try.prog 22 #[.slice a ds.length c, .int .i64 (k : Int)] w fun e w' => e = .returned (.int .i64 ((k + 2 * ds.length : Nat) : Int)) ∧ w = w' := by
  have H := Lib.hid h
  have M := Lib.hid hm
  clear h hm
  go_enter Try.func22, Try.ntmps22
  go_wp2
  go_loop [1, 5] (fun q i => ∃ j q0 : Nat, j ≤ ds.length ∧ i = .int .i64 j ∧ q = .int .i64 (q0 : Int) ∧ q0 = k + 2 * j) (fun _ i => ds.length - (intOf i).toNat)
  case atStart => exact ⟨0, k, Nat.zero_le _, rfl, rfl, by omega⟩
  case round =>
    obtain ⟨j, q0, hj, rfl, rfl, hq⟩ := hrel
    have Q := Lib.hid hq
    by_cases hkl : j < ds.length
    · have hd : decide ((j : Int) < (ds.length : Int)) = true := by simpa using hkl
      have qb : q0 ≤ 4000000 := by omega
      have i1 : (0 : Int) ≤ (j : Int) := by omega
      have i2 : (j : Int) < (ds.length : Int) := by omega
      obtain ⟨b, o, rfl, hb, c0, c1⟩ := H.out j hkl
      have e := M.out j hkl
      rw [← hq] at e
      rw [e] at c0 c1
      simp only [mrkM] at c0 c1
      have x1 : IntKind.i64.wrap ((q0 : Int) + 1) = (q0 : Int) + 1 := IntWalk.i64_in _ (by omega)
      have x2 : IntKind.i64.wrap ((q0 : Int) + 1 + 1) = (q0 : Int) + 1 + 1 := IntWalk.i64_in _ (by omega)
      have x3 : IntKind.u64.wrap (q0 : Int) = (q0 : Int) := IntWalk.u64_in _ (by omega)
      have x4 : IntKind.u64.wrap ((q0 : Int) + 1) = (q0 : Int) + 1 := IntWalk.u64_in _ (by omega)
      have n0 : ((q0 : Int) != (q0 : Int)) = false := by simp
      have n1 : ((q0 : Int) + 1 != (q0 : Int) + 1) = false := by simp
      clear hq e
      go_wp2
      refine wp_loop_rounds 3 ?_
      rw [rounds_succ]; go_wp2
      rw [rounds_succ]; go_wp2
      rw [rounds_succ]; go_wp2
      exact ⟨⟨j + 1, q0 + 2, hkl, by rw [Int.natCast_succ], by congr 1, by have := Q.out; omega⟩, by (simp [intOf]) <;> omega⟩
    · have e : j = ds.length := by omega
      subst e
      have hd : decide ((ds.length : Int) < (ds.length : Int)) = false := by simp
      have hq2 := hq
      subst hq2
      clear hq
      go_wp2
      go_ret
      exact ⟨rfl, rfl⟩
end Go.Proofs.Ytoippchkhknhpaa

namespace Go.Proofs.Ytoippchkhknhpaa
open Go.ChangeShapes Go.WideShapes Go.ChangeAt Go.RowKit

def totL (ls : List (List ByteArray)) : Nat → Nat
  | 0 => 0
  | k + 1 => totL ls k + (lsAt ls k).length
theorem totL_mono (ls : List (List ByteArray)) (k : Nat) : ∀ d, totL ls k ≤ totL ls (k + d)
  | 0 => Nat.le_refl _
  | d + 1 => Nat.le_trans (totL_mono ls k d) (by show totL ls (k + d) ≤ totL ls (k + d) + _; omega)
def SzLotT (ls : List (List ByteArray)) (w : World) (e : Ending) (w' : World) : Prop := ∃ z : Int, e = .returned (.int .i64 z) ∧ -1 ≤ z ∧ z ≤ 1048576 ∧ (0 ≤ z → LotSmall ls ∧ (totL ls ls.length : Int) + z ≤ 1048576) ∧ w = w'

set_option maxHeartbeats 1600000 in
theorem szLotT_any (ad : Option Addr) (ls : List (List ByteArray)) (c : Nat) (l : Nat) (w : World) (hc : LotIn w ad ls) (l1 : l ≤ 1048576) (hn : ls.length ≤ 9223372036854775807) :
    Calls Try.prog 13 #[.slice ad ls.length c, .int .i64 (l : Int)] w (SzLotT ls w) := by
  have C := Lib.hid hc
  clear hc
  have d1 : IntKind.i64.wrap ((l : Int) - (ls.length : Int)) = (l : Int) - (ls.length : Int) := IntWalk.i64_in _ (by omega)
  have HN := Lib.hid hn
  clear hn
  by_cases h : (l : Int) - (ls.length : Int) < 0
  · have d2 : decide ((l : Int) - (ls.length : Int) < 0) = true := by simp; omega
    go_enter Try.func13, Try.ntmps13
    go_wp2
    go_ret
    exact ⟨-1, rfl, by omega, by omega, fun h => absurd h (by decide), rfl⟩
  · have d2 : decide ((l : Int) - (ls.length : Int) < 0) = false := by simp; omega
    have hk : ls.length ≤ 1048576 := by omega
    go_enter Try.func13, Try.ntmps13
    go_wp2
    go_loop [1, 5] (fun q i => ∃ (j m : Nat), j ≤ ls.length ∧ i = .int .i64 j ∧ q = .int .i64 (m : Int) ∧ m ≤ 1048576 ∧ LoTo ls j ∧ totL ls j + m ≤ 1048576) (fun _ i => ls.length - (intOf i).toNat)
    case atStart => exact ⟨0, l - ls.length, Nat.zero_le _, rfl, by congr 1; omega, by omega, fun i hi => absurd hi (Nat.not_lt_zero _), by show 0 + _ ≤ _; omega⟩
    case round =>
      obtain ⟨j, m, hj, rfl, rfl, m1, hs, ht⟩ := hrel
      have HT := Lib.hid ht
      clear ht
      have SS := Lib.hid hs
      clear d1 d2 hs
      by_cases hjl : j < ls.length
      · have hd : decide ((j : Int) < (ls.length : Int)) = true := by simpa using hjl
        obtain ⟨b1, o1, sa, sc, rfl, hb1, q0, q1, q2, q3⟩ := C.out j hjl
        have i1 : (0 : Int) ≤ (j : Int) := by omega
        have i2 : (j : Int) < (ls.length : Int) := by omega
        have nx : Hid ((lsAt ls j).length ≤ 1048576 → LoTo ls (j + 1)) := Lib.hid fun h => loTo_next SS.out h
        have TL := Lib.hid (show totL ls (j + 1) = totL ls j + (lsAt ls j).length from rfl)
        have TS := Lib.hid (totS_len (lsAt ls j) (lsAt ls j).length)
        have fl : totS (lsAt ls j) (lsAt ls j).length ≤ m → (lsAt ls j).length ≤ 1048576 := fun h => by have := totS_len (lsAt ls j) (lsAt ls j).length; omega
        have K := Lib.hid fun W hs => szStrs_any sa (lsAt ls j) sc m W hs q2 (by unfold maxLen at q3; omega) m1
        clear q2 q3
        generalize lsAt ls j = x at *
        have Q := Lib.hid q1
        clear q1
        by_cases hz : totS x x.length ≤ m
        · have S3 := Lib.hid (nx.out (fl hz))
          have hm : leftS x m = ((m - totS x x.length : Nat) : Int) := by rw [leftS_yes hz]; omega
          rw [hm] at K
          have y1 : m - totS x x.length ≤ 1048576 := by omega
          have Y2 : Hid (totL ls (j + 1) + (m - totS x x.length) ≤ 1048576) := Lib.hid (by have a := TL.out; have b := TS.out; have c := HT.out; omega)
          clear hm hz nx fl TL TS HT
          generalize m - totS x x.length = m2 at *
          have d3 : decide ((m2 : Int) < 0) = false := decide_eq_false (by omega)
          go_wp2_with (go_at_call 23; refine (K.out _ Q.out).mono ?_; rintro e w2 ⟨rfl, rfl⟩)
          exact ⟨⟨j + 1, m2, hjl, by rw [Int.natCast_succ], rfl, y1, S3.out, Y2.out⟩, by (simp [intOf]) <;> omega⟩
        · have hm : leftS x m = -1 := leftS_no (Nat.le_refl _) (by omega)
          rw [hm] at K
          clear hm hz nx fl
          go_wp2_with (go_at_call 23; refine (K.out _ Q.out).mono ?_; rintro e w2 ⟨rfl, rfl⟩)
          go_ret
          exact ⟨-1, rfl, by omega, by omega, fun h => absurd h (by decide), rfl⟩
      · have e : j = ls.length := by omega
        subst e
        have hd : decide ((ls.length : Int) < (ls.length : Int)) = false := by simp
        go_wp2
        go_ret
        exact ⟨m, rfl, by omega, by omega, fun _ => ⟨⟨hk, SS.out⟩, by have c := HT.out; omega⟩, rfl⟩


/-! ### Copied into lists that may be written -/
theorem wb_far {w : World} {G k g n : Nat} {v : Value} (h : Wb w g n) (hne : G ≠ g) : Wb (w.setCell ⟨G, k, none⟩ v) g n :=
  ⟨fun j hj => (h.1 j hj).imp fun _ hv => (World.cell?_setCell_far w ⟨G, k, none⟩ ⟨g, j, none⟩ v hne).trans hv, fun j hj => by rw [World.frozen?_setCell]; exact h.2 j hj⟩
def RowG (w : World) (G : Nat) (ls : List (List ByteArray)) (k : Nat) (xs : List Value) (gs : Nat → Nat) : Prop := xs.length = ls.length ∧ (∀ i j, i < j → j < k → gs i < gs j) ∧ ∀ i, i < ls.length →
  (i < k → xs[i]? = some (.slice (some ⟨gs i, 0, none⟩) (lsAt ls i).length (lsAt ls i).length) ∧ G < gs i ∧ gs i < w.heap.size ∧ Wb w (gs i) (lsAt ls i).length ∧ StrsIn w (some ⟨gs i, 0, none⟩) (lsAt ls i)) ∧ (¬ i < k → xs[i]? = some (.slice none 0 0))
theorem rowG_below {w w' : World} {G : Nat} {ls : List (List ByteArray)} {k : Nat} {xs : List Value} {gs : Nat → Nat} (h : RowG w G ls k xs gs) (hb : Below w.heap.size w w') : RowG w' G ls k xs gs := by
  refine ⟨h.1, h.2.1, fun i hi => ⟨fun hk => ?_, (h.2.2 i hi).2⟩⟩
  obtain ⟨h1, h2, h3, h4, h5⟩ := (h.2.2 i hi).1 hk
  exact ⟨h1, h2, Nat.lt_of_lt_of_le h3 hb.size, h4.below hb h3, strsIn_below h5 hb⟩
theorem rowG_next {w : World} {G g : Nat} {ls : List (List ByteArray)} {k : Nat} {xs : List Value} {gs : Nat → Nat} (h : RowG w G ls k xs gs) (hk : k < ls.length) (hg : G < g) (hi : ∀ i, i < k → gs i < g) (hl : g < w.heap.size) (hw : Wb w g (lsAt ls k).length) (hs : StrsIn w (some ⟨g, 0, none⟩) (lsAt ls k)) :
    RowG (w.setCell ⟨G, k, none⟩ (.slice (some ⟨g, 0, none⟩) (lsAt ls k).length (lsAt ls k).length)) G ls (k + 1) (xs.set k (.slice (some ⟨g, 0, none⟩) (lsAt ls k).length (lsAt ls k).length)) (fun i => if i = k then g else gs i) := by
  refine ⟨by rw [List.length_set]; exact h.1, fun i j hij hj => ?_, fun i hi => ⟨fun hik => ?_, fun hik => ?_⟩⟩
  · show (if i = k then g else gs i) < (if j = k then g else gs j)
    by_cases e : j = k
    · subst e
      rw [if_neg (by omega), if_pos rfl]
      exact hi i hij
    · rw [if_neg (by omega), if_neg e]
      exact h.2.1 i j hij (by omega)
  · rw [List.getElem?_set]
    show _ ∧ G < (if i = k then g else gs i) ∧ (if i = k then g else gs i) < _ ∧ Wb _ (if i = k then g else gs i) _ ∧ StrsIn _ (some ⟨if i = k then g else gs i, 0, none⟩) _
    by_cases e : i = k
    · subst e
      rw [if_pos rfl, if_pos (by rw [h.1]; exact hk)]
      simp only [if_true]
      exact ⟨trivial, hg, by rw [World.size_setCell]; exact hl, wb_far hw (by omega), strsIn_set hs fun b off hb => by injection hb with hb; injection hb with hb; omega⟩
    · rw [if_neg (Ne.symm e)]
      simp only [if_neg e]
      obtain ⟨h1, h2, h3, h4, h5⟩ := (h.2.2 i hi).1 (by omega)
      exact ⟨h1, h2, by rw [World.size_setCell]; exact h3, wb_far h4 (by omega), strsIn_set h5 fun b off hb => by injection hb with hb; injection hb with hb; omega⟩
  · rw [List.getElem?_set, if_neg (by omega)]
    exact (h.2.2 i hi).2 (by omega)
/-- Lists that may be written, each in a block of its own. -/
def LotW (w : World) (G H : Nat) (ls : List (List ByteArray)) (gs : Nat → Nat) : Prop := G < w.heap.size ∧ (∀ i j, i < j → j < ls.length → gs i < gs j) ∧ ∀ i, i < ls.length → w.cell? ⟨G, i, none⟩ = some (.slice (some ⟨gs i, 0, none⟩) (lsAt ls i).length (lsAt ls i).length) ∧ G < gs i ∧ gs i < H ∧ Wb w (gs i) (lsAt ls i).length
theorem lotW_below {w w' : World} {G H : Nat} {ls : List (List ByteArray)} {gs : Nat → Nat} (h : LotW w G H ls gs) (hH : H ≤ w.heap.size) (hb : Below w.heap.size w w') : LotW w' G H ls gs := by
  refine ⟨Nat.lt_of_lt_of_le h.1 hb.size, h.2.1, fun i hi => ?_⟩
  obtain ⟨h1, h2, h3, h4⟩ := h.2.2 i hi
  exact ⟨(hb.cell (p := ⟨G, i, none⟩) h.1).trans h1, h2, h3, h4.below hb (Nat.lt_of_lt_of_le h3 hH)⟩
def NewLW (ls : List (List ByteArray)) (w : World) (e : Ending) (w' : World) : Prop := ∃ gs, e = .returned (.slice (some ⟨w.heap.size, 0, none⟩) ls.length ls.length) ∧ LotW w' w.heap.size w'.heap.size ls gs ∧ LotIn w' (some ⟨w.heap.size, 0, none⟩) ls ∧ Below w.heap.size w w'

set_option maxHeartbeats 1600000 in
theorem toLotW_any (ad : Option Addr) (ls : List (List ByteArray)) (c : Nat) (w : World) (hc : LotIn w ad ls) (hn : LotSmall ls) :
    Calls Try.prog 16 #[.slice ad ls.length c] w (NewLW ls w) := by
  obtain ⟨i0, hi, hz0, hz1, hz2⟩ := info_parts info_strs
  have C := Lib.hid hc
  have SM := Lib.hid hn.2
  have n1 := hn.1
  clear hc hn
  go_enter Try.func16, Try.ntmps16
  go_wp2_with (at_make; refine wpList_make_full _ rfl _ _ 25 rfl w.heap.size 37 i0 (.slice none 0 0) 1 Try.underlying25 hi hz0 hz1 _ _ _ _ ls.length rfl rfl rfl rfl (by rw [hz2]; omega) (by unfold maxLen; omega) (Nat.le_refl _) ?_; intro w1 hown hgrow; have M := Lib.hid hown; have G := Lib.hid hgrow; clear hown hgrow)
  have O : w1.ownsRow w.heap.size 37 1 (.slice (some ⟨w.heap.size, 0, none⟩) ls.length ls.length) ls.length (List.replicate ls.length (.slice none 0 0)) := by have := M.out; rwa [show (Value.slice none 0 0).cells = #[.slice none 0 0] from rfl, Nat.mul_one, ← Nat.mul_one ls.length, toList_madeCells_one, Nat.mul_one] at this
  have R0 : RowG w1 w.heap.size ls 0 (List.replicate ls.length (.slice none 0 0)) (fun _ => 0) := ⟨by simp, fun i j _ h => absurd h (Nat.not_lt_zero _), fun i hi => ⟨fun h => absurd h (Nat.not_lt_zero _), fun _ => by rw [List.getElem?_replicate, if_pos hi]⟩⟩
  have B1 := Lib.hid (Below.grown (Below.refl w.heap.size w) G.out (Nat.le_refl _) (fun j hj => by cases hj))
  have OO := Lib.hid O
  have RR := Lib.hid R0
  clear M G O R0 hi hz0 hz1 hz2
  go_loopw [4] (fun i wr => ∃ (k : Nat) (xs : List Value) (gs : Nat → Nat), k ≤ ls.length ∧ i = .int .i64 k ∧ wr.ownsRow w.heap.size 37 1 (.slice (some ⟨w.heap.size, 0, none⟩) ls.length ls.length) ls.length xs ∧ RowG wr w.heap.size ls k xs gs ∧ Below w.heap.size w wr) (fun i _ => ls.length - (intOf i).toNat)
  case atStart => exact ⟨0, _, _, Nat.zero_le _, rfl, OO.out, RR.out, B1.out⟩
  case round =>
    obtain ⟨k, xs, gs, hk, rfl, O2, hR, hB⟩ := hrel
    have O3 := Lib.hid O2
    have R3 := Lib.hid hR
    have BB := Lib.hid hB
    have gl := (O2.lt w.heap.size rfl).2
    by_cases hkl : k < ls.length
    · have hd : decide ((k : Int) < (ls.length : Int)) = true := by simpa using hkl
      obtain ⟨b1, o1, sa, sc, rfl, hb1, p0, p1, _, _⟩ := C.out k hkl
      have d0 := (hB.cell (p := ⟨b1, o1 + k, none⟩) hb1).trans p0
      have P1 := strsIn_below p1 hB
      have K := Lib.hid fun W (h : Below wr.heap.size wr W) => toStrs_any sa (lsAt ls k) sc W (strsIn_below P1 h) (SM.out k hkl)
      have i1 : (0 : Int) ≤ (k : Int) := by omega
      have i2 : (k : Int) < (ls.length : Int) := by omega
      have r0 := O2.cellAt k (by omega)
      rw [(hR.2.2 k hkl).2 (Nat.lt_irrefl k)] at r0
      have R0 := Lib.hid r0
      have FZ := Lib.hid (O2.frozenAt k)
      have nx := Lib.hid fun W g h1 h2 h3 h4 h5 h6 => rowG_next (w := W) (G := w.heap.size) (g := g) (ls := ls) (k := k) (xs := xs) (gs := gs) h1 hkl h2 h3 h4 h5 h6
      have GL := Lib.hid fun i hi => ((hR.2.2 i (by omega)).1 hi).2.2.1
      have yr : b1 < wr.heap.size := Nat.lt_of_lt_of_le hb1 hB.size
      generalize lsAt ls k = x at *
      clear hB p0 p1 P1 O2 hR r0
      go_wp2_with (go_at_call 25; refine (K.out _ (by first | exact Below.refl _ _ | ((repeat' (first | (with_reducible exact Below.refl _ _) | (with_reducible assumption) | (with_reducible refine below_drewN ?_ _) | (with_reducible refine Below.drew ?_) | (with_reducible refine below_new ?_ _) | (with_reducible refine below_next ?_ (by with_reducible assumption)) | (with_reducible refine Below.setCell ?_ ?_ _) | go_size)); done))).mono ?_; rintro e w2 ⟨v, rfl, ⟨g, rfl, g1, g2, g3⟩, hB2⟩; have t0 := (hB2.cell (p := ⟨w.heap.size, k, none⟩) gl).trans R0.out; have u0 := (hB2.frozen (p := ⟨w.heap.size, k, none⟩) gl).trans FZ.out; have O4 := Lib.hid (ownsRow_belowL O3.out hB2); have R4 := Lib.hid (nx.out w2 g (rowG_below R3.out hB2) (by omega) (fun i hi => Nat.lt_of_lt_of_le (GL.out i hi) g1) g2 ⟨fun j hj => ⟨_, (g3 j hj).1⟩, fun j hj => (g3 j hj).2⟩ (fun i hi => ⟨g, 0, rfl, g2, by rw [Nat.zero_add]; exact (g3 i hi).1⟩)); have B2 := Lib.hid (below_next BB.out hB2); clear hB2 g3)
      have s0 := O4.out.stored k (.slice (some ⟨g, 0, none⟩) x.length x.length)
      exact ⟨⟨k + 1, _, _, hkl, by rw [Int.natCast_succ], s0.1, R4.out, B2.out.setCell (Nat.le_refl _) _⟩, by (simp [intOf]) <;> omega⟩
    · have e : k = ls.length := by omega
      subst e
      have hd : decide ((ls.length : Int) < (ls.length : Int)) = false := by simp
      clear O2 hR hB
      go_wp2
      go_ret
      have CE : ∀ i, i < ls.length → wr.cell? ⟨w.heap.size, i, none⟩ = some (.slice (some ⟨gs i, 0, none⟩) (lsAt ls i).length (lsAt ls i).length) := fun i hi => (O3.out.cellAt i (by omega)).trans ((R3.out.2.2 i hi).1 hi).1
      refine ⟨gs, rfl, ⟨gl, R3.out.2.1, fun i hi => ?_⟩, fun i hi => ?_, BB.out⟩
      · obtain ⟨h1, h2, h3, h4, h5⟩ := (R3.out.2.2 i hi).1 hi
        exact ⟨CE i hi, h2, h3, h4⟩
      · obtain ⟨h1, h2, h3, h4, h5⟩ := (R3.out.2.2 i hi).1 hi
        obtain ⟨_, _, _, _, _, _, _, _, hf, hm⟩ := C.out i hi
        exact ⟨w.heap.size, 0, _, _, rfl, gl, by rw [Nat.zero_add]; exact CE i hi, h5, hf, hm⟩


/-! ### Marked -/
/-- Nothing lies otherwise but blocks between G and H. -/
structure Mid (G H : Nat) (w w' : World) : Prop where
  os : w'.os = w.os
  tape : w'.tape = w.tape
  output : w'.output = w.output
  size : w.heap.size ≤ w'.heap.size
  block : ∀ j, (j ≤ G ∨ H ≤ j) → j < w.heap.size → w'.heap[j]? = w.heap[j]?
theorem Mid.refl (G H : Nat) (w : World) : Mid G H w w := ⟨rfl, rfl, rfl, Nat.le_refl _, fun _ _ _ => rfl⟩
theorem Mid.trans {G H : Nat} {a b c : World} (h : Mid G H a b) (k : Mid G H b c) : Mid G H a c := ⟨k.os.trans h.os, k.tape.trans h.tape, k.output.trans h.output, Nat.le_trans h.size k.size, fun j hj hl => (k.block j hj (Nat.lt_of_lt_of_le hl h.size)).trans (h.block j hj hl)⟩
theorem Mid.of_oth {G H g : Nat} {w w' : World} (h : Oth g w w') (h1 : G < g) (h2 : g < H) : Mid G H w w' := ⟨h.os, h.tape, h.output, h.size, fun j hj hl => h.block j (by omega) hl⟩
theorem Mid.below {G H : Nat} {w w' : World} (h : Mid G H w w') (hg : G < w.heap.size) : Below (G + 1) w w' := ⟨h.os, h.tape, h.output, h.size, fun k hk => h.block k (.inl (by omega)) (by omega)⟩
theorem own_mid {B G H : Nat} {zs : List Int} {v : Value} {w w' : World} (h : OwnInts B zs v w) (hb : Mid G H w w') (hg : H ≤ B) : OwnInts B zs v w' := by
  obtain ⟨h1, h2⟩ := h
  refine ⟨h1, ?_⟩
  rcases h2 with hn | ⟨b, cap, cur, rfl, hB, hh, rest⟩
  · exact .inl hn
  · exact .inr ⟨b, cap, cur, rfl, hB, (hb.block b (.inr (by omega)) (Array.getElem?_eq_some_iff.1 hh).1).trans hh, rest⟩
theorem ownMs_mid {B G H : Nat} {ms : List (Int × Int)} {v : Value} {w w' : World} (h : OwnMs B ms v w) (hb : Mid G H w w') (hg : H ≤ B) : OwnMs B ms v w' := by
  obtain ⟨h1, h2⟩ := h
  refine ⟨h1, ?_⟩
  rcases h2 with hn | ⟨b, cap, cur, rfl, hB, hh, rest⟩
  · exact .inl hn
  · exact .inr ⟨b, cap, cur, rfl, hB, (hb.block b (.inr (by omega)) (Array.getElem?_eq_some_iff.1 hh).1).trans hh, rest⟩
theorem Wb.mid {w w' : World} {G H g m : Nat} (h : Wb w g m) (o : Mid G H w w') (hg : H ≤ g) (hl : g < w.heap.size) : Wb w' g m :=
  ⟨fun j hj => (h.1 j hj).imp fun _ hv => (cell_sm (o.block g (.inr hg) hl)).trans hv, fun j hj => by have := h.2 j hj; unfold World.frozen? at this ⊢; simp only [o.block g (.inr hg) hl]; exact this⟩

set_option maxRecDepth 100000 in
set_option maxHeartbeats 1600000 in
theorem markLot_any (G H : Nat) (ls : List (List ByteArray)) (gs : Nat → Nat) (k c : Nat) (w : World) (hL : LotW w G H ls gs) (hH : H ≤ w.heap.size) (hn : ls.length ≤ 1048576) (hk : k + totL ls ls.length ≤ 4000000) :
    Calls Try.prog 20 #[.slice (some ⟨G, 0, none⟩) ls.length c, .int .i64 (k : Int)] w fun e w' => e = .returned (.int .i64 ((k + totL ls ls.length : Nat) : Int)) ∧ Mid G H w w' := by
  have LL := Lib.hid hL
  clear hL
  go_enter Try.func20, Try.ntmps20
  go_wp2
  go_loopw [1, 5] (fun q i wr => ∃ j q0 : Nat, j ≤ ls.length ∧ i = .int .i64 j ∧ q = .int .i64 (q0 : Int) ∧ q0 = k + totL ls j ∧ (∀ i, j ≤ i → i < ls.length → Wb wr (gs i) (lsAt ls i).length) ∧ Mid G H w wr) (fun _ i _ => ls.length - (intOf i).toNat)
  case atStart => exact ⟨0, k, Nat.zero_le _, rfl, rfl, rfl, fun i _ hi => (LL.out.2.2 i hi).2.2.2, Mid.refl _ _ _⟩
  case round =>
    obtain ⟨j, q0, hj, rfl, rfl, hq, hW, hO⟩ := hrel
    have Q := Lib.hid hq
    have WW := Lib.hid hW
    have OO := Lib.hid hO
    by_cases hkl : j < ls.length
    · have hd : decide ((j : Int) < (ls.length : Int)) = true := by simpa using hkl
      have i1 : (0 : Int) ≤ (j : Int) := by omega
      have i2 : (j : Int) < (ls.length : Int) := by omega
      obtain ⟨c1, c2, c3, c4⟩ := LL.out.2.2 j hkl
      have r0 := (cell_sm (hO.block G (.inl (Nat.le_refl _)) LL.out.1)).trans c1
      have tl : totL ls (j + 1) = totL ls j + (lsAt ls j).length := rfl
      have tm := totL_mono ls (j + 1) (ls.length - (j + 1))
      rw [show j + 1 + (ls.length - (j + 1)) = ls.length by omega] at tm
      have lt : gs j < wr.heap.size := Nat.lt_of_lt_of_le (Nat.lt_of_lt_of_le c3 hH) hO.size
      have K := Lib.hid (markStrs_any (lsAt ls j).length (gs j) q0 (lsAt ls j).length wr (hW j (Nat.le_refl _) hkl) lt (by omega))
      have NX := Lib.hid (show q0 + (lsAt ls j).length = k + totL ls (j + 1) by omega)
      have G1 := Lib.hid c2
      have G2 := Lib.hid c3
      have IN := Lib.hid LL.out.2.1
      have LT := Lib.hid fun i (hi : i < ls.length) => Nat.lt_of_lt_of_le (Nat.lt_of_lt_of_le (LL.out.2.2 i hi).2.2.1 hH) hO.size
      clear hq hW hO c1 c2 c3 c4 tl tm lt
      generalize lsAt ls j = x at *
      go_wp2_with (go_at_call 29; refine K.out.mono ?_; rintro e w2 ⟨rfl, hO⟩; have W2 := Lib.hid (fun i (h1 : j + 1 ≤ i) (h2 : i < ls.length) => (WW.out i (by omega) h2).oth hO (Nat.ne_of_gt (IN.out j i (by omega) h2)) (LT.out i h2)); have O2 := Lib.hid (OO.out.trans (Mid.of_oth hO G1.out G2.out)); clear hO)
      exact ⟨⟨j + 1, q0 + x.length, hkl, by rw [Int.natCast_succ], rfl, NX.out, W2.out, O2.out⟩, by (simp [intOf]) <;> omega⟩
    · have e : j = ls.length := by omega
      subst e
      have hd : decide ((ls.length : Int) < (ls.length : Int)) = false := by simp
      clear hW hO
      have hq2 := hq
      subst hq2
      clear hq
      go_wp2
      go_ret
      exact ⟨rfl, OO.out⟩
end Go.Proofs.Ytoippchkhknhpaa
