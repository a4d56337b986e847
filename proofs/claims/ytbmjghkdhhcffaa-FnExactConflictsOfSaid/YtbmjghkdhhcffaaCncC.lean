/- Contracts: slices.Grow of no slice, slices.Concat of decks. -/
import Derived.Test.YtbmjghkdhhcffaaSAp
import Derived.Lib.AppendZerosOnto
import Derived.Lib.SliceRun
namespace Go.Proofs.Ytbmjghkdhhcffaa
open Go.ChangeShapes Go.WideShapes Go.ChangeAt Go.RowKit

theorem ownCards_nil (B : Nat) (w : World) : OwnCards B [] (.slice none 0 0) w := World.ownsRow_nil w B _ 3
theorem ownCards_lt {B : Nat} {zs : List Cd} {v : Value} {w : World} (h : OwnCards B zs v w) : ∀ j, v.ownBlock = some j → B ≤ j := fun j hj => (World.ownsRow.lt h j hj).1
/-- Cards of the call's own are handed back. -/
def CdR (zs : List Cd) (w : World) (e : Ending) (w' : World) : Prop := ∃ v, e = .returned v ∧ OwnCards w.heap.size zs v w' ∧ Below w.heap.size w w'
def csAt (ls : List (List Cd)) (i : Nat) : List Cd := ls.getD i []

set_option maxRecDepth 100000 in
set_option maxHeartbeats 1600000 in
theorem growC_any (n : Nat) (hn : n ≤ 100000) (w : World) : Calls Try.prog 132 #[.slice none 0 0, .int .i64 (n : Int)] w (CdR [] w) := by
  obtain ⟨i0, hi, hz0, hz1, hz2⟩ := info_parts info_card
  have d0 : decide ((n : Int) < 0) = false := decide_eq_false (by omega)
  by_cases h0 : n = 0
  · subst h0
    go_enter Try.func132, Try.ntmps132
    go_wp2
    go_ret
    exact ⟨_, rfl, ownCards_nil _ _, Below.refl _ _⟩
  · have d1 : decide ((0 : Int) < (n : Int)) = true := decide_eq_true (by omega)
    have x1 : IntKind.i64.wrap (n : Int) = (n : Int) := IntWalk.i64_in _ (by omega)
    have hG := grownCap_ge w n 0 69
    have hM := grownCap_le_maxLen w n 0 69 (by unfold maxLen; omega)
    have hold : (Builtin.firstCells i0.size 0 (.slice none 0 0)).run Try.prog w.drew = .ok ([] : List Value).toArray w.drew := run_firstCells_none w.drew i0.size 0 0 0
    have hrz : ∀ ty, (Builtin.append_ #[27, 3] ty #[.slice none 0 0, .int .i64 (n : Int)]).run Try.prog w = _ := fun ty => Lib.run_append_grow_zeros w 27 3 ty 69 i0 (.agg #[.string ByteArray.empty, .int .u64 0, .int .u64 0]) .i64 .i64 Try.underlying27 Try.underlying3 hi hz0 none 0 0 [] hold n (by omega) (by omega) (by omega) (by omega) (by rw [hz2]; omega) (growslice_fits (by omega) (by rw [hz2]; omega))
    simp only [Nat.zero_add] at hrz
    generalize grownCap w n 0 69 = G at *
    have R : Hid (OwnCards w.heap.size [] (.slice (some ⟨w.heap.size, 0, none⟩) 0 G) (w.drew.alloc (.cells (([] : List Value).toArray ++ Builtin.zeroCells (Value.agg #[.string ByteArray.empty, .int .u64 0, .int .u64 0]).cells n ++ Builtin.zeroCells (Value.agg #[.string ByteArray.empty, .int .u64 0, .int .u64 0]).cells (G - n)) 69))) := Lib.hid ⟨rfl, .inr ⟨w.heap.size, G, _, rfl, Nat.le_refl _, block_alloc w.drew _, Nat.zero_le _, hM, by simp only [Array.size_append, List.size_toArray, size_zeroCells, List.length_nil]; show 0 + n * 3 + (G - n) * 3 = G * 3; omega, by simp [flatC]⟩⟩
    have BR : Hid (Below w.heap.size w (w.drew.alloc (.cells (([] : List Value).toArray ++ Builtin.zeroCells (Value.agg #[.string ByteArray.empty, .int .u64 0, .int .u64 0]).cells n ++ Builtin.zeroCells (Value.agg #[.string ByteArray.empty, .int .u64 0, .int .u64 0]).cells (G - n)) 69))) := Lib.hid ((show Below w.heap.size w w.drew from ⟨rfl, rfl, rfl, Nat.le_refl _, fun _ _ => rfl⟩).trans (show Below w.heap.size w.drew _ from below_new (Below.refl w.drew.heap.size w.drew) _))
    generalize w.drew.alloc (.cells (([] : List Value).toArray ++ Builtin.zeroCells (Value.agg #[.string ByteArray.empty, .int .u64 0, .int .u64 0]).cells n ++ Builtin.zeroCells (Value.agg #[.string ByteArray.empty, .int .u64 0, .int .u64 0]).cells (G - n)) 69) = W at *
    clear hold hz0 hz1 hz2 hi
    go_enter Try.func132, Try.ntmps132
    go_wp2_with (at_builtin; go_loud (refine Lib.wpList_append_run _ rfl _ _ _ _ rfl _ _ rfl rfl _ _ (hrz _) ?_))
    go_ret
    exact ⟨_, rfl, R.out, BR.out⟩

/-! ### Concat -/
/-- Lists that lie in memory, none of them nil. -/
def LotC (w : World) (a : Option Addr) (ls : List (List Cd)) : Prop := ∀ i, i < ls.length → ∃ b off g sc, a = some ⟨b, off, none⟩ ∧ b < w.heap.size ∧
  w.cell? ⟨b, off + i, none⟩ = some (.slice (some ⟨g, 0, none⟩) (csAt ls i).length sc) ∧ CellsC w (some ⟨g, 0, none⟩) (csAt ls i)
theorem lotC_below {w w' : World} {a : Option Addr} {ls : List (List Cd)} (h : LotC w a ls) (hb : Below w.heap.size w w') : LotC w' a ls := fun i hi => by
  obtain ⟨b, off, g, sc, ha, hlt, hc, hs⟩ := h i hi
  exact ⟨b, off, g, sc, ha, Nat.lt_of_lt_of_le hlt hb.size, (hb.cell hlt).trans hc, cellsC_below hs hb⟩
/-- How many words the first k lists have. -/
def nCds (ls : List (List Cd)) : Nat → Nat
  | 0 => 0
  | k + 1 => nCds ls k + (csAt ls k).length
/-- All words of the first k lists. -/
def flatK (ls : List (List Cd)) : Nat → List Cd
  | 0 => []
  | k + 1 => flatK ls k ++ csAt ls k
theorem flatK_len (ls : List (List Cd)) : ∀ k, (flatK ls k).length = nCds ls k
  | 0 => rfl
  | k + 1 => by show (flatK ls k ++ csAt ls k).length = nCds ls k + _; rw [List.length_append, flatK_len ls k]
theorem nCds_mono (ls : List (List Cd)) (k : Nat) : ∀ d, nCds ls k ≤ nCds ls (k + d)
  | 0 => Nat.le_refl _
  | d + 1 => Nat.le_trans (nCds_mono ls k d) (by show nCds ls (k + d) ≤ nCds ls (k + d) + _; omega)

set_option maxRecDepth 100000 in
set_option maxHeartbeats 3200000 in
theorem concatC_any (al : Option Addr) (ls : List (List Cd)) (cl : Nat) (w : World) (hL : LotC w al ls) (hn : ls.length ≤ 3) (ht : nCds ls ls.length ≤ 300) :
    Calls Try.prog 88 #[.slice al ls.length cl] w (CdR (flatK ls ls.length) w) := by
  obtain ⟨i0, hi, hz0, hz1, hz2⟩ := info_parts info_card
  have LL := Lib.hid hL
  have NT := Lib.hid (fun k (hk : k ≤ ls.length) => (show nCds ls k ≤ 300 by
    have := nCds_mono ls k (ls.length - k)
    rw [show k + (ls.length - k) = ls.length by omega] at this
    omega))
  have GR := Lib.hid (growC_any (nCds ls ls.length) (by omega) w)
  have FL := Lib.hid (flatK_len ls)
  clear hL ht
  go_enter Try.func88, Try.ntmps88
  go_wp2
  go_loop [3, 11] (fun q i => ∃ k : Nat, k ≤ ls.length ∧ i = .int .i64 (k : Int) ∧ q = .int .i64 (nCds ls k : Int)) (fun _ i => ls.length - (intOf i).toNat)
  case atStart => exact ⟨0, Nat.zero_le _, rfl, rfl⟩
  case round =>
    obtain ⟨k, hk, rfl, rfl⟩ := hrel
    by_cases hlt : k < ls.length
    · obtain ⟨b, off, g, sc, rfl, hb, hc, _⟩ := LL.out k hlt
      have d2 : decide ((k : Int) < (ls.length : Int)) = true := by simpa using hlt
      have i1 : (0 : Int) ≤ (k : Int) := by omega
      have i2 : (k : Int) < (ls.length : Int) := by omega
      have e : nCds ls (k + 1) = nCds ls k + (csAt ls k).length := rfl
      have nb := NT.out (k + 1) hlt
      have x1 : IntKind.i64.wrap ((nCds ls k : Int) + ((csAt ls k).length : Int)) = (nCds ls k : Int) + ((csAt ls k).length : Int) := IntWalk.i64_in _ (by omega)
      have d3 : decide ((nCds ls k : Int) + ((csAt ls k).length : Int) < 0) = false := decide_eq_false (by omega)
      have NX := Lib.hid (show ((nCds ls k : Int) + ((csAt ls k).length : Int)) = ((nCds ls (k + 1) : Nat) : Int) by rw [e]; simp)
      clear e nb
      generalize (csAt ls k).length = m at *
      go_wp2
      go_round
      case rel => exact ⟨k + 1, by omega, by go_num, by rw [← NX.out]⟩
      case measure => simp [intOf]; omega
    · obtain rfl : k = ls.length := by omega
      have d2 : decide ((ls.length : Int) < (ls.length : Int)) = false := by simp
      go_wp2_with (go_at_call 132; refine GR.out.mono ?_; rintro e w1 ⟨v, rfl, hO, hB⟩; have O1 := Lib.hid hO; have B1 := Lib.hid hB; clear hO hB)
      go_loopw [6, 27] (fun v i wr => ∃ j : Nat, j ≤ ls.length ∧ i = .int .i64 j ∧ OwnCards w.heap.size (flatK ls j) v wr ∧ Below w.heap.size w wr) (fun _ i _ => ls.length - (intOf i).toNat)
      case atStart => exact ⟨0, Nat.zero_le _, rfl, O1.out, B1.out⟩
      case round =>
        obtain ⟨j, hj, rfl, O, hB⟩ := hrel
        have BB := Lib.hid hB
        have OO := Lib.hid O
        clear O
        by_cases hjl : j < ls.length
        · have hd : decide ((j : Int) < (ls.length : Int)) = true := by simpa using hjl
          obtain ⟨b1, o1, g, sc, rfl, hb1, p0, p1⟩ := LL.out j hjl
          have d0 := (hB.cell (p := ⟨b1, o1 + j, none⟩) hb1).trans p0
          have i3 : (0 : Int) ≤ (j : Int) := by omega
          have i4 : (j : Int) < (ls.length : Int) := by omega
          have s1 := hB.size
          have cells := cellsC_flat (cellsC_below p1 hB)
          have CE := Lib.hid cells
          have e : nCds ls (j + 1) = nCds ls j + (csAt ls j).length := rfl
          have nb := NT.out (j + 1) hjl
          have fl := FL.out j
          have nx : Hid (flatK ls (j + 1) = flatK ls j ++ csAt ls j) := Lib.hid rfl
          have bd : (flatK ls j).length + (csAt ls j).length ≤ 300 := by omega
          clear hB p0 p1 cells e nb fl
          generalize flatK ls j = xs at *
          generalize csAt ls j = x at *
          go_wp2_with (at_builtin; refine wpList_append_own _ rfl _ _ 27 rfl w.heap.size 69 i0 (.agg #[.string ByteArray.empty, .int .u64 0, .int .u64 0]) 3 32 Try.underlying27 hi hz0 hz1 hz2 rfl (by decide) _ _ _ rfl OO.out ⟨g, 0, none⟩ x.length sc (flatC x) rfl (flatC_len x) CE.out (flatC_oneA x) (by unfold maxLen; omega) (by omega) s1 ?_; intro v' w4 hown hgrow _; have P := Lib.hid (own_joinA hown); have G := Lib.hid hgrow; clear hown hgrow)
          exact ⟨⟨j + 1, hjl, by rw [Int.natCast_succ], by rw [nx.out]; exact P.out, Below.grown BB.out G.out s1 (fun k hk => ownCards_lt OO.out k hk)⟩, by (simp [intOf]) <;> omega⟩
        · have e : j = ls.length := by omega
          subst e
          have hd : decide ((ls.length : Int) < (ls.length : Int)) = false := by simp
          clear hB
          go_wp2
          go_ret
          exact ⟨_, rfl, OO.out, BB.out⟩
end Go.Proofs.Ytbmjghkdhhcffaa
