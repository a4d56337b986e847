/- Slices of slices of texts: opened, measured, copied, compared; are they a lot of lists of words. -/
import Derived.Test.YtoippchkhknhpaaStrL
import Derived.Test.YtoippchkhknhpaaWords
import Derived.Test.YtoippchkhknhpaaQuiet
import Derived.Deep.Slices
import Derived.Deep.RegionHeld
namespace Go.Proofs.Ytoippchkhknhpaa
open Go.ChangeShapes Go.WideShapes Go.ChangeAt Go.RowKit

def lsAt (ls : List (List ByteArray)) (i : Nat) : List ByteArray := ls.getD i []
theorem lsAt_map (f : Nat → List ByteArray) (n i : Nat) (h : i < n) : lsAt ((List.range n).map f) i = f i := by
  unfold lsAt; simp [List.getD, h]
/-- The lists of a slice lie in memory. -/
def LotIn (w : World) (a : Option Addr) (ls : List (List ByteArray)) : Prop := ∀ i, i < ls.length → ∃ b off sa sc, a = some ⟨b, off, none⟩ ∧ b < w.heap.size ∧
  w.cell? ⟨b, off + i, none⟩ = some (.slice sa (lsAt ls i).length sc) ∧ StrsIn w sa (lsAt ls i) ∧ Fit (lsAt ls i) ∧ (lsAt ls i).length ≤ maxLen
theorem lotIn_below {w w' : World} {a : Option Addr} {ls : List (List ByteArray)} (h : LotIn w a ls) (hb : Below w.heap.size w w') : LotIn w' a ls := fun i hi => by
  obtain ⟨b, off, sa, sc, ha, hlt, hc, hs, hf⟩ := h i hi
  exact ⟨b, off, sa, sc, ha, Nat.lt_of_lt_of_le hlt hb.size, (hb.cell hlt).trans hc, strsIn_below hs hb, hf⟩
theorem strsIn_set {w : World} {a : Option Addr} {zs : List ByteArray} {G j : Nat} {v : Value} (h : StrsIn w a zs) (hne : ∀ b off, a = some ⟨b, off, none⟩ → G ≠ b) : StrsIn (w.setCell ⟨G, j, none⟩ v) a zs := fun i hi => by
  obtain ⟨b, off, ha, hlt, hc⟩ := h i hi
  exact ⟨b, off, ha, by rw [World.size_setCell]; exact hlt, (World.cell?_setCell_far w ⟨G, j, none⟩ ⟨b, off + i, none⟩ v (hne b off ha)).trans hc⟩

theorem open_lot {H : Type} {enc : TypeId × Value → H} {P : Program} {W : World} {t e u : TypeId} {v : Value} {d : DataW H} {p : List MemPlace} {r : Reach} {b : Nat} (ht : P.underlying t = some (.slice e)) (he : P.underlying e = some (.slice u)) (hu : P.underlying u = some .string) (ce : P.cellsOf e = 1) (cu : P.cellsOf u = 1)
    (hv : Value.okWide P W r b t v) (h : DataW.Trod enc P W 0 (fun _ => true) true t v d p) : ∃ a ls cap, v = .slice a ls.length cap ∧ LotIn W a ls ∧ ls.length ≤ maxLen := by
  obtain ⟨a0, len, cap, rfl⟩ := okWide_slice ht hv
  obtain ⟨fuel, hf⟩ := h
  rcases Go.Deep.open_slice1 ht ce hf with ⟨hcs, _⟩ | ⟨a, len', cap', m, n, V, D, Pl, hcs, _, hl, hcm, hm, _, hi⟩
  · simp [Value.cells] at hcs
    obtain ⟨rfl, rfl, rfl⟩ := hcs
    exact ⟨none, [], 0, rfl, fun i hi => by simp at hi, by simp⟩
  · simp [Value.cells] at hcs
    obtain ⟨rfl, rfl, rfl⟩ := hcs
    simp at hm
    subst hm
    have key : ∀ i, i < len → ∃ zs : List ByteArray, ∃ sa sc, W.cell? (a.add i) = some (.slice sa zs.length sc) ∧ StrsIn W sa zs ∧ Fit zs ∧ zs.length ≤ maxLen := by
      intro i hi'
      obtain ⟨hc, hd⟩ := hi i (by omega)
      rcases open_strings he hu cu hd with ⟨hcs, _⟩ | ⟨sa, l, c, ss, hcs, _, hl2, hm2, hz2, _, hcell, hsz⟩
      · simp at hcs
        rw [hcs] at hc
        exact ⟨[], none, 0, hc, fun i hi => by simp at hi, fun i hi => by simp at hi, by simp⟩
      · simp at hcs hz2
        rw [hcs] at hc
        have hd2 : ∀ j, j < l → (ss.take l).getD j ⟨#[]⟩ = ss.getD j ⟨#[]⟩ := fun j hj => by simp [List.getD, hj]
        refine ⟨ss.take l, some sa, c, by rw [hc, List.length_take, Nat.min_eq_left (by omega)], fun j hj => ?_, fun j hj => ?_, by rw [List.length_take]; omega⟩
        · rw [List.length_take] at hj
          obtain ⟨b, off, rfl, hcc⟩ := strs_at hcell (by omega)
          have h2 := hcc j (by omega)
          refine ⟨b, off, rfl, World.block_lt_of_cell? _ _ h2, ?_⟩
          rw [h2, hd2 j (by omega)]
          rfl
        · rw [List.length_take] at hj
          have hj2 : j < ss.length := by omega
          rw [hd2 j (by omega), show ss.getD j ⟨#[]⟩ = ss[j] by simp [List.getD, hj2]]
          exact hsz _ (List.getElem_mem hj2)
    obtain ⟨f, hf2⟩ := Go.Deep.choose_lt key
    refine ⟨some a, (List.range len).map f, m, by simp, fun i hi' => ?_, by simp; omega⟩
    simp at hi'
    rw [lsAt_map f len i hi']
    obtain ⟨sa, sc, q0, q1, q2, q3⟩ := hf2 i hi'
    obtain ⟨b, off, spot⟩ := a
    have hspot : spot = none := by
      obtain ⟨sa0, sc0, z0, _⟩ := hf2 0 (by omega)
      simpa [Addr.add] using World.cell?_spot z0
    subst hspot
    exact ⟨b, off, sa, sc, rfl, by have h := World.block_lt_of_cell? _ _ q0; rw [Go.WideShapes.add_plain] at h; exact h, by rw [← Go.WideShapes.add_plain]; exact q0, q1, q2, q3⟩

/-! ### Measured -/
def LotSmall (ls : List (List ByteArray)) : Prop := ls.length ≤ 1048576 ∧ ∀ i, i < ls.length → (lsAt ls i).length ≤ 1048576
def SzLot (ls : List (List ByteArray)) (w : World) (e : Ending) (w' : World) : Prop := ∃ z : Int, e = .returned (.int .i64 z) ∧ -1 ≤ z ∧ z ≤ 1048576 ∧ (0 ≤ z → LotSmall ls) ∧ w = w'
def LoTo (ls : List (List ByteArray)) (n : Nat) : Prop := ∀ i, i < n → (lsAt ls i).length ≤ 1048576
theorem loTo_next {ls : List (List ByteArray)} {n : Nat} (h : LoTo ls n) (k : (lsAt ls n).length ≤ 1048576) : LoTo ls (n + 1) := fun i hi => by
  by_cases e : i = n
  · subst e; exact k
  · exact h i (by omega)

set_option maxHeartbeats 1600000 in
theorem szLot_any (ad : Option Addr) (ls : List (List ByteArray)) (c : Nat) (l : Nat) (w : World) (hc : LotIn w ad ls) (l1 : l ≤ 1048576) (hn : ls.length ≤ 9223372036854775807) :
    Calls Try.prog 13 #[.slice ad ls.length c, .int .i64 (l : Int)] w (SzLot ls w) := by
  have C := Lib.hid hc
  clear hc
  have d1 : IntKind.i64.wrap ((l : Int) - (ls.length : Int)) = (l : Int) - (ls.length : Int) := IntWalk.i64_in _ (by omega)
  have HN := Lib.hid hn
  clear hn
  by_cases h : (l : Int) - (ls.length : Int) < 0
  · have d2 : decide ((l : Int) - (ls.length : Int) < 0) = true := by simp; omega
    go_enter Try.func13, Try.ntmps13
    go_wp2
    go_ret
    exact ⟨-1, rfl, by omega, by omega, by omega, rfl⟩
  · have d2 : decide ((l : Int) - (ls.length : Int) < 0) = false := by simp; omega
    have hk : ls.length ≤ 1048576 := by omega
    go_enter Try.func13, Try.ntmps13
    go_wp2
    go_loop [1, 5] (fun q i => ∃ (j m : Nat), j ≤ ls.length ∧ i = .int .i64 j ∧ q = .int .i64 (m : Int) ∧ m ≤ 1048576 ∧ LoTo ls j) (fun _ i => ls.length - (intOf i).toNat)
    case atStart => exact ⟨0, l - ls.length, Nat.zero_le _, rfl, by congr 1; omega, by omega, fun i hi => absurd hi (Nat.not_lt_zero _)⟩
    case round =>
      obtain ⟨j, m, hj, rfl, rfl, m1, hs⟩ := hrel
      have SS := Lib.hid hs
      clear d1 d2 hs
      by_cases hjl : j < ls.length
      · have hd : decide ((j : Int) < (ls.length : Int)) = true := by simpa using hjl
        obtain ⟨b1, o1, sa, sc, rfl, hb1, q0, q1, q2, q3⟩ := C.out j hjl
        have i1 : (0 : Int) ≤ (j : Int) := by omega
        have i2 : (j : Int) < (ls.length : Int) := by omega
        have nx : Hid ((lsAt ls j).length ≤ 1048576 → LoTo ls (j + 1)) := Lib.hid fun h => loTo_next SS.out h
        have fl : totS (lsAt ls j) (lsAt ls j).length ≤ m → (lsAt ls j).length ≤ 1048576 := fun h => by have := totS_len (lsAt ls j) (lsAt ls j).length; omega
        have K := Lib.hid fun W hs => szStrs_any sa (lsAt ls j) sc m W hs q2 (by unfold maxLen at q3; omega) m1
        clear q2 q3
        generalize lsAt ls j = x at *
        have Q := Lib.hid q1
        clear q1
        by_cases hz : totS x x.length ≤ m
        · have S3 := Lib.hid (nx.out (fl hz))
          have hm : leftS x m = ((m - totS x x.length : Nat) : Int) := by rw [leftS_yes hz]; omega
          rw [hm] at K
          have y1 : m - totS x x.length ≤ 1048576 := by omega
          clear hm hz nx fl
          generalize m - totS x x.length = m2 at *
          have d3 : decide ((m2 : Int) < 0) = false := decide_eq_false (by omega)
          go_wp2_with (go_at_call 23; refine (K.out _ Q.out).mono ?_; rintro e w2 ⟨rfl, rfl⟩)
          exact ⟨⟨j + 1, m2, hjl, by rw [Int.natCast_succ], rfl, y1, S3.out⟩, by (simp [intOf]) <;> omega⟩
        · have hm : leftS x m = -1 := leftS_no (Nat.le_refl _) (by omega)
          rw [hm] at K
          clear hm hz nx fl
          go_wp2_with (go_at_call 23; refine (K.out _ Q.out).mono ?_; rintro e w2 ⟨rfl, rfl⟩)
          go_ret
          exact ⟨-1, rfl, by omega, by omega, by omega, rfl⟩
      · have e : j = ls.length := by omega
        subst e
        have hd : decide ((ls.length : Int) < (ls.length : Int)) = false := by simp
        go_wp2
        go_ret
        exact ⟨m, rfl, by omega, by omega, fun _ => ⟨hk, SS.out⟩, rfl⟩

/-! ### Compared -/
set_option maxHeartbeats 1600000 in
theorem eqLot_same (ad bd : Option Addr) (ls : List (List ByteArray)) (c d : Nat) (w : World) (ha : LotIn w ad ls) (hb : LotIn w bd ls) (hn : ls.length ≤ 1048576) :
    Calls Try.prog 19 #[.slice ad ls.length c, .slice bd ls.length d] w fun e w' => e = .returned (.bool true) ∧ Below w.heap.size w w' := by
  have A := Lib.hid ha
  have B := Lib.hid hb
  have hbw := cell_bw
  clear ha hb
  go_enter Try.func19, Try.ntmps19
  go_wp2
  go_loopw [5] (fun i wr => ∃ j : Nat, j ≤ ls.length ∧ i = .int .i64 j ∧ Below w.heap.size w wr) (fun i _ => ls.length - (intOf i).toNat)
  case atStart => exact ⟨0, Nat.zero_le _, rfl, Below.refl _ _⟩
  case round =>
    obtain ⟨j, hj, rfl, hB⟩ := hrel
    have BB := Lib.hid hB
    by_cases hjl : j < ls.length
    · have hd : decide ((j : Int) < (ls.length : Int)) = true := by simpa using hjl
      obtain ⟨b1, o1, sa, sc, rfl, hb1, p0, p1, _, p3⟩ := A.out j hjl
      obtain ⟨b2, o2, ta, tc, rfl, hb2, q0, q1, _, _⟩ := B.out j hjl
      have d0 := (hB.cell (p := ⟨b1, o1 + j, none⟩) hb1).trans p0
      have e0 := (hB.cell (p := ⟨b2, o2 + j, none⟩) hb2).trans q0
      have y1 : b1 < wr.heap.size := Nat.lt_of_lt_of_le hb1 hB.size
      have y2 : b2 < wr.heap.size := Nat.lt_of_lt_of_le hb2 hB.size
      have i1 : (0 : Int) ≤ (j : Int) := by omega
      have i2 : (j : Int) < (ls.length : Int) := by omega
      have P1 := strsIn_below p1 hB
      have Q1 := strsIn_below q1 hB
      unfold maxLen at p3
      have K := Lib.hid fun W (h : Below wr.heap.size wr W) => eqStrs_same sa ta (lsAt ls j) sc tc W (strsIn_below P1 h) (strsIn_below Q1 h) (by omega)
      clear p1 q1 P1 Q1 p3
      generalize lsAt ls j = x at *
      clear hB p0 q0
      go_wp2_with fail
      refine region_bw (by kernel_rfl) (by kernel_rfl) ?_
      repeat (go_big_quiet_step (first | (go_at_call 28; exact calls_bw (K.out _ (below_bw _ _)))))
      refine wpQuiet_nil ?_; intro wq hq; replace hq := below_of_bw hq; obtain ⟨qc, qf, qz⟩ := bcell hq
      go_wp2_with fail
      exact ⟨⟨j + 1, hjl, by rw [Int.natCast_succ], BB.out.trans (hq.mono BB.out.size)⟩, by (simp [intOf]) <;> omega⟩
    · have e : j = ls.length := by omega
      subst e
      have hd : decide ((ls.length : Int) < (ls.length : Int)) = false := by simp
      clear hB
      go_wp2
      go_ret
      exact ⟨rfl, BB.out⟩

/-! ### Copied -/
def RowL (w : World) (G : Nat) (ls : List (List ByteArray)) (k : Nat) (xs : List Value) : Prop := xs.length = ls.length ∧ ∀ i, i < ls.length →
  (i < k → ∃ g, xs[i]? = some (.slice (some ⟨g, 0, none⟩) (lsAt ls i).length (lsAt ls i).length) ∧ G < g ∧ StrsIn w (some ⟨g, 0, none⟩) (lsAt ls i)) ∧ (¬ i < k → xs[i]? = some (.slice none 0 0))
theorem rowL_below {w w' : World} {G : Nat} {ls : List (List ByteArray)} {k : Nat} {xs : List Value} (h : RowL w G ls k xs) (hb : Below w.heap.size w w') : RowL w' G ls k xs := by
  refine ⟨h.1, fun i hi => ⟨fun hk => ?_, (h.2 i hi).2⟩⟩
  obtain ⟨g, h1, h2, h3⟩ := (h.2 i hi).1 hk
  exact ⟨g, h1, h2, strsIn_below h3 hb⟩
theorem rowL_next {w : World} {G g : Nat} {ls : List (List ByteArray)} {k : Nat} {xs : List Value} (h : RowL w G ls k xs) (hk : k < ls.length) (hg : G < g) (hs : StrsIn w (some ⟨g, 0, none⟩) (lsAt ls k)) :
    RowL (w.setCell ⟨G, k, none⟩ (.slice (some ⟨g, 0, none⟩) (lsAt ls k).length (lsAt ls k).length)) G ls (k + 1) (xs.set k (.slice (some ⟨g, 0, none⟩) (lsAt ls k).length (lsAt ls k).length)) := by
  refine ⟨by rw [List.length_set]; exact h.1, fun i hi => ⟨fun hik => ?_, fun hik => ?_⟩⟩
  · rw [List.getElem?_set]
    by_cases e : k = i
    · subst e
      rw [if_pos rfl, if_pos (by rw [h.1]; exact hk)]
      exact ⟨g, rfl, hg, strsIn_set hs fun b off hb => by injection hb with hb; injection hb with hb; omega⟩
    · rw [if_neg e]
      obtain ⟨g', h1, h2, h3⟩ := (h.2 i hi).1 (by omega)
      exact ⟨g', h1, h2, strsIn_set h3 fun b off hb => by injection hb with hb; injection hb with hb; omega⟩
  · rw [List.getElem?_set, if_neg (by omega)]
    exact (h.2 i hi).2 (by omega)

theorem info_strs : (Try.prog.info? 37).map (fun i => (i.zero, i.size, i.bytes)) = some (some (.slice none 0 0), 1, 24) := by kernel_rfl

def NewL (ls : List (List ByteArray)) (w : World) (e : Ending) (w' : World) : Prop := ∃ a, e = .returned (.slice a ls.length ls.length) ∧ LotIn w' a ls ∧ Below w.heap.size w w'
theorem ownsRow_belowL {w w' : World} {B e size n : Nat} {v : Value} {xs : List Value} (h : w.ownsRow B e size v n xs) (hb : Below w.heap.size w w') : w'.ownsRow B e size v n xs := by
  obtain ⟨h1, h2⟩ := h
  refine ⟨h1, ?_⟩
  rcases h2 with hn | ⟨g, cap, cur, rfl, hB, hg, rest⟩
  · exact .inl hn
  · exact .inr ⟨g, cap, cur, rfl, hB, (hb.block g (Array.getElem?_eq_some_iff.1 hg).1).trans hg, rest⟩

set_option maxHeartbeats 1600000 in
theorem toLot_any (ad : Option Addr) (ls : List (List ByteArray)) (c : Nat) (w : World) (hc : LotIn w ad ls) (hn : LotSmall ls) :
    Calls Try.prog 16 #[.slice ad ls.length c] w (NewL ls w) := by
  obtain ⟨i0, hi, hz0, hz1, hz2⟩ := info_parts info_strs
  have C := Lib.hid hc
  have SM := Lib.hid hn.2
  have n1 := hn.1
  clear hc hn
  go_enter Try.func16, Try.ntmps16
  go_wp2_with (at_make; refine wpList_make_full _ rfl _ _ 25 rfl w.heap.size 37 i0 (.slice none 0 0) 1 Try.underlying25 hi hz0 hz1 _ _ _ _ ls.length rfl rfl rfl rfl (by rw [hz2]; omega) (by unfold maxLen; omega) (Nat.le_refl _) ?_; intro w1 hown hgrow; have M := Lib.hid hown; have G := Lib.hid hgrow; clear hown hgrow)
  have O : w1.ownsRow w.heap.size 37 1 (.slice (some ⟨w.heap.size, 0, none⟩) ls.length ls.length) ls.length (List.replicate ls.length (.slice none 0 0)) := by have := M.out; rwa [show (Value.slice none 0 0).cells = #[.slice none 0 0] from rfl, Nat.mul_one, ← Nat.mul_one ls.length, toList_madeCells_one, Nat.mul_one] at this
  have R0 : RowL w1 w.heap.size ls 0 (List.replicate ls.length (.slice none 0 0)) := ⟨by simp, fun i hi => ⟨fun h => absurd h (Nat.not_lt_zero _), fun _ => by rw [List.getElem?_replicate, if_pos hi]⟩⟩
  have B1 := Lib.hid (Below.grown (Below.refl w.heap.size w) G.out (Nat.le_refl _) (fun j hj => by cases hj))
  have OO := Lib.hid O
  have RR := Lib.hid R0
  clear M G O R0 hi hz0 hz1 hz2
  go_loopw [4] (fun i wr => ∃ (k : Nat) (xs : List Value), k ≤ ls.length ∧ i = .int .i64 k ∧ wr.ownsRow w.heap.size 37 1 (.slice (some ⟨w.heap.size, 0, none⟩) ls.length ls.length) ls.length xs ∧ RowL wr w.heap.size ls k xs ∧ Below w.heap.size w wr) (fun i _ => ls.length - (intOf i).toNat)
  case atStart => exact ⟨0, _, Nat.zero_le _, rfl, OO.out, RR.out, B1.out⟩
  case round =>
    obtain ⟨k, xs, hk, rfl, O2, hR, hB⟩ := hrel
    have O3 := Lib.hid O2
    have R3 := Lib.hid hR
    have BB := Lib.hid hB
    have gl := (O2.lt w.heap.size rfl).2
    by_cases hkl : k < ls.length
    · have hd : decide ((k : Int) < (ls.length : Int)) = true := by simpa using hkl
      obtain ⟨b1, o1, sa, sc, rfl, hb1, p0, p1, _, _⟩ := C.out k hkl
      have d0 := (hB.cell (p := ⟨b1, o1 + k, none⟩) hb1).trans p0
      have P1 := strsIn_below p1 hB
      have K := Lib.hid fun W (h : Below wr.heap.size wr W) => toStrs_any sa (lsAt ls k) sc W (strsIn_below P1 h) (SM.out k hkl)
      have i1 : (0 : Int) ≤ (k : Int) := by omega
      have i2 : (k : Int) < (ls.length : Int) := by omega
      have r0 := O2.cellAt k (by omega)
      rw [(hR.2 k hkl).2 (Nat.lt_irrefl k)] at r0
      have R0 := Lib.hid r0
      have FZ := Lib.hid (O2.frozenAt k)
      have nx := Lib.hid fun W g h1 h2 h3 => rowL_next (w := W) (G := w.heap.size) (g := g) (ls := ls) (k := k) (xs := xs) h1 hkl h2 h3
      have yr : b1 < wr.heap.size := Nat.lt_of_lt_of_le hb1 hB.size
      generalize lsAt ls k = x at *
      clear hB p0 p1 P1 O2 hR r0
      go_wp2_with (go_at_call 25; refine (K.out _ (by first | exact Below.refl _ _ | ((repeat' (first | (with_reducible exact Below.refl _ _) | (with_reducible assumption) | (with_reducible refine below_drewN ?_ _) | (with_reducible refine Below.drew ?_) | (with_reducible refine below_new ?_ _) | (with_reducible refine below_next ?_ (by with_reducible assumption)) | (with_reducible refine Below.setCell ?_ ?_ _) | go_size)); done))).mono ?_; rintro e w2 ⟨v, rfl, ⟨g, rfl, g1, g2, g3⟩, hB2⟩; have t0 := (hB2.cell (p := ⟨w.heap.size, k, none⟩) gl).trans R0.out; have u0 := (hB2.frozen (p := ⟨w.heap.size, k, none⟩) gl).trans FZ.out; have O4 := Lib.hid (ownsRow_belowL O3.out hB2); have R4 := Lib.hid (nx.out w2 g (rowL_below R3.out hB2) (by omega) (fun i hi => ⟨g, 0, rfl, g2, by rw [Nat.zero_add]; exact (g3 i hi).1⟩)); have B2 := Lib.hid (below_next BB.out hB2); clear hB2 g3)
      have s0 := O4.out.stored k (.slice (some ⟨g, 0, none⟩) x.length x.length)
      exact ⟨⟨k + 1, _, hkl, by rw [Int.natCast_succ], s0.1, R4.out, B2.out.setCell (Nat.le_refl _) _⟩, by (simp [intOf]) <;> omega⟩
    · have e : k = ls.length := by omega
      subst e
      have hd : decide ((ls.length : Int) < (ls.length : Int)) = false := by simp
      clear O2 hR hB
      go_wp2
      go_ret
      refine ⟨_, rfl, fun i hi => ?_, BB.out⟩
      obtain ⟨g, h1, h2, h3⟩ := (R3.out.2 i hi).1 hi
      obtain ⟨_, _, _, _, _, _, _, _, hf, hm⟩ := C.out i hi
      exact ⟨w.heap.size, 0, _, _, rfl, gl, by rw [Nat.zero_add, O3.out.cellAt i (by omega)]; exact h1, h3, hf, hm⟩
end Go.Proofs.Ytoippchkhknhpaa
