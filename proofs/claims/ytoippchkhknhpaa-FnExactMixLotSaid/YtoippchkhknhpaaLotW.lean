/- Lots of the laws' own: measured with their words' number, copied into lists that may be written, marked. -/
import Derived.Test.YtoippchkhknhpaaLot
import Derived.Test.YtoippchkhknhpaaMkM
import Derived.Test.YtoippchkhknhpaaMarkS
namespace Go.Proofs.Ytoippchkhknhpaa
open Go.ChangeShapes Go.WideShapes Go.ChangeAt Go.RowKit

def totL (ls : List (List ByteArray)) : Nat → Nat
  | 0 => 0
  | k + 1 => totL ls k + (lsAt ls k).length
theorem totL_mono (ls : List (List ByteArray)) (k : Nat) : ∀ d, totL ls k ≤ totL ls (k + d)
  | 0 => Nat.le_refl _
  | d + 1 => Nat.le_trans (totL_mono ls k d) (by show totL ls (k + d) ≤ totL ls (k + d) + _; omega)
def SzLotT (ls : List (List ByteArray)) (w : World) (e : Ending) (w' : World) : Prop := ∃ z : Int, e = .returned (.int .i64 z) ∧ -1 ≤ z ∧ z ≤ 1048576 ∧ (0 ≤ z → LotSmall ls ∧ (totL ls ls.length : Int) + z ≤ 1048576) ∧ w = w'

set_option maxHeartbeats 1600000 in
theorem szLotT_any (ad : Option Addr) (ls : List (List ByteArray)) (c : Nat) (l : Nat) (w : World) (hc : LotIn w ad ls) (l1 : l ≤ 1048576) (hn : ls.length ≤ 9223372036854775807) :
    Calls Try.prog 13 #[.slice ad ls.length c, .int .i64 (l : Int)] w (SzLotT ls w) := by
  have C := Lib.hid hc
  clear hc
  have d1 : IntKind.i64.wrap ((l : Int) - (ls.length : Int)) = (l : Int) - (ls.length : Int) := IntWalk.i64_in _ (by omega)
  have HN := Lib.hid hn
  clear hn
  by_cases h : (l : Int) - (ls.length : Int) < 0
  · have d2 : decide ((l : Int) - (ls.length : Int) < 0) = true := by simp; omega
    go_enter Try.func13, Try.ntmps13
    go_wp2
    go_ret
    exact ⟨-1, rfl, by omega, by omega, fun h => absurd h (by decide), rfl⟩
  · have d2 : decide ((l : Int) - (ls.length : Int) < 0) = false := by simp; omega
    have hk : ls.length ≤ 1048576 := by omega
    go_enter Try.func13, Try.ntmps13
    go_wp2
    go_loop [1, 5] (fun q i => ∃ (j m : Nat), j ≤ ls.length ∧ i = .int .i64 j ∧ q = .int .i64 (m : Int) ∧ m ≤ 1048576 ∧ LoTo ls j ∧ totL ls j + m ≤ 1048576) (fun _ i => ls.length - (intOf i).toNat)
    case atStart => exact ⟨0, l - ls.length, Nat.zero_le _, rfl, by congr 1; omega, by omega, fun i hi => absurd hi (Nat.not_lt_zero _), by show 0 + _ ≤ _; omega⟩
    case round =>
      obtain ⟨j, m, hj, rfl, rfl, m1, hs, ht⟩ := hrel
      have HT := Lib.hid ht
      clear ht
      have SS := Lib.hid hs
      clear d1 d2 hs
      by_cases hjl : j < ls.length
      · have hd : decide ((j : Int) < (ls.length : Int)) = true := by simpa using hjl
        obtain ⟨b1, o1, sa, sc, rfl, hb1, q0, q1, q2, q3⟩ := C.out j hjl
        have i1 : (0 : Int) ≤ (j : Int) := by omega
        have i2 : (j : Int) < (ls.length : Int) := by omega
        have nx : Hid ((lsAt ls j).length ≤ 1048576 → LoTo ls (j + 1)) := Lib.hid fun h => loTo_next SS.out h
        have TL := Lib.hid (show totL ls (j + 1) = totL ls j + (lsAt ls j).length from rfl)
        have TS := Lib.hid (totS_len (lsAt ls j) (lsAt ls j).length)
        have fl : totS (lsAt ls j) (lsAt ls j).length ≤ m → (lsAt ls j).length ≤ 1048576 := fun h => by have := totS_len (lsAt ls j) (lsAt ls j).length; omega
        have K := Lib.hid fun W hs => szStrs_any sa (lsAt ls j) sc m W hs q2 (by unfold maxLen at q3; omega) m1
        clear q2 q3
        generalize lsAt ls j = x at *
        have Q := Lib.hid q1
        clear q1
        by_cases hz : totS x x.length ≤ m
        · have S3 := Lib.hid (nx.out (fl hz))
          have hm : leftS x m = ((m - totS x x.length : Nat) : Int) := by rw [leftS_yes hz]; omega
          rw [hm] at K
          have y1 : m - totS x x.length ≤ 1048576 := by omega
          have Y2 : Hid (totL ls (j + 1) + (m - totS x x.length) ≤ 1048576) := Lib.hid (by have a := TL.out; have b := TS.out; have c := HT.out; omega)
          clear hm hz nx fl TL TS HT
          generalize m - totS x x.length = m2 at *
          have d3 : decide ((m2 : Int) < 0) = false := decide_eq_false (by omega)
          go_wp2_with (go_at_call 23; refine (K.out _ Q.out).mono ?_; rintro e w2 ⟨rfl, rfl⟩)
          exact ⟨⟨j + 1, m2, hjl, by rw [Int.natCast_succ], rfl, y1, S3.out, Y2.out⟩, by (simp [intOf]) <;> omega⟩
        · have hm : leftS x m = -1 := leftS_no (Nat.le_refl _) (by omega)
          rw [hm] at K
          clear hm hz nx fl
          go_wp2_with (go_at_call 23; refine (K.out _ Q.out).mono ?_; rintro e w2 ⟨rfl, rfl⟩)
          go_ret
          exact ⟨-1, rfl, by omega, by omega, fun h => absurd h (by decide), rfl⟩
      · have e : j = ls.length := by omega
        subst e
        have hd : decide ((ls.length : Int) < (ls.length : Int)) = false := by simp
        go_wp2
        go_ret
        exact ⟨m, rfl, by omega, by omega, fun _ => ⟨⟨hk, SS.out⟩, by have c := HT.out; omega⟩, rfl⟩


/-! ### Copied into lists that may be written -/
theorem wb_far {w : World} {G k g n : Nat} {v : Value} (h : Wb w g n) (hne : G ≠ g) : Wb (w.setCell ⟨G, k, none⟩ v) g n :=
  ⟨fun j hj => (h.1 j hj).imp fun _ hv => (World.cell?_setCell_far w ⟨G, k, none⟩ ⟨g, j, none⟩ v hne).trans hv, fun j hj => by rw [World.frozen?_setCell]; exact h.2 j hj⟩
def RowG (w : World) (G : Nat) (ls : List (List ByteArray)) (k : Nat) (xs : List Value) (gs : Nat → Nat) : Prop := xs.length = ls.length ∧ (∀ i j, i < j → j < k → gs i < gs j) ∧ ∀ i, i < ls.length →
  (i < k → xs[i]? = some (.slice (some ⟨gs i, 0, none⟩) (lsAt ls i).length (lsAt ls i).length) ∧ G < gs i ∧ gs i < w.heap.size ∧ Wb w (gs i) (lsAt ls i).length ∧ StrsIn w (some ⟨gs i, 0, none⟩) (lsAt ls i)) ∧ (¬ i < k → xs[i]? = some (.slice none 0 0))
theorem rowG_below {w w' : World} {G : Nat} {ls : List (List ByteArray)} {k : Nat} {xs : List Value} {gs : Nat → Nat} (h : RowG w G ls k xs gs) (hb : Below w.heap.size w w') : RowG w' G ls k xs gs := by
  refine ⟨h.1, h.2.1, fun i hi => ⟨fun hk => ?_, (h.2.2 i hi).2⟩⟩
  obtain ⟨h1, h2, h3, h4, h5⟩ := (h.2.2 i hi).1 hk
  exact ⟨h1, h2, Nat.lt_of_lt_of_le h3 hb.size, h4.below hb h3, strsIn_below h5 hb⟩
theorem rowG_next {w : World} {G g : Nat} {ls : List (List ByteArray)} {k : Nat} {xs : List Value} {gs : Nat → Nat} (h : RowG w G ls k xs gs) (hk : k < ls.length) (hg : G < g) (hi : ∀ i, i < k → gs i < g) (hl : g < w.heap.size) (hw : Wb w g (lsAt ls k).length) (hs : StrsIn w (some ⟨g, 0, none⟩) (lsAt ls k)) :
    RowG (w.setCell ⟨G, k, none⟩ (.slice (some ⟨g, 0, none⟩) (lsAt ls k).length (lsAt ls k).length)) G ls (k + 1) (xs.set k (.slice (some ⟨g, 0, none⟩) (lsAt ls k).length (lsAt ls k).length)) (fun i => if i = k then g else gs i) := by
  refine ⟨by rw [List.length_set]; exact h.1, fun i j hij hj => ?_, fun i hi => ⟨fun hik => ?_, fun hik => ?_⟩⟩
  · show (if i = k then g else gs i) < (if j = k then g else gs j)
    by_cases e : j = k
    · subst e
      rw [if_neg (by omega), if_pos rfl]
      exact hi i hij
    · rw [if_neg (by omega), if_neg e]
      exact h.2.1 i j hij (by omega)
  · rw [List.getElem?_set]
    show _ ∧ G < (if i = k then g else gs i) ∧ (if i = k then g else gs i) < _ ∧ Wb _ (if i = k then g else gs i) _ ∧ StrsIn _ (some ⟨if i = k then g else gs i, 0, none⟩) _
    by_cases e : i = k
    · subst e
      rw [if_pos rfl, if_pos (by rw [h.1]; exact hk)]
      simp only [if_true]
      exact ⟨trivial, hg, by rw [World.size_setCell]; exact hl, wb_far hw (by omega), strsIn_set hs fun b off hb => by injection hb with hb; injection hb with hb; omega⟩
    · rw [if_neg (Ne.symm e)]
      simp only [if_neg e]
      obtain ⟨h1, h2, h3, h4, h5⟩ := (h.2.2 i hi).1 (by omega)
      exact ⟨h1, h2, by rw [World.size_setCell]; exact h3, wb_far h4 (by omega), strsIn_set h5 fun b off hb => by injection hb with hb; injection hb with hb; omega⟩
  · rw [List.getElem?_set, if_neg (by omega)]
    exact (h.2.2 i hi).2 (by omega)
/-- Lists that may be written, each in a block of its own. -/
def LotW (w : World) (G H : Nat) (ls : List (List ByteArray)) (gs : Nat → Nat) : Prop := G < w.heap.size ∧ (∀ i j, i < j → j < ls.length → gs i < gs j) ∧ ∀ i, i < ls.length → w.cell? ⟨G, i, none⟩ = some (.slice (some ⟨gs i, 0, none⟩) (lsAt ls i).length (lsAt ls i).length) ∧ G < gs i ∧ gs i < H ∧ Wb w (gs i) (lsAt ls i).length
theorem lotW_below {w w' : World} {G H : Nat} {ls : List (List ByteArray)} {gs : Nat → Nat} (h : LotW w G H ls gs) (hH : H ≤ w.heap.size) (hb : Below w.heap.size w w') : LotW w' G H ls gs := by
  refine ⟨Nat.lt_of_lt_of_le h.1 hb.size, h.2.1, fun i hi => ?_⟩
  obtain ⟨h1, h2, h3, h4⟩ := h.2.2 i hi
  exact ⟨(hb.cell (p := ⟨G, i, none⟩) h.1).trans h1, h2, h3, h4.below hb (Nat.lt_of_lt_of_le h3 hH)⟩
def NewLW (ls : List (List ByteArray)) (w : World) (e : Ending) (w' : World) : Prop := ∃ gs, e = .returned (.slice (some ⟨w.heap.size, 0, none⟩) ls.length ls.length) ∧ LotW w' w.heap.size w'.heap.size ls gs ∧ LotIn w' (some ⟨w.heap.size, 0, none⟩) ls ∧ Below w.heap.size w w'

set_option maxHeartbeats 1600000 in
theorem toLotW_any (ad : Option Addr) (ls : List (List ByteArray)) (c : Nat) (w : World) (hc : LotIn w ad ls) (hn : LotSmall ls) :
    Calls Try.prog 16 #[.slice ad ls.length c] w (NewLW ls w) := by
  obtain ⟨i0, hi, hz0, hz1, hz2⟩ := info_parts info_strs
  have C := Lib.hid hc
  have SM := Lib.hid hn.2
  have n1 := hn.1
  clear hc hn
  go_enter Try.func16, Try.ntmps16
  go_wp2_with (at_make; refine wpList_make_full _ rfl _ _ 25 rfl w.heap.size 37 i0 (.slice none 0 0) 1 Try.underlying25 hi hz0 hz1 _ _ _ _ ls.length rfl rfl rfl rfl (by rw [hz2]; omega) (by unfold maxLen; omega) (Nat.le_refl _) ?_; intro w1 hown hgrow; have M := Lib.hid hown; have G := Lib.hid hgrow; clear hown hgrow)
  have O : w1.ownsRow w.heap.size 37 1 (.slice (some ⟨w.heap.size, 0, none⟩) ls.length ls.length) ls.length (List.replicate ls.length (.slice none 0 0)) := by have := M.out; rwa [show (Value.slice none 0 0).cells = #[.slice none 0 0] from rfl, Nat.mul_one, ← Nat.mul_one ls.length, toList_madeCells_one, Nat.mul_one] at this
  have R0 : RowG w1 w.heap.size ls 0 (List.replicate ls.length (.slice none 0 0)) (fun _ => 0) := ⟨by simp, fun i j _ h => absurd h (Nat.not_lt_zero _), fun i hi => ⟨fun h => absurd h (Nat.not_lt_zero _), fun _ => by rw [List.getElem?_replicate, if_pos hi]⟩⟩
  have B1 := Lib.hid (Below.grown (Below.refl w.heap.size w) G.out (Nat.le_refl _) (fun j hj => by cases hj))
  have OO := Lib.hid O
  have RR := Lib.hid R0
  clear M G O R0 hi hz0 hz1 hz2
  go_loopw [4] (fun i wr => ∃ (k : Nat) (xs : List Value) (gs : Nat → Nat), k ≤ ls.length ∧ i = .int .i64 k ∧ wr.ownsRow w.heap.size 37 1 (.slice (some ⟨w.heap.size, 0, none⟩) ls.length ls.length) ls.length xs ∧ RowG wr w.heap.size ls k xs gs ∧ Below w.heap.size w wr) (fun i _ => ls.length - (intOf i).toNat)
  case atStart => exact ⟨0, _, _, Nat.zero_le _, rfl, OO.out, RR.out, B1.out⟩
  case round =>
    obtain ⟨k, xs, gs, hk, rfl, O2, hR, hB⟩ := hrel
    have O3 := Lib.hid O2
    have R3 := Lib.hid hR
    have BB := Lib.hid hB
    have gl := (O2.lt w.heap.size rfl).2
    by_cases hkl : k < ls.length
    · have hd : decide ((k : Int) < (ls.length : Int)) = true := by simpa using hkl
      obtain ⟨b1, o1, sa, sc, rfl, hb1, p0, p1, _, _⟩ := C.out k hkl
      have d0 := (hB.cell (p := ⟨b1, o1 + k, none⟩) hb1).trans p0
      have P1 := strsIn_below p1 hB
      have K := Lib.hid fun W (h : Below wr.heap.size wr W) => toStrs_any sa (lsAt ls k) sc W (strsIn_below P1 h) (SM.out k hkl)
      have i1 : (0 : Int) ≤ (k : Int) := by omega
      have i2 : (k : Int) < (ls.length : Int) := by omega
      have r0 := O2.cellAt k (by omega)
      rw [(hR.2.2 k hkl).2 (Nat.lt_irrefl k)] at r0
      have R0 := Lib.hid r0
      have FZ := Lib.hid (O2.frozenAt k)
      have nx := Lib.hid fun W g h1 h2 h3 h4 h5 h6 => rowG_next (w := W) (G := w.heap.size) (g := g) (ls := ls) (k := k) (xs := xs) (gs := gs) h1 hkl h2 h3 h4 h5 h6
      have GL := Lib.hid fun i hi => ((hR.2.2 i (by omega)).1 hi).2.2.1
      have yr : b1 < wr.heap.size := Nat.lt_of_lt_of_le hb1 hB.size
      generalize lsAt ls k = x at *
      clear hB p0 p1 P1 O2 hR r0
      go_wp2_with (go_at_call 25; refine (K.out _ (by first | exact Below.refl _ _ | ((repeat' (first | (with_reducible exact Below.refl _ _) | (with_reducible assumption) | (with_reducible refine below_drewN ?_ _) | (with_reducible refine Below.drew ?_) | (with_reducible refine below_new ?_ _) | (with_reducible refine below_next ?_ (by with_reducible assumption)) | (with_reducible refine Below.setCell ?_ ?_ _) | go_size)); done))).mono ?_; rintro e w2 ⟨v, rfl, ⟨g, rfl, g1, g2, g3⟩, hB2⟩; have t0 := (hB2.cell (p := ⟨w.heap.size, k, none⟩) gl).trans R0.out; have u0 := (hB2.frozen (p := ⟨w.heap.size, k, none⟩) gl).trans FZ.out; have O4 := Lib.hid (ownsRow_belowL O3.out hB2); have R4 := Lib.hid (nx.out w2 g (rowG_below R3.out hB2) (by omega) (fun i hi => Nat.lt_of_lt_of_le (GL.out i hi) g1) g2 ⟨fun j hj => ⟨_, (g3 j hj).1⟩, fun j hj => (g3 j hj).2⟩ (fun i hi => ⟨g, 0, rfl, g2, by rw [Nat.zero_add]; exact (g3 i hi).1⟩)); have B2 := Lib.hid (below_next BB.out hB2); clear hB2 g3)
      have s0 := O4.out.stored k (.slice (some ⟨g, 0, none⟩) x.length x.length)
      exact ⟨⟨k + 1, _, _, hkl, by rw [Int.natCast_succ], s0.1, R4.out, B2.out.setCell (Nat.le_refl _) _⟩, by (simp [intOf]) <;> omega⟩
    · have e : k = ls.length := by omega
      subst e
      have hd : decide ((ls.length : Int) < (ls.length : Int)) = false := by simp
      clear O2 hR hB
      go_wp2
      go_ret
      have CE : ∀ i, i < ls.length → wr.cell? ⟨w.heap.size, i, none⟩ = some (.slice (some ⟨gs i, 0, none⟩) (lsAt ls i).length (lsAt ls i).length) := fun i hi => (O3.out.cellAt i (by omega)).trans ((R3.out.2.2 i hi).1 hi).1
      refine ⟨gs, rfl, ⟨gl, R3.out.2.1, fun i hi => ?_⟩, fun i hi => ?_, BB.out⟩
      · obtain ⟨h1, h2, h3, h4, h5⟩ := (R3.out.2.2 i hi).1 hi
        exact ⟨CE i hi, h2, h3, h4⟩
      · obtain ⟨h1, h2, h3, h4, h5⟩ := (R3.out.2.2 i hi).1 hi
        obtain ⟨_, _, _, _, _, _, _, _, hf, hm⟩ := C.out i hi
        exact ⟨w.heap.size, 0, _, _, rfl, gl, by rw [Nat.zero_add]; exact CE i hi, h5, hf, hm⟩


/-! ### Marked -/
/-- Nothing lies otherwise but blocks between G and H. -/
structure Mid (G H : Nat) (w w' : World) : Prop where
  os : w'.os = w.os
  tape : w'.tape = w.tape
  output : w'.output = w.output
  size : w.heap.size ≤ w'.heap.size
  block : ∀ j, (j ≤ G ∨ H ≤ j) → j < w.heap.size → w'.heap[j]? = w.heap[j]?
theorem Mid.refl (G H : Nat) (w : World) : Mid G H w w := ⟨rfl, rfl, rfl, Nat.le_refl _, fun _ _ _ => rfl⟩
theorem Mid.trans {G H : Nat} {a b c : World} (h : Mid G H a b) (k : Mid G H b c) : Mid G H a c := ⟨k.os.trans h.os, k.tape.trans h.tape, k.output.trans h.output, Nat.le_trans h.size k.size, fun j hj hl => (k.block j hj (Nat.lt_of_lt_of_le hl h.size)).trans (h.block j hj hl)⟩
theorem Mid.of_oth {G H g : Nat} {w w' : World} (h : Oth g w w') (h1 : G < g) (h2 : g < H) : Mid G H w w' := ⟨h.os, h.tape, h.output, h.size, fun j hj hl => h.block j (by omega) hl⟩
theorem Mid.below {G H : Nat} {w w' : World} (h : Mid G H w w') (hg : G < w.heap.size) : Below (G + 1) w w' := ⟨h.os, h.tape, h.output, h.size, fun k hk => h.block k (.inl (by omega)) (by omega)⟩
theorem own_mid {B G H : Nat} {zs : List Int} {v : Value} {w w' : World} (h : OwnInts B zs v w) (hb : Mid G H w w') (hg : H ≤ B) : OwnInts B zs v w' := by
  obtain ⟨h1, h2⟩ := h
  refine ⟨h1, ?_⟩
  rcases h2 with hn | ⟨b, cap, cur, rfl, hB, hh, rest⟩
  · exact .inl hn
  · exact .inr ⟨b, cap, cur, rfl, hB, (hb.block b (.inr (by omega)) (Array.getElem?_eq_some_iff.1 hh).1).trans hh, rest⟩
theorem ownMs_mid {B G H : Nat} {ms : List (Int × Int)} {v : Value} {w w' : World} (h : OwnMs B ms v w) (hb : Mid G H w w') (hg : H ≤ B) : OwnMs B ms v w' := by
  obtain ⟨h1, h2⟩ := h
  refine ⟨h1, ?_⟩
  rcases h2 with hn | ⟨b, cap, cur, rfl, hB, hh, rest⟩
  · exact .inl hn
  · exact .inr ⟨b, cap, cur, rfl, hB, (hb.block b (.inr (by omega)) (Array.getElem?_eq_some_iff.1 hh).1).trans hh, rest⟩
theorem Wb.mid {w w' : World} {G H g m : Nat} (h : Wb w g m) (o : Mid G H w w') (hg : H ≤ g) (hl : g < w.heap.size) : Wb w' g m :=
  ⟨fun j hj => (h.1 j hj).imp fun _ hv => (cell_sm (o.block g (.inr hg) hl)).trans hv, fun j hj => by have := h.2 j hj; unfold World.frozen? at this ⊢; simp only [o.block g (.inr hg) hl]; exact this⟩

set_option maxRecDepth 100000 in
set_option maxHeartbeats 1600000 in
theorem markLot_any (G H : Nat) (ls : List (List ByteArray)) (gs : Nat → Nat) (k c : Nat) (w : World) (hL : LotW w G H ls gs) (hH : H ≤ w.heap.size) (hn : ls.length ≤ 1048576) (hk : k + totL ls ls.length ≤ 4000000) :
    Calls Try.prog 20 #[.slice (some ⟨G, 0, none⟩) ls.length c, .int .i64 (k : Int)] w fun e w' => e = .returned (.int .i64 ((k + totL ls ls.length : Nat) : Int)) ∧ Mid G H w w' := by
  have LL := Lib.hid hL
  clear hL
  go_enter Try.func20, Try.ntmps20
  go_wp2
  go_loopw [1, 5] (fun q i wr => ∃ j q0 : Nat, j ≤ ls.length ∧ i = .int .i64 j ∧ q = .int .i64 (q0 : Int) ∧ q0 = k + totL ls j ∧ (∀ i, j ≤ i → i < ls.length → Wb wr (gs i) (lsAt ls i).length) ∧ Mid G H w wr) (fun _ i _ => ls.length - (intOf i).toNat)
  case atStart => exact ⟨0, k, Nat.zero_le _, rfl, rfl, rfl, fun i _ hi => (LL.out.2.2 i hi).2.2.2, Mid.refl _ _ _⟩
  case round =>
    obtain ⟨j, q0, hj, rfl, rfl, hq, hW, hO⟩ := hrel
    have Q := Lib.hid hq
    have WW := Lib.hid hW
    have OO := Lib.hid hO
    by_cases hkl : j < ls.length
    · have hd : decide ((j : Int) < (ls.length : Int)) = true := by simpa using hkl
      have i1 : (0 : Int) ≤ (j : Int) := by omega
      have i2 : (j : Int) < (ls.length : Int) := by omega
      obtain ⟨c1, c2, c3, c4⟩ := LL.out.2.2 j hkl
      have r0 := (cell_sm (hO.block G (.inl (Nat.le_refl _)) LL.out.1)).trans c1
      have tl : totL ls (j + 1) = totL ls j + (lsAt ls j).length := rfl
      have tm := totL_mono ls (j + 1) (ls.length - (j + 1))
      rw [show j + 1 + (ls.length - (j + 1)) = ls.length by omega] at tm
      have lt : gs j < wr.heap.size := Nat.lt_of_lt_of_le (Nat.lt_of_lt_of_le c3 hH) hO.size
      have K := Lib.hid (markStrs_any (lsAt ls j).length (gs j) q0 (lsAt ls j).length wr (hW j (Nat.le_refl _) hkl) lt (by omega))
      have NX := Lib.hid (show q0 + (lsAt ls j).length = k + totL ls (j + 1) by omega)
      have G1 := Lib.hid c2
      have G2 := Lib.hid c3
      have IN := Lib.hid LL.out.2.1
      have LT := Lib.hid fun i (hi : i < ls.length) => Nat.lt_of_lt_of_le (Nat.lt_of_lt_of_le (LL.out.2.2 i hi).2.2.1 hH) hO.size
      clear hq hW hO c1 c2 c3 c4 tl tm lt
      generalize lsAt ls j = x at *
      go_wp2_with (go_at_call 29; refine K.out.mono ?_; rintro e w2 ⟨rfl, hO⟩; have W2 := Lib.hid (fun i (h1 : j + 1 ≤ i) (h2 : i < ls.length) => (WW.out i (by omega) h2).oth hO (Nat.ne_of_gt (IN.out j i (by omega) h2)) (LT.out i h2)); have O2 := Lib.hid (OO.out.trans (Mid.of_oth hO G1.out G2.out)); clear hO)
      exact ⟨⟨j + 1, q0 + x.length, hkl, by rw [Int.natCast_succ], rfl, NX.out, W2.out, O2.out⟩, by (simp [intOf]) <;> omega⟩
    · have e : j = ls.length := by omega
      subst e
      have hd : decide ((ls.length : Int) < (ls.length : Int)) = false := by simp
      clear hW hO
      have hq2 := hq
      subst hq2
      clear hq
      go_wp2
      go_ret
      exact ⟨rfl, OO.out⟩
end Go.Proofs.Ytoippchkhknhpaa
