/- Masks of the call's own; contracts: the masks of a lot (MixLot), the program's and the model's. -/
import Derived.Test.YtoippchkhknhpaaLotI
import Derived.Test.YtoippchkhknhpaaMayI
import Derived.Test.YtoippchkhknhpaaTru
import Derived.Laws.MakeOwn
namespace Go.Proofs.Ytoippchkhknhpaa
open Go.ChangeShapes Go.WideShapes Go.ChangeAt Go.RowKit

def flatM : List (Int × Int) → List Value
  | [] => []
  | m :: ms => .int .u64 m.1 :: .int .u64 m.2 :: flatM ms
theorem flatM_app : ∀ (xs ys : List (Int × Int)), flatM (xs ++ ys) = flatM xs ++ flatM ys
  | [], _ => rfl
  | m :: xs, ys => by simp only [List.cons_append, flatM, flatM_app xs ys]
theorem flatM_len : ∀ ms : List (Int × Int), (flatM ms).length = ms.length * 2
  | [] => rfl
  | m :: ms => by simp only [flatM, List.length_cons, flatM_len ms]; omega
theorem flatM_get : ∀ (ms : List (Int × Int)) (i : Nat), i < ms.length → (flatM ms)[i * 2]? = some (.int .u64 (ms.getD i (0, 0)).1) ∧ (flatM ms)[i * 2 + 1]? = some (.int .u64 (ms.getD i (0, 0)).2)
  | [], i, h => absurd h (Nat.not_lt_zero _)
  | m :: ms, 0, _ => ⟨rfl, rfl⟩
  | m :: ms, i + 1, h => by
    have := flatM_get ms i (by simpa using h)
    rw [show (i + 1) * 2 = i * 2 + 1 + 1 by omega]
    exact this
/-- Masks of the call's own. -/
def OwnMs (B : Nat) (ms : List (Int × Int)) (v : Value) (w : World) : Prop := w.ownsRow B 51 2 v ms.length (flatM ms)
theorem ownMs_in {B : Nat} {ms : List (Int × Int)} {v : Value} {w : World} (h : OwnMs B ms v w) : ∃ a c, v = .slice a ms.length c ∧ MasksIn w a ms := by
  have h0 := h
  obtain ⟨_, h2⟩ := h
  rcases h2 with ⟨rfl, hn⟩ | ⟨g, cap, cur, rfl, hb, hg, _⟩
  · exact ⟨none, 0, by rw [hn], fun i hi => by omega⟩
  · refine ⟨_, cap, rfl, fun i hi => ⟨g, 0, rfl, (Array.getElem?_eq_some_iff.1 hg).1, ?_, ?_⟩⟩
    · rw [Nat.zero_add, World.ownsRow.cellAt h0 _ (by omega)]; exact (flatM_get ms i hi).1
    · rw [Nat.zero_add, World.ownsRow.cellAt h0 _ (by omega)]; exact (flatM_get ms i hi).2
theorem ownMs_kept {B : Nat} {ms : List (Int × Int)} {v : Value} {w w' : World} (h : OwnMs B ms v w) (hb : Below w.heap.size w w') : OwnMs B ms v w' := row_kept h hb
theorem ownMs_weaken {B B' : Nat} {ms : List (Int × Int)} {v : Value} {w : World} (h : OwnMs B ms v w) (hb : B' ≤ B) : OwnMs B' ms v w := by
  obtain ⟨h1, h2⟩ := h
  refine ⟨h1, ?_⟩
  rcases h2 with hn | ⟨g, cap, cur, rfl, hB, rest⟩
  · exact .inl hn
  · exact .inr ⟨g, cap, cur, rfl, Nat.le_trans hb hB, rest⟩
theorem ownMs_nil (B : Nat) (w : World) : OwnMs B [] (.slice none 0 0) w := ⟨rfl, .inl ⟨rfl, rfl⟩⟩
theorem ownMs_none {w : World} {n B : Nat} (hn : n = w.heap.size) (hB : B ≤ w.heap.size) : OwnMs B [] (.slice (some ⟨n, 0, none⟩) 0 0) (w.alloc (.cells #[] 51)) := by
  subst hn; exact World.ownsRow_made w #[] 0 hB (Nat.zero_le _) rfl
theorem ownMs_push {B : Nat} {ms : List (Int × Int)} {x y : Int} {v : Value} {w : World} (h : w.ownsRow B 51 2 v (ms.length + 1) (flatM ms ++ [.int .u64 x, .int .u64 y])) : OwnMs B (ms ++ [(x, y)]) v w := by
  unfold OwnMs; rw [flatM_app, List.length_append]; exact h
theorem ownMs_lt {B : Nat} {ms : List (Int × Int)} {v : Value} {w : World} (h : OwnMs B ms v w) : ∀ j, v.ownBlock = some j → B ≤ j := fun j hj => (World.ownsRow.lt h j hj).1

/-- The mask of the list with an index. -/
def mkAt (t z : Int) (F : Int → Nat) (ls : List (List ByteArray)) (i : Nat) : Int × Int := ((A0 t z F (lsAt ls i) (lsAt ls i).length : Int), (A1 t z F (lsAt ls i) (lsAt ls i).length : Int))
/-- The masks of the first k lists. -/
def mkTo (t z : Int) (F : Int → Nat) (ls : List (List ByteArray)) (k : Nat) : List (Int × Int) := (List.range k).map (mkAt t z F ls)
theorem mkTo_len (t z : Int) (F : Int → Nat) (ls : List (List ByteArray)) (k : Nat) : (mkTo t z F ls k).length = k := by unfold mkTo; simp
theorem mkTo_next (t z : Int) (F : Int → Nat) (ls : List (List ByteArray)) (k : Nat) : mkTo t z F ls (k + 1) = mkTo t z F ls k ++ [mkAt t z F ls k] := by unfold mkTo; rw [List.range_succ, List.map_append]; rfl
theorem mkTo_at {t z : Int} {F : Int → Nat} {ls : List (List ByteArray)} {k i : Nat} (h : i < k) : (mkTo t z F ls k).getD i (0, 0) = mkAt t z F ls i := by unfold mkTo; simp [List.getD, h]
theorem mkTo_u64 {t z : Int} (F : Int → Nat) (ls : List (List ByteArray)) (k : Nat) (t0 : 0 ≤ t) (z0 : 4 ≤ z) (tz : t + z ≤ 96) : ∀ i, i < (mkTo t z F ls k).length → U64 ((mkTo t z F ls k).getD i (0, 0)).1 ∧ U64 ((mkTo t z F ls k).getD i (0, 0)).2 := fun i hi => by
  rw [mkTo_len] at hi
  rw [mkTo_at hi]
  obtain ⟨h0, h1⟩ := A_lt F (lsAt ls i) t0 (show 0 < z by omega) tz (lsAt ls i).length
  show U64 ((A0 t z F (lsAt ls i) (lsAt ls i).length : Nat) : Int) ∧ U64 ((A1 t z F (lsAt ls i) (lsAt ls i).length : Nat) : Int)
  exact ⟨⟨by omega, by omega⟩, ⟨by omega, by omega⟩⟩
/-- Masks of the call's own. -/
def MsR (ms : List (Int × Int)) (w : World) (e : Ending) (w' : World) : Prop := ∃ v, e = .returned v ∧ OwnMs w.heap.size ms v w' ∧ Below w.heap.size w w'
/-- .. and a code. -/
def MlR (c : Int) (ms : List (Int × Int)) (w : World) (e : Ending) (w' : World) : Prop := ∃ v, e = .returned (.tuple #[v, .int .i64 c]) ∧ OwnMs w.heap.size ms v w' ∧ Below w.heap.size w w'
theorem lot_fit {w : World} {a : Option Addr} {ls : List (List ByteArray)} (h : LotIn w a ls) {i : Nat} (hi : i < ls.length) : Fit (lsAt ls i) := by
  obtain ⟨_, _, _, _, _, _, _, _, hf, _⟩ := h i hi; exact hf

set_option maxRecDepth 100000 in
set_option maxHeartbeats 3200000 in
theorem iMasksOf_any (t z p : Int) (F : Int → Nat) (hF : StopF t z p F) (t0 : 0 ≤ t) (z0 : 4 ≤ z) (tz : t + z ≤ 96) (p1 : 1 ≤ p) (p8 : p ≤ 8) (al : Option Addr) (ls : List (List ByteArray)) (cl : Nat) (w : World) (hL : LotIn w al ls) (hn : ls.length ≤ 60) :
    Calls Try.prog 74 #[.agg #[.int .i16 t, .int .i16 z, .int .i16 p], .slice al ls.length cl] w (MsR (mkTo t z F ls ls.length) w) := by
  obtain ⟨i0, hi, hz0, hz1, hz2⟩ := info_parts info_maskW
  have LL := Lib.hid hL
  have M0 := Lib.hid (block_alloc w (.cells #[.int .i16 t, .int .i16 z, .int .i16 p] 30))
  have B0 := Lib.hid (ab_new w (.cells #[.int .i16 t, .int .i16 z, .int .i16 p] 30))
  have A := Lib.hid fun a zs c W h1 h2 h3 => iAll_any t z p F hF t0 z0 tz p1 p8 a zs c W h1 h2 h3
  clear hL
  go_enter Try.func74, Try.ntmps74
  go_wp2_with (at_make; refine wpList_make_own _ rfl _ _ 27 rfl (w.heap.size + 1) 51 i0 (.agg #[.int .u64 0, .int .u64 0]) 2 Try.underlying27 hi hz0 hz1 .i64 .i64 _ ls.length rfl rfl rfl (by rw [hz2]; omega) (by unfold maxLen; omega) (by simp) ?_; intro w1 hown hgrow; rw [World.size_alloc] at hown; have O1 := Lib.hid hown; have M1 := Lib.hid ((hgrow.block w.heap.size (by simp) (fun e => by cases e)).trans M0.out); have B1 := Lib.hid (Below.grown B0.out hgrow (by simp) (fun j hj => by cases hj)); clear hown hgrow)
  have OO1 : Hid (OwnMs (w.heap.size + 1) (mkTo t z F ls 0) (.slice (some ⟨w.heap.size + 1, 0, none⟩) 0 ls.length) w1) := Lib.hid O1.out
  clear O1 M0 B0
  go_loopw [5, 13] (fun v i wr => ∃ j : Nat, j ≤ ls.length ∧ i = .int .i64 j ∧ OwnMs (w.heap.size + 1) (mkTo t z F ls j) v wr ∧ wr.heap[w.heap.size]? = some (.cells #[.int .i16 t, .int .i16 z, .int .i16 p] 30 (0, 0)) ∧ Below w.heap.size w wr) (fun _ i _ => ls.length - (intOf i).toNat)
  case atStart => exact ⟨0, Nat.zero_le _, rfl, OO1.out, M1.out, B1.out⟩
  case round =>
    obtain ⟨j, hj, rfl, O, hM, hB⟩ := hrel
    have BB := Lib.hid hB
    have OO := Lib.hid O
    have MM := Lib.hid hM
    have LE := Lib.hid (mkTo_len t z F ls j)
    clear O OO1 M1 B1
    by_cases hjl : j < ls.length
    · have hd : decide ((j : Int) < (ls.length : Int)) = true := by simpa using hjl
      obtain ⟨b1, o1, sa, sc, rfl, hb1, p0, p1, p2, p3⟩ := LL.out j hjl
      have d0 := (hB.cell (p := ⟨b1, o1 + j, none⟩) hb1).trans p0
      have g0 := cell_of_block hM 0
      have g1 := cell_of_block hM 1
      have g2 := cell_of_block hM 2
      have s0 := lt_of_block hM
      have i3 : (0 : Int) ≤ (j : Int) := by omega
      have i4 : (j : Int) < (ls.length : Int) := by omega
      unfold maxLen at p3
      have C := Lib.hid (A.out sa (lsAt ls j) sc wr (strsIn_below p1 hB) p2 (by omega))
      have nx : Hid (mkTo t z F ls (j + 1) = mkTo t z F ls j ++ [((A0 t z F (lsAt ls j) (lsAt ls j).length : Int), (A1 t z F (lsAt ls j) (lsAt ls j).length : Int))]) := Lib.hid (mkTo_next t z F ls j)
      clear hB p0 p1 p2 p3 hM
      generalize (A0 t z F (lsAt ls j) (lsAt ls j).length : Int) = X at *
      generalize (A1 t z F (lsAt ls j) (lsAt ls j).length : Int) = Y at *
      generalize mkTo t z F ls j = xs at *
      generalize lsAt ls j = x at *
      have lx := LE.out
      go_upto_region 5 with fail
      go_wp2_with (first
        | (go_at_call 87; refine C.out.mono ?_; rintro e wx ⟨rfl, hB⟩; have O2 := Lib.hid (ownMs_kept OO.out hB); have M2 := Lib.hid (Ab.block hB MM.out); have B2 := Lib.hid (BB.out.trans (Below.mono hB BB.out.size)); have s2 := B2.out.size; have l2 := lt_of_block M2.out; clear hB)
        | (at_builtin; refine wpList_append_own _ rfl _ _ 27 rfl (w.heap.size + 1) 51 i0 (.agg #[.int .u64 0, .int .u64 0]) 2 16 Try.underlying27 hi hz0 hz1 hz2 rfl (by decide) _ _ _ rfl (World.ownsRow.alloc O2.out _) ⟨wx.heap.size, 0, none⟩ 1 1 [.int .u64 X, .int .u64 Y] rfl rfl (m_new _ _ _ _) (fun x hx => by simp at hx; rcases hx with rfl | rfl <;> rfl) (by unfold maxLen; omega) (by omega) (by simp; omega) ?_; intro v' w4 hown hgrow _; have P := Lib.hid (ownMs_push hown); have G := Lib.hid hgrow; clear hown hgrow))
      refine ⟨⟨j + 1, hjl, by rw [Int.natCast_succ], by rw [nx.out]; exact P.out, ?_, ?_⟩, by (simp [intOf]) <;> omega⟩
      · exact (G.out.block _ (by simp; omega) (fun e => by have := ownMs_lt O2.out _ e.symm; omega)).trans ((block_old _ _ l2).trans M2.out)
      · exact Below.grown (B2.out.alloc s2 _) G.out (by simp; omega) (fun k hk => Nat.le_of_succ_le (ownMs_lt O2.out k hk))
    · have e : j = ls.length := by omega
      subst e
      have hd : decide ((ls.length : Int) < (ls.length : Int)) = false := by simp
      clear hB hM
      go_wp2
      go_ret
      exact ⟨_, rfl, ownMs_weaken OO.out (Nat.le_succ _), BB.out⟩

set_option maxRecDepth 100000 in
set_option maxHeartbeats 3200000 in
theorem sMasks_any (t z p : Int) (F : Int → Nat) (hF : StopF t z p F) (t0 : 0 ≤ t) (z0 : 4 ≤ z) (tz : t + z ≤ 96) (p1 : 1 ≤ p) (p8 : p ≤ 8) (g o : Nat) (al : Option Addr) (ls : List (List ByteArray)) (cl : Nat) (w : World) (hL : LotIn w al ls) (hn : ls.length ≤ 60) (h1 : w.cell? ⟨g, o, none⟩ = some (.int .i16 t)) (h2 : w.cell? ⟨g, o + 1, none⟩ = some (.int .i16 z)) (h3 : w.cell? ⟨g, o + 2, none⟩ = some (.int .i16 p)) :
    Calls Try.prog 71 #[.pointer (some ⟨g, o, none⟩), .slice al ls.length cl] w (MsR (mkTo t z F ls ls.length) w) := by
  obtain ⟨i0, hi, hz0, hz1, hz2⟩ := info_parts info_maskW
  have hg := World.block_lt_of_cell? _ _ h1
  have LL := Lib.hid hL
  have A := Lib.hid fun a zs c W s1 s2 s3 q0 q1 q2 => sAll_any t z p F hF t0 z0 tz p1 p8 a zs c g o W s1 s2 s3 q0 q1 q2
  have G1 := Lib.hid h1
  have G2 := Lib.hid h2
  have G3 := Lib.hid h3
  clear hL h1 h2 h3
  go_enter Try.func71, Try.ntmps71
  go_wp2
  go_loopw [5, 6] (fun v i wr => ∃ j : Nat, j ≤ ls.length ∧ i = .int .i64 j ∧ OwnMs w.heap.size (mkTo t z F ls j) v wr ∧ Below w.heap.size w wr) (fun _ i _ => ls.length - (intOf i).toNat)
  case atStart => exact ⟨0, Nat.zero_le _, rfl, ownMs_none rfl (Nat.le_refl _), ab_new _ _⟩
  case round =>
    obtain ⟨j, hj, rfl, O, hB⟩ := hrel
    have BB := Lib.hid hB
    have OO := Lib.hid O
    have LE := Lib.hid (mkTo_len t z F ls j)
    clear O
    by_cases hjl : j < ls.length
    · have hd : decide ((j : Int) < (ls.length : Int)) = true := by simpa using hjl
      obtain ⟨b1, o1, sa, sc, rfl, hb1, p0, p1, p2, p3⟩ := LL.out j hjl
      have d0 := (hB.cell (p := ⟨b1, o1 + j, none⟩) hb1).trans p0
      have i3 : (0 : Int) ≤ (j : Int) := by omega
      have i4 : (j : Int) < (ls.length : Int) := by omega
      unfold maxLen at p3
      have C := Lib.hid (A.out sa (lsAt ls j) sc wr (strsIn_below p1 hB) p2 (by omega) ((hB.cell (p := ⟨g, o, none⟩) hg).trans G1.out) ((hB.cell (p := ⟨g, o + 1, none⟩) hg).trans G2.out) ((hB.cell (p := ⟨g, o + 2, none⟩) hg).trans G3.out))
      have nx : Hid (mkTo t z F ls (j + 1) = mkTo t z F ls j ++ [((A0 t z F (lsAt ls j) (lsAt ls j).length : Int), (A1 t z F (lsAt ls j) (lsAt ls j).length : Int))]) := Lib.hid (mkTo_next t z F ls j)
      clear hB p0 p1 p2 p3
      generalize (A0 t z F (lsAt ls j) (lsAt ls j).length : Int) = X at *
      generalize (A1 t z F (lsAt ls j) (lsAt ls j).length : Int) = Y at *
      generalize mkTo t z F ls j = xs at *
      generalize lsAt ls j = x at *
      have lx := LE.out
      go_wp2_with (first
        | (go_at_call 83; refine C.out.mono ?_; rintro e wx ⟨rfl, hB⟩; have O2 := Lib.hid (ownMs_kept OO.out hB); have B2 := Lib.hid (BB.out.trans (Below.mono hB BB.out.size)); have s2 := B2.out.size; clear hB)
        | (at_builtin; refine wpList_append_own _ rfl _ _ 27 rfl w.heap.size 51 i0 (.agg #[.int .u64 0, .int .u64 0]) 2 16 Try.underlying27 hi hz0 hz1 hz2 rfl (by decide) _ _ _ rfl (World.ownsRow.alloc O2.out _) ⟨wx.heap.size, 0, none⟩ 1 1 [.int .u64 X, .int .u64 Y] rfl rfl (m_new _ _ _ _) (fun x hx => by simp at hx; rcases hx with rfl | rfl <;> rfl) (by unfold maxLen; omega) (by omega) (by simp; omega) ?_; intro v' w4 hown hgrow _; have P := Lib.hid (ownMs_push hown); have G := Lib.hid hgrow; clear hown hgrow))
      exact ⟨⟨j + 1, hjl, by rw [Int.natCast_succ], by rw [nx.out]; exact P.out, Below.grown (B2.out.alloc s2 _) G.out (by simp; omega) (fun k hk => ownMs_lt O2.out k hk)⟩, by (simp [intOf]) <;> omega⟩
    · have e : j = ls.length := by omega
      subst e
      have hd : decide ((ls.length : Int) < (ls.length : Int)) = false := by simp
      clear hB
      go_wp2
      go_ret
      exact ⟨_, rfl, OO.out, BB.out⟩

/-! ### MixLot -/
def mlC (ok : Bool) (ls : List (List ByteArray)) : Int := if ok = true then lotC ls else 1
def mlL (c : Int) (ms : List (Int × Int)) : List (Int × Int) := if c = 0 then ms else []
theorem mlL_no {c : Int} {ms : List (Int × Int)} (h : c ≠ 0) : mlL c ms = [] := if_neg h
theorem mlL_yes (ms : List (Int × Int)) : mlL 0 ms = ms := rfl
theorem mlC_mix (ls : List (List ByteArray)) : mlC false ls = 1 := rfl
theorem mlC_ok (ls : List (List ByteArray)) : mlC true ls = lotC ls := rfl

set_option maxRecDepth 100000 in
set_option maxHeartbeats 1600000 in
theorem iMixLot_any (t z p : Int) (ht : I16 t) (hz : I16 z) (F : Int → Nat) (hF : mixOk t z p = true → StopF t z p F) (al : Option Addr) (ls : List (List ByteArray)) (cl : Nat) (w : World) (hL : LotIn w al ls) (hn : ls.length ≤ 9223372036854775807) :
    Calls Try.prog 17 #[.agg #[.int .i16 t, .int .i16 z, .int .i16 p], .slice al ls.length cl] w (MlR (mlC (mixOk t z p) ls) (mlL (mlC (mixOk t z p) ls) (mkTo t z F ls ls.length)) w) := by
  have V := fun W => iValidMix_any t z p ht hz W
  have M0 := Lib.hid (block_alloc w (.cells #[.int .i16 t, .int .i16 z, .int .i16 p] 30))
  have B0 := Lib.hid (below_new (Below.refl w.heap.size w) (.cells #[.int .i16 t, .int .i16 z, .int .i16 p] 30))
  have K := fun W (hb : Below w.heap.size w W) => iIsLot_any al ls cl W (lotIn_below hL hb) hn
  have LL := Lib.hid hL
  clear hL ht hz
  cases hv : mixOk t z p
  · rw [hv] at V
    rw [mlC_mix, mlL_no (by decide)]
    have V := Lib.hid V
    clear hv hF K
    go_enter Try.func17, Try.ntmps17
    go_wp2_with (go_at_call 72; refine (V.out _).mono ?_; rintro e w1 ⟨rfl, hB⟩; have b1 := Lib.hid (B0.out.trans (Below.mono hB B0.out.size)); clear hB)
    go_ret2
    exact ⟨_, rfl, ownMs_nil _ _, b1.out⟩
  · rw [hv] at V
    have V := Lib.hid V
    have hF := hF hv
    obtain ⟨t0, z0, tz, p1, p8, pz⟩ := mix_inv hv
    rw [mlC_ok]
    clear hv
    cases h1 : lotOk ls
    · rw [h1] at K
      rw [lotC_no h1, mlL_no (by decide)]
      have K := Lib.hid K
      clear h1 hF
      go_enter Try.func17, Try.ntmps17
      go_wp2_with (first | (go_at_call 72; refine (V.out _).mono ?_; rintro e w1 ⟨rfl, hB⟩; have b1 := Lib.hid (B0.out.trans (Below.mono hB B0.out.size)); clear hB) | (go_at_call 73; refine (K.out _ b1.out).mono ?_; rintro e w2 ⟨rfl, rfl⟩))
      go_ret2
      exact ⟨_, rfl, ownMs_nil _ _, b1.out⟩
    · rw [h1] at K
      rw [lotC_yes h1, mlL_yes]
      have K := Lib.hid K
      have MS := Lib.hid fun W h => iMasksOf_any t z p F hF t0 z0 tz p1 p8 al ls cl W h (lot_60 h1)
      clear h1 hF
      generalize mkTo t z F ls ls.length = ms at *
      go_enter Try.func17, Try.ntmps17
      go_wp2_with (first | (go_at_call 72; refine (V.out _).mono ?_; rintro e w1 ⟨rfl, hB⟩; have b1 := Lib.hid (B0.out.trans (Below.mono hB B0.out.size)); have a1 := Ab.block hB M0.out; have g0 := cell_of_block a1 0; have g1 := cell_of_block a1 1; have g2 := cell_of_block a1 2; have s1 := lt_of_block a1; clear hB a1) | (go_at_call 73; refine (K.out _ b1.out).mono ?_; rintro e w2 ⟨rfl, rfl⟩) | (go_at_call 74; refine (MS.out _ (lotIn_below LL.out b1.out)).mono ?_; rintro e w3 ⟨v, rfl, hO, hB⟩; have O := Lib.hid hO; have B := Lib.hid hB; clear hO hB))
      go_ret2
      exact ⟨_, rfl, ownMs_weaken O.out b1.out.size, b1.out.trans (Below.mono B.out b1.out.size)⟩

set_option maxRecDepth 100000 in
set_option maxHeartbeats 1600000 in
theorem sMixLot_any (t z p : Int) (ht : I16 t) (hz : I16 z) (hp : I16 p) (F : Int → Nat) (hF : mixOk t z p = true → StopF t z p F) (al : Option Addr) (ls : List (List ByteArray)) (cl : Nat) (w : World) (hL : LotIn w al ls) (hn : ls.length ≤ 9223372036854775807) :
    Calls Try.prog 14 #[.agg #[.int .i16 t, .int .i16 z, .int .i16 p], .slice al ls.length cl] w (MlR (mlC (mixOk t z p) ls) (mlL (mlC (mixOk t z p) ls) (mkTo t z F ls ls.length)) w) := by
  have M0 := block_alloc w (.cells #[.int .i16 t, .int .i16 z, .int .i16 p] 30)
  have V := sOkMix_any t z p ht hz hp w.heap.size 0 (w.alloc (.cells #[.int .i16 t, .int .i16 z, .int .i16 p] 30)) (by simp) (by simp) (by simp)
  have M0 := Lib.hid M0
  have B0 := Lib.hid (below_new (Below.refl w.heap.size w) (.cells #[.int .i16 t, .int .i16 z, .int .i16 p] 30))
  have K := fun W (hb : Below w.heap.size w W) => sLot_any al ls cl W (lotIn_below hL hb) hn
  have LL := Lib.hid hL
  clear hL ht hz hp
  cases hv : mixOk t z p
  · rw [hv] at V
    rw [mlC_mix, mlL_no (by decide)]
    have V := Lib.hid V
    clear hv hF K
    go_enter Try.func14, Try.ntmps14
    go_wp2_with (go_at_call 69; refine V.out.mono ?_; rintro e w1 ⟨rfl, hB⟩; have b1 := Lib.hid (B0.out.trans (Below.mono hB B0.out.size)); clear hB)
    go_ret2
    exact ⟨_, rfl, ownMs_none rfl b1.out.size, b1.out.trans (Below.mono (ab_new _ _) b1.out.size)⟩
  · rw [hv] at V
    have V := Lib.hid V
    have hF := hF hv
    obtain ⟨t0, z0, tz, p1, p8, pz⟩ := mix_inv hv
    rw [mlC_ok]
    clear hv
    cases h1 : lotOk ls
    · rw [lotC_no h1] at K
      rw [lotC_no h1, mlL_no (by decide)]
      have K := Lib.hid K
      clear h1 hF
      go_enter Try.func14, Try.ntmps14
      go_wp2_with (first | (go_at_call 69; refine V.out.mono ?_; rintro e w1 ⟨rfl, hB⟩; have b1 := Lib.hid (B0.out.trans (Below.mono hB B0.out.size)); clear hB) | (go_at_call 70; refine (K.out _ b1.out).mono ?_; rintro e w2 ⟨rfl, rfl⟩))
      go_ret2
      exact ⟨_, rfl, ownMs_none rfl b1.out.size, b1.out.trans (Below.mono (ab_new _ _) b1.out.size)⟩
    · rw [lotC_yes h1] at K
      rw [lotC_yes h1, mlL_yes]
      have K := Lib.hid K
      have MS := Lib.hid fun W h q0 q1 q2 => sMasks_any t z p F hF t0 z0 tz p1 p8 w.heap.size 0 al ls cl W h (lot_60 h1) q0 q1 q2
      clear h1 hF
      generalize mkTo t z F ls ls.length = ms at *
      go_enter Try.func14, Try.ntmps14
      go_wp2_with (first | (go_at_call 69; refine V.out.mono ?_; rintro e w1 ⟨rfl, hB⟩; have b1 := Lib.hid (B0.out.trans (Below.mono hB B0.out.size)); have a1 := Lib.hid (Ab.block hB M0.out); clear hB) | (go_at_call 70; refine (K.out _ b1.out).mono ?_; rintro e w2 ⟨rfl, rfl⟩) | (go_at_call 71; refine (MS.out _ (lotIn_below LL.out b1.out) (by simpa using cell_of_block a1.out 0) (by simpa using cell_of_block a1.out 1) (by simpa using cell_of_block a1.out 2)).mono ?_; rintro e w3 ⟨v, rfl, hO, hB⟩; have O := Lib.hid hO; have B := Lib.hid hB; clear hO hB))
      go_ret2
      exact ⟨_, rfl, ownMs_weaken O.out b1.out.size, b1.out.trans (Below.mono B.out b1.out.size)⟩
end Go.Proofs.Ytoippchkhknhpaa
