/- Several texts in one, as a claim has at most 60 files: SAp CncC Fat Cfl Cfs ApA Aft Stp ApI Out MrgP Rfc RfD AreD CfI Mt CfM NmM TxMk NmS SOf CfN MtS EtL. -/
import Derived.Test.YtbmjghkdhhcffaaDoorApM
import Derived.Test.YtbmjghkdhhcffaaDoorHole
import Derived.Test.YtbmjghkdhhcffaaDoorWith
import Derived.Test.YtbmjghkdhhcffaaDoorWithin
import Derived.Test.YtbmjghkdhhcffaaDoorFloat
import Derived.Deep.AppendLies
import Derived.Deep.RegionLaw
import Derived.Deep.DeepCutAuto
import Derived.Lib.AppendZerosOnto
import Derived.Lib.SliceRun
import Derived.Test.YtbmjghkdhhcffaaDoorSm
import Derived.Test.YtbmjghkdhhcffaaDoorOth
import Derived.Test.YtbmjghkdhhcffaaDoorNames
import Derived.Test.YtbmjghkdhhcffaaDoorRowN
import Derived.Test.YtbmjghkdhhcffaaDoorDeckI
import Derived.Test.YtbmjghkdhhcffaaDoorStK
import Derived.Deep.RegionHeld3
import Derived.Test.YtbmjghkdhhcffaaDoorBoxes
import Derived.Test.YtbmjghkdhhcffaaDoorWear2
import Derived.Laws.StructEq
import Derived.Test.YtbmjghkdhhcffaaDoorDrift2
import Derived.Stop.IfaceNil
import Derived.Test.YtbmjghkdhhcffaaDoorErA2
import Derived.Test.YtbmjghkdhhcffaaDoorErD
import Derived.Test.YtbmjghkdhhcffaaDoorFind
import Derived.Test.YtbmjghkdhhcffaaDoorStM
import Derived.Test.YtbmjghkdhhcffaaDoorMarkC
import Derived.Test.YtbmjghkdhhcffaaDoorStrs
import Derived.Test.YtbmjghkdhhcffaaDoorQuiet
import Derived.Test.YtbmjghkdhhcffaaDoorDeckS
import Derived.Test.YtbmjghkdhhcffaaDoorRows
import Derived.JoinedOf
import Derived.LaidLaws
import Derived.LaidHandle
import Derived.Stop.Joined
namespace Go.Proofs.YtbmjghkdhhcffaaDoor
open Go.ChangeShapes Go.WideShapes Go.ChangeAt Go.RowKit

theorem cellsC_flat {w : World} {g o : Nat} {cs : List Cd} (h : CellsC w (some ⟨g, o, none⟩) cs) : ∀ j u, (flatC cs)[j]? = some u → w.cell? ((⟨g, o, none⟩ : Addr).add j) = some u := by
  intro j u hu
  have hj : j < cs.length * 3 := by rw [← flatC_len]; exact (List.getElem?_eq_some_iff.1 hu).1
  obtain ⟨b, off, ha, hb, h0, h1, h2⟩ := h (j / 3) (by omega)
  cases ha
  have g3 := flatC_get cs (j / 3) (by omega)
  have ea : (⟨g, o, none⟩ : Addr).add j = ⟨g, o + j, none⟩ := by unfold Addr.add; split <;> simp_all
  rw [ea]
  rcases (show j % 3 = 0 ∨ j % 3 = 1 ∨ j % 3 = 2 by omega) with e | e | e
  · have : j / 3 * 3 = j := by omega
    rw [this] at h0 g3; rw [g3.1] at hu; rw [← hu]; exact h0
  · have : j / 3 * 3 + 1 = j := by omega
    rw [Nat.add_assoc, this] at h1; rw [this] at g3; rw [g3.2.1] at hu; rw [← hu]; exact h1
  · have : j / 3 * 3 + 2 = j := by omega
    rw [Nat.add_assoc, this] at h2; rw [this] at g3; rw [g3.2.2] at hu; rw [← hu]; exact h2
theorem cellsC_drop {w : World} {g o : Nat} {cs : List Cd} (h : CellsC w (some ⟨g, o, none⟩) cs) (k : Nat) : CellsC w (some ⟨g, o + k * 3, none⟩) (cs.drop k) := fun i hi => by
  rw [List.length_drop] at hi
  obtain ⟨b, off, ha, hb, h0, h1, h2⟩ := h (k + i) (by omega)
  cases ha
  have e : cdAt (cs.drop k) i = cdAt cs (k + i) := by unfold cdAt; rw [List.getD, List.getD, List.getElem?_drop]
  rw [e]
  refine ⟨g, o + k * 3, rfl, hb, ?_, ?_, ?_⟩
  · rw [show o + k * 3 + i * 3 = o + (k + i) * 3 by omega]; exact h0
  · rw [show o + k * 3 + i * 3 + 1 = o + (k + i) * 3 + 1 by omega]; exact h1
  · rw [show o + k * 3 + i * 3 + 2 = o + (k + i) * 3 + 2 by omega]; exact h2
theorem flatC_oneA : ∀ (cs : List Cd), ∀ u ∈ flatC cs, u.oneCell' = true
  | [], u, h => by cases h
  | c :: cs, u, h => by
    simp only [flatC, List.mem_cons] at h
    rcases h with rfl | rfl | rfl | h
    · rfl
    · rfl
    · rfl
    · exact flatC_oneA cs u h
theorem own_joinA {B : Nat} {xs ys : List Cd} {v : Value} {w : World} (h : w.ownsRow B 69 3 v (xs.length + ys.length) (flatC xs ++ flatC ys)) : OwnCards B (xs ++ ys) v w := by unfold OwnCards; rw [flatC_app, List.length_append]; exact h
theorem flatC_take : ∀ (cs : List Cd) (k : Nat), (flatC cs).take (k * 3) = flatC (cs.take k)
  | [], k => by simp [flatC]
  | c :: cs, 0 => rfl
  | c :: cs, k + 1 => by
    rw [show (k + 1) * 3 = k * 3 + 1 + 1 + 1 by omega]
    simp only [flatC, List.take_succ_cons, flatC_take cs k]
/-- The first cards of a row of the call's own. -/
theorem own_takeA {B g n cap k : Nat} {cs : List Cd} {w : World} (h : OwnCards B cs (.slice (some ⟨g, 0, none⟩) n cap) w) (hk : k ≤ cs.length) : OwnCards B (cs.take k) (.slice (some ⟨g, 0, none⟩) k cap) w := by
  obtain ⟨h1, h2⟩ := h
  have hl : (cs.take k).length = k := by rw [List.length_take]; omega
  rcases h2 with ⟨h2, _⟩ | ⟨g', cap', cur, he, hB, hg, hc, hm, hs, ht⟩
  · cases h2
  · cases he
    refine ⟨by rw [flatC_len], .inr ⟨g, cap, cur, by rw [hl], hB, hg, by rw [hl]; omega, hm, hs, ?_⟩⟩
    rw [hl, ← flatC_take, ← ht, List.take_take]
    congr 1
    omega
theorem new3S (w : World) (x0 x1 x2 : Value) (t : TypeId) : ∀ j u, [x0, x1, x2][j]? = some u → (w.alloc (.cells #[x0, x1, x2] t)).drew.cell? ((⟨w.heap.size, 0, none⟩ : Addr).add j) = some u := by
  intro j u h
  rw [World.cell?_drew]
  match j, h with
  | 0, h => simp at h; subst h; simp [Addr.add]
  | 1, h => simp at h; subst h; simp [Addr.add]
  | 2, h => simp at h; subst h; simp [Addr.add]
/-- An edit that lies in memory. -/
def EdP (w : World) (g o : Nat) (k : Int) (s : ByteArray) (h a b : Int) : Prop := w.cell? ⟨g, o, none⟩ = some (.int .i8 k) ∧ w.cell? ⟨g, o + 1, none⟩ = some (.string s) ∧ w.cell? ⟨g, o + 2, none⟩ = some (.int .i16 h) ∧ w.cell? ⟨g, o + 3, none⟩ = some (.int .u64 a) ∧ w.cell? ⟨g, o + 4, none⟩ = some (.int .u64 b)
theorem EdP.lt {w : World} {g o : Nat} {k : Int} {s : ByteArray} {h a b : Int} (x : EdP w g o k s h a b) : g < w.heap.size := World.block_lt_of_cell? _ _ x.1
theorem EdP.below {w W : World} {g o : Nat} {k : Int} {s : ByteArray} {h a b : Int} (x : EdP w g o k s h a b) (hb : Below w.heap.size w W) : EdP W g o k s h a b := by
  have l := x.lt
  exact ⟨(hb.cell (p := ⟨g, o, none⟩) l).trans x.1, (hb.cell (p := ⟨g, o + 1, none⟩) l).trans x.2.1, (hb.cell (p := ⟨g, o + 2, none⟩) l).trans x.2.2.1, (hb.cell (p := ⟨g, o + 3, none⟩) l).trans x.2.2.2.1, (hb.cell (p := ⟨g, o + 4, none⟩) l).trans x.2.2.2.2⟩
/-- What l07Apply answers. -/
def SaR (xs : List Cd) (k : Int) (w : World) (e : Ending) (w' : World) : Prop := ∃ g c, e = .returned (.tuple #[.slice (some ⟨g, 0, none⟩) xs.length c, .int .i64 k]) ∧ OwnCards w.heap.size xs (.slice (some ⟨g, 0, none⟩) xs.length c) w' ∧ Below w.heap.size w w'
theorem cardsIn_lt {w : World} {g : Nat} {cs : List Cd} (h : CardsIn w (some ⟨g, 0, none⟩) cs) (hn : 0 < cs.length) : g < w.heap.size := by
  obtain ⟨_, b, o, he, hl, _⟩ := h 0 hn
  cases he
  exact hl
theorem sa_none {w W : World} (h : Below w.heap.size w W) : OwnCards w.heap.size [] (.slice (some ⟨W.heap.size, 0, none⟩) 0 0) (W.alloc (.cells #[] 69)) := World.ownsRow_made W #[] 0 h.size (Nat.zero_le _) rfl
theorem own0A {B : Nat} {cs : List Cd} {v : Value} {w : World} (h : w.ownsRow B 69 3 v (0 + cs.length) ([] ++ flatC cs)) : OwnCards B cs v w := by rw [Nat.zero_add, List.nil_append] at h; exact h

theorem saR_of {xs : List Cd} {n g c : Nat} {k : Int} {w w' : World} {e : Ending} (hn : xs.length = n) (he : e = .returned (.tuple #[.slice (some ⟨g, 0, none⟩) n c, .int .i64 k])) (hO : OwnCards w.heap.size xs (.slice (some ⟨g, 0, none⟩) n c) w') (hB : Below w.heap.size w w') : SaR xs k w e w' := by
  subst hn
  exact ⟨g, c, he, hO, hB⟩
theorem below_drewA {B : Nat} {w W : World} (h : Below B w W) : Below B w W.drew := ⟨h.os, h.tape, h.output, h.size, h.block⟩
theorem own_formA {B : Nat} {cs : List Cd} {v : Value} {w : World} (h : OwnCards B cs v w) (hn : 0 < cs.length) : ∃ g cap, v = .slice (some ⟨g, 0, none⟩) cs.length cap ∧ B ≤ g ∧ cs.length ≤ cap := by
  rcases h.2 with ⟨_, h0⟩ | ⟨g, cap, cur, hv, hb, _, hc, _⟩
  · omega
  · exact ⟨g, cap, hv, hb, hc⟩
theorem own_form0 {B n : Nat} {xs : List Value} {v : Value} {w : World} (h : w.ownsRow B 69 3 v n xs) (hb : ∃ g, v.ownBlock = some g) : ∃ g cap, v = .slice (some ⟨g, 0, none⟩) n cap := by
  obtain ⟨g0, hb⟩ := hb
  rcases h.2 with ⟨rfl, _⟩ | ⟨g, cap, cur, hv, _⟩
  · cases hb
  · exact ⟨g, cap, hv⟩
/-- An append as the last operation of a region, of nothing too. -/
theorem yld_append {P : Program} (w : World) {o : Oper} {a : Act} {R : Value → World → Prop} (s x : Operand) (t : TypeId)
    (ho : o.op = .call { callee := .builtin .append, args := #[s, x], argTypes := #[t, t] })
    (base : Nat) (e : TypeId) (i : TypeInfo) (z : Value) (size bytes : Nat) (ht : P.underlying t = some (.slice e)) (hi : P.info? e = some i) (hz : i.zero = some z)
    (hsize : i.size = size) (hby : i.bytes = bytes) (hzs : z.cells.size = size) (hsz : 0 < size)
    (v : Value) (n : Nat) (xs : List Value) (hs : a.eval s = v) (hown : w.ownsRow base e size v n xs)
    (ad : Addr) (m c : Nat) (news : List Value) (hx : a.eval x = .slice (some ad) m c) (hl : news.length = m * size) (hnews : ∀ j u, news[j]? = some u → w.cell? (ad.add j) = some u) (h1 : ∀ u ∈ news, u.oneCell' = true)
    (h63 : n + m ≤ maxLen) (hbytes : (n + m) * bytes ≤ 140737488355328) (hbase : base ≤ w.heap.size)
    (h : ∀ v' w', w'.ownsRow base e size v' (n + m) (xs ++ news) → w.grownBy w' v.ownBlock → (v'.ownBlock = v.ownBlock ∨ v'.ownBlock = some w.heap.size) → R v' w') : Yld P R w ((execOp a.eval o).run P w) := by
  obtain ⟨v', w', hr, h2, h3, _, h5⟩ := run_append_own_at (P := P) w base t o.type e i z size bytes ht hi hz hsize hby hzs hsz v n xs hown ad m c news hl hnews h1 h63 hbytes hbase
  unfold execOp
  simp only [ho, resolve, invoke, builtin, Sem.run_bind, Sem.run_pure, Result.andThen_ok, List.map_toArray, List.map_cons, List.map_nil, hs, hx, hr]
  exact h v' w' h2 h3 h5
theorem flatC_set2 : ∀ (cs : List Cd) (i : Nat) (a b : Int), ((flatC cs).set (i * 3 + 1) (.int .u64 a)).set (i * 3 + 2) (.int .u64 b) = flatC (cs.set i ⟨(cdAt cs i).s, a, b⟩)
  | [], i, a, b => rfl
  | d :: cs, 0, a, b => rfl
  | d :: cs, i + 1, a, b => by
    rw [show (i + 1) * 3 = i * 3 + 1 + 1 + 1 by omega]
    have := flatC_set2 cs i a b
    simp only [flatC, List.set_cons_succ, this]
    rfl












end Go.Proofs.YtbmjghkdhhcffaaDoor

namespace Go.Proofs.YtbmjghkdhhcffaaDoor
open Go.ChangeShapes Go.WideShapes Go.ChangeAt Go.RowKit

theorem ownCards_nil (B : Nat) (w : World) : OwnCards B [] (.slice none 0 0) w := World.ownsRow_nil w B _ 3
theorem ownCards_lt {B : Nat} {zs : List Cd} {v : Value} {w : World} (h : OwnCards B zs v w) : ∀ j, v.ownBlock = some j → B ≤ j := fun j hj => (World.ownsRow.lt h j hj).1
/-- Cards of the call's own are handed back. -/
def CdR (zs : List Cd) (w : World) (e : Ending) (w' : World) : Prop := ∃ v, e = .returned v ∧ OwnCards w.heap.size zs v w' ∧ Below w.heap.size w w'
def csAt (ls : List (List Cd)) (i : Nat) : List Cd := ls.getD i []

set_option maxRecDepth 100000 in
set_option maxHeartbeats 1600000 in
theorem growC_any (n : Nat) (hn : n ≤ 100000) (w : World) : Calls Tryd.prog 114 #[.slice none 0 0, .int .i64 (n : Int)] w (CdR [] w) := by
  obtain ⟨i0, hi, hz0, hz1, hz2⟩ := info_parts info_card
  have d0 : decide ((n : Int) < 0) = false := decide_eq_false (by omega)
  by_cases h0 : n = 0
  · subst h0
    go_enter Tryd.func114, Tryd.ntmps114
    go_wp2
    go_ret
    exact ⟨_, rfl, ownCards_nil _ _, Below.refl _ _⟩
  · have d1 : decide ((0 : Int) < (n : Int)) = true := decide_eq_true (by omega)
    have x1 : IntKind.i64.wrap (n : Int) = (n : Int) := IntWalk.i64_in _ (by omega)
    have hG := grownCap_ge w n 0 69
    have hM := grownCap_le_maxLen w n 0 69 (by unfold maxLen; omega)
    have hold : (Builtin.firstCells i0.size 0 (.slice none 0 0)).run Tryd.prog w.drew = .ok ([] : List Value).toArray w.drew := run_firstCells_none w.drew i0.size 0 0 0
    have hrz : ∀ ty, (Builtin.append_ #[24, 3] ty #[.slice none 0 0, .int .i64 (n : Int)]).run Tryd.prog w = _ := fun ty => Lib.run_append_grow_zeros w 24 3 ty 69 i0 (.agg #[.string ByteArray.empty, .int .u64 0, .int .u64 0]) .i64 .i64 Tryd.underlying24 Tryd.underlying3 hi hz0 none 0 0 [] hold n (by omega) (by omega) (by omega) (by omega) (by rw [hz2]; omega) (growslice_fits (by omega) (by rw [hz2]; omega))
    simp only [Nat.zero_add] at hrz
    generalize grownCap w n 0 69 = G at *
    have R : Hid (OwnCards w.heap.size [] (.slice (some ⟨w.heap.size, 0, none⟩) 0 G) (w.drew.alloc (.cells (([] : List Value).toArray ++ Builtin.zeroCells (Value.agg #[.string ByteArray.empty, .int .u64 0, .int .u64 0]).cells n ++ Builtin.zeroCells (Value.agg #[.string ByteArray.empty, .int .u64 0, .int .u64 0]).cells (G - n)) 69))) := Lib.hid ⟨rfl, .inr ⟨w.heap.size, G, _, rfl, Nat.le_refl _, block_alloc w.drew _, Nat.zero_le _, hM, by simp only [Array.size_append, List.size_toArray, size_zeroCells, List.length_nil]; show 0 + n * 3 + (G - n) * 3 = G * 3; omega, by simp [flatC]⟩⟩
    have BR : Hid (Below w.heap.size w (w.drew.alloc (.cells (([] : List Value).toArray ++ Builtin.zeroCells (Value.agg #[.string ByteArray.empty, .int .u64 0, .int .u64 0]).cells n ++ Builtin.zeroCells (Value.agg #[.string ByteArray.empty, .int .u64 0, .int .u64 0]).cells (G - n)) 69))) := Lib.hid ((show Below w.heap.size w w.drew from ⟨rfl, rfl, rfl, Nat.le_refl _, fun _ _ => rfl⟩).trans (show Below w.heap.size w.drew _ from below_new (Below.refl w.drew.heap.size w.drew) _))
    generalize w.drew.alloc (.cells (([] : List Value).toArray ++ Builtin.zeroCells (Value.agg #[.string ByteArray.empty, .int .u64 0, .int .u64 0]).cells n ++ Builtin.zeroCells (Value.agg #[.string ByteArray.empty, .int .u64 0, .int .u64 0]).cells (G - n)) 69) = W at *
    clear hold hz0 hz1 hz2 hi
    go_enter Tryd.func114, Tryd.ntmps114
    go_wp2_with (at_builtin; go_loud (refine Lib.wpList_append_run _ rfl _ _ _ _ rfl _ _ rfl rfl _ _ (hrz _) ?_))
    go_ret
    exact ⟨_, rfl, R.out, BR.out⟩

/-! ### Concat -/
/-- Lists that lie in memory, none of them nil. -/
def LotC (w : World) (a : Option Addr) (ls : List (List Cd)) : Prop := ∀ i, i < ls.length → ∃ b off g sc, a = some ⟨b, off, none⟩ ∧ b < w.heap.size ∧
  w.cell? ⟨b, off + i, none⟩ = some (.slice (some ⟨g, 0, none⟩) (csAt ls i).length sc) ∧ CellsC w (some ⟨g, 0, none⟩) (csAt ls i)
theorem lotC_below {w w' : World} {a : Option Addr} {ls : List (List Cd)} (h : LotC w a ls) (hb : Below w.heap.size w w') : LotC w' a ls := fun i hi => by
  obtain ⟨b, off, g, sc, ha, hlt, hc, hs⟩ := h i hi
  exact ⟨b, off, g, sc, ha, Nat.lt_of_lt_of_le hlt hb.size, (hb.cell hlt).trans hc, cellsC_below hs hb⟩
/-- How many words the first k lists have. -/
def nCds (ls : List (List Cd)) : Nat → Nat
  | 0 => 0
  | k + 1 => nCds ls k + (csAt ls k).length
/-- All words of the first k lists. -/
def flatK (ls : List (List Cd)) : Nat → List Cd
  | 0 => []
  | k + 1 => flatK ls k ++ csAt ls k
theorem flatK_len (ls : List (List Cd)) : ∀ k, (flatK ls k).length = nCds ls k
  | 0 => rfl
  | k + 1 => by show (flatK ls k ++ csAt ls k).length = nCds ls k + _; rw [List.length_append, flatK_len ls k]
theorem nCds_mono (ls : List (List Cd)) (k : Nat) : ∀ d, nCds ls k ≤ nCds ls (k + d)
  | 0 => Nat.le_refl _
  | d + 1 => Nat.le_trans (nCds_mono ls k d) (by show nCds ls (k + d) ≤ nCds ls (k + d) + _; omega)

set_option maxRecDepth 100000 in
set_option maxHeartbeats 3200000 in
theorem concatC_any (al : Option Addr) (ls : List (List Cd)) (cl : Nat) (w : World) (hL : LotC w al ls) (hn : ls.length ≤ 3) (ht : nCds ls ls.length ≤ 300) :
    Calls Tryd.prog 73 #[.slice al ls.length cl] w (CdR (flatK ls ls.length) w) := by
  obtain ⟨i0, hi, hz0, hz1, hz2⟩ := info_parts info_card
  have LL := Lib.hid hL
  have NT := Lib.hid (fun k (hk : k ≤ ls.length) => (show nCds ls k ≤ 300 by
    have := nCds_mono ls k (ls.length - k)
    rw [show k + (ls.length - k) = ls.length by omega] at this
    omega))
  have GR := Lib.hid (growC_any (nCds ls ls.length) (by omega) w)
  have FL := Lib.hid (flatK_len ls)
  clear hL ht
  go_enter Tryd.func73, Tryd.ntmps73
  go_wp2
  go_loop [3, 11] (fun q i => ∃ k : Nat, k ≤ ls.length ∧ i = .int .i64 (k : Int) ∧ q = .int .i64 (nCds ls k : Int)) (fun _ i => ls.length - (intOf i).toNat)
  case atStart => exact ⟨0, Nat.zero_le _, rfl, rfl⟩
  case round =>
    obtain ⟨k, hk, rfl, rfl⟩ := hrel
    by_cases hlt : k < ls.length
    · obtain ⟨b, off, g, sc, rfl, hb, hc, _⟩ := LL.out k hlt
      have d2 : decide ((k : Int) < (ls.length : Int)) = true := by simpa using hlt
      have i1 : (0 : Int) ≤ (k : Int) := by omega
      have i2 : (k : Int) < (ls.length : Int) := by omega
      have e : nCds ls (k + 1) = nCds ls k + (csAt ls k).length := rfl
      have nb := NT.out (k + 1) hlt
      have x1 : IntKind.i64.wrap ((nCds ls k : Int) + ((csAt ls k).length : Int)) = (nCds ls k : Int) + ((csAt ls k).length : Int) := IntWalk.i64_in _ (by omega)
      have d3 : decide ((nCds ls k : Int) + ((csAt ls k).length : Int) < 0) = false := decide_eq_false (by omega)
      have NX := Lib.hid (show ((nCds ls k : Int) + ((csAt ls k).length : Int)) = ((nCds ls (k + 1) : Nat) : Int) by rw [e]; simp)
      clear e nb
      generalize (csAt ls k).length = m at *
      go_wp2
      go_round
      case rel => exact ⟨k + 1, by omega, by go_num, by rw [← NX.out]⟩
      case measure => simp [intOf]; omega
    · obtain rfl : k = ls.length := by omega
      have d2 : decide ((ls.length : Int) < (ls.length : Int)) = false := by simp
      go_wp2_with (go_at_call 114; refine GR.out.mono ?_; rintro e w1 ⟨v, rfl, hO, hB⟩; have O1 := Lib.hid hO; have B1 := Lib.hid hB; clear hO hB)
      go_loopw [6, 27] (fun v i wr => ∃ j : Nat, j ≤ ls.length ∧ i = .int .i64 j ∧ OwnCards w.heap.size (flatK ls j) v wr ∧ Below w.heap.size w wr) (fun _ i _ => ls.length - (intOf i).toNat)
      case atStart => exact ⟨0, Nat.zero_le _, rfl, O1.out, B1.out⟩
      case round =>
        obtain ⟨j, hj, rfl, O, hB⟩ := hrel
        have BB := Lib.hid hB
        have OO := Lib.hid O
        clear O
        by_cases hjl : j < ls.length
        · have hd : decide ((j : Int) < (ls.length : Int)) = true := by simpa using hjl
          obtain ⟨b1, o1, g, sc, rfl, hb1, p0, p1⟩ := LL.out j hjl
          have d0 := (hB.cell (p := ⟨b1, o1 + j, none⟩) hb1).trans p0
          have i3 : (0 : Int) ≤ (j : Int) := by omega
          have i4 : (j : Int) < (ls.length : Int) := by omega
          have s1 := hB.size
          have cells := cellsC_flat (cellsC_below p1 hB)
          have CE := Lib.hid cells
          have e : nCds ls (j + 1) = nCds ls j + (csAt ls j).length := rfl
          have nb := NT.out (j + 1) hjl
          have fl := FL.out j
          have nx : Hid (flatK ls (j + 1) = flatK ls j ++ csAt ls j) := Lib.hid rfl
          have bd : (flatK ls j).length + (csAt ls j).length ≤ 300 := by omega
          clear hB p0 p1 cells e nb fl
          generalize flatK ls j = xs at *
          generalize csAt ls j = x at *
          go_wp2_with (at_builtin; refine wpList_append_own _ rfl _ _ 24 rfl w.heap.size 69 i0 (.agg #[.string ByteArray.empty, .int .u64 0, .int .u64 0]) 3 32 Tryd.underlying24 hi hz0 hz1 hz2 rfl (by decide) _ _ _ rfl OO.out ⟨g, 0, none⟩ x.length sc (flatC x) rfl (flatC_len x) CE.out (flatC_oneA x) (by unfold maxLen; omega) (by omega) s1 ?_; intro v' w4 hown hgrow _; have P := Lib.hid (own_joinA hown); have G := Lib.hid hgrow; clear hown hgrow)
          exact ⟨⟨j + 1, hjl, by rw [Int.natCast_succ], by rw [nx.out]; exact P.out, Below.grown BB.out G.out s1 (fun k hk => ownCards_lt OO.out k hk)⟩, by (simp [intOf]) <;> omega⟩
        · have e : j = ls.length := by omega
          subst e
          have hd : decide ((ls.length : Int) < (ls.length : Int)) = false := by simp
          clear hB
          go_wp2
          go_ret
          exact ⟨_, rfl, OO.out, BB.out⟩
end Go.Proofs.YtbmjghkdhhcffaaDoor

namespace Go.Proofs.YtbmjghkdhhcffaaDoor
open Go.ChangeShapes Go.WideShapes Go.ChangeAt Go.RowKit

/-- What has become of a card. -/
structure Ft where
  s : ByteArray
  x : St
  y : St
  z : St
def flatF : List Ft → List Value
  | [] => []
  | f :: fs => .string f.s :: .bool f.x.t :: .int .u64 f.x.a :: .int .u64 f.x.b :: .bool f.y.t :: .int .u64 f.y.a :: .int .u64 f.y.b :: .bool f.z.t :: .int .u64 f.z.a :: .int .u64 f.z.b :: flatF fs
theorem flatF_len : ∀ fs : List Ft, (flatF fs).length = fs.length * 10
  | [] => rfl
  | f :: fs => by simp only [flatF, List.length_cons, flatF_len fs]; omega
theorem flatF_app : ∀ (xs ys : List Ft), flatF (xs ++ ys) = flatF xs ++ flatF ys
  | [], _ => rfl
  | f :: fs, ys => by simp only [flatF, List.cons_append, flatF_app fs ys]
def OwnFts (B : Nat) (fs : List Ft) (v : Value) (w : World) : Prop := w.ownsRow B 118 10 v fs.length (flatF fs)
theorem ownFts_nil (B : Nat) (w : World) : OwnFts B [] (.slice none 0 0) w := World.ownsRow_nil w B _ 10
theorem ownFts_lt {B : Nat} {fs : List Ft} {v : Value} {w : World} (h : OwnFts B fs v w) : ∀ j, v.ownBlock = some j → B ≤ j := fun j hj => (World.ownsRow.lt h j hj).1
theorem ownFts_push {B : Nat} {xs : List Ft} {s : ByteArray} {x y z : St} {v : Value} {w : World} (h : w.ownsRow B 118 10 v (xs.length + 1) (flatF xs ++ [.string s, .bool x.t, .int .u64 x.a, .int .u64 x.b, .bool y.t, .int .u64 y.a, .int .u64 y.b, .bool z.t, .int .u64 z.a, .int .u64 z.b])) : OwnFts B (xs ++ [⟨s, x, y, z⟩]) v w := by
  unfold OwnFts; rw [flatF_app, List.length_append]; exact h
theorem ownFts_weaken {B B' : Nat} {fs : List Ft} {v : Value} {w : World} (h : OwnFts B fs v w) (hb : B' ≤ B) : OwnFts B' fs v w := by
  obtain ⟨h1, h2⟩ := h
  refine ⟨h1, ?_⟩
  rcases h2 with hn | ⟨g, cap, cur, rfl, hB, rest⟩
  · exact .inl hn
  · exact .inr ⟨g, cap, cur, rfl, Nat.le_trans hb hB, rest⟩
theorem info_fate : (Tryd.prog.info? 118).map (fun i => (i.zero, i.size, i.bytes)) = some (some (.agg #[.string ByteArray.empty, .bool false, .int .u64 0, .int .u64 0, .bool false, .int .u64 0, .int .u64 0, .bool false, .int .u64 0, .int .u64 0]), 10, 88) := by kernel_rfl
theorem new10 (w : World) (x0 x1 x2 x3 x4 x5 x6 x7 x8 x9 : Value) (t : TypeId) : ∀ j u, [x0, x1, x2, x3, x4, x5, x6, x7, x8, x9][j]? = some u → (w.alloc (.cells #[x0, x1, x2, x3, x4, x5, x6, x7, x8, x9] t)).cell? ((⟨w.heap.size, 0, none⟩ : Addr).add j) = some u := by
  intro j u h
  match j, h with
  | 0, h => simp at h; subst h; simp [Addr.add]
  | 1, h => simp at h; subst h; simp [Addr.add]
  | 2, h => simp at h; subst h; simp [Addr.add]
  | 3, h => simp at h; subst h; simp [Addr.add]
  | 4, h => simp at h; subst h; simp [Addr.add]
  | 5, h => simp at h; subst h; simp [Addr.add]
  | 6, h => simp at h; subst h; simp [Addr.add]
  | 7, h => simp at h; subst h; simp [Addr.add]
  | 8, h => simp at h; subst h; simp [Addr.add]
  | 9, h => simp at h; subst h; simp [Addr.add]

/-- One more name. -/
def ftStep (ps qs rs : List Cd) (fs : List Ft) (s : ByteArray) : List Ft := if hasN (fs.map Ft.s) s = true then fs else fs ++ [⟨s, stOf ps s, stOf qs s, stOf rs s⟩]
/-- The fates of the first n cards. -/
def ftTo (ps qs rs all : List Cd) : Nat → List Ft
  | 0 => []
  | n + 1 => ftStep ps qs rs (ftTo ps qs rs all n) (cdAt all n).s
theorem ftTo_old {ps qs rs all : List Cd} {n : Nat} (h : hasN ((ftTo ps qs rs all n).map Ft.s) (cdAt all n).s = true) : ftTo ps qs rs all (n + 1) = ftTo ps qs rs all n := if_pos h
theorem ftTo_new {ps qs rs all : List Cd} {n : Nat} (h : hasN ((ftTo ps qs rs all n).map Ft.s) (cdAt all n).s = false) : ftTo ps qs rs all (n + 1) = ftTo ps qs rs all n ++ [⟨(cdAt all n).s, stOf ps (cdAt all n).s, stOf qs (cdAt all n).s, stOf rs (cdAt all n).s⟩] := if_neg (by rw [h]; simp)
theorem ftTo_len (ps qs rs all : List Cd) : ∀ n, (ftTo ps qs rs all n).length ≤ n
  | 0 => Nat.le_refl _
  | n + 1 => by
    have ih := ftTo_len ps qs rs all n
    cases h : hasN ((ftTo ps qs rs all n).map Ft.s) (cdAt all n).s
    · rw [ftTo_new h, List.length_append]; simp; omega
    · rw [ftTo_old h]; omega
theorem namesIn_at {P : Program} {k e : TypeId} {w w' : World} {b : Nat} {ns : List ByteArray} (h : NamesIn P k e w b ns) (hb : w'.heap[b]? = w.heap[b]?) : NamesIn P k e w' b ns := by
  obtain ⟨D, hown, hm, hat⟩ := h
  refine ⟨D, ?_, hm, hat⟩
  obtain ⟨es, clock, hc, F, hs, hD⟩ := hown
  exact ⟨es, clock, hb.trans hc, F, hs, hD⟩
theorem namesIn_lt {P : Program} {k e : TypeId} {w : World} {b : Nat} {ns : List ByteArray} (h : NamesIn P k e w b ns) : b < w.heap.size := by
  obtain ⟨D, hown, _⟩ := h
  exact Go.World.ownsMap.lt hown
theorem stsO_at {w w' : World} {b : Nat} {cs : List Cd} (h : StsO w b cs) (hb : w'.heap[b]? = w.heap[b]?) : StsO w' b cs := by
  obtain ⟨es, clock, hc, F, hs, hD⟩ := h
  exact ⟨es, clock, hb.trans hc, F, hs, hD⟩
theorem stsO_lt {w : World} {b : Nat} {cs : List Cd} (h : StsO w b cs) : b < w.heap.size := Go.World.ownsMap.lt h
theorem st_lookF {w : World} {b : Nat} {cs : List Cd} (h : StsO w b cs) {s : ByteArray} (hs : s.size ≤ maxLen) : (Instr.lookup 122 (.map (some b)) (.string s) false).run Tryd.prog w = .ok (stV (stOf cs s)) w := by
  obtain ⟨v, ps, hr, hv⟩ := Go.World.ownsMap.lookup h (Maps.string_keyed Tryd.underlying9) Tryd.underlying122 (zero_state w) (stR_of st0) (show keyOf Tryd.prog 9 (.string s) = some (kS s) from Go.WideMaps.keyOf_string_mk Tryd.underlying9 hs)
  rw [dSt_at] at hv
  obtain rfl := stR_inv hv
  exact hr
theorem oth_grown {g : Nat} {a b c : World} (h : Oth g a b) (hg : b.grownBy c (some g)) : Oth g a c := h.trans ⟨hg.os, hg.tape, hg.output, hg.size, fun j hj hl => hg.block j hl (fun e => hj (Option.some.inj e))⟩
theorem oth_own {g : Nat} {a b c : World} {r : Option Nat} (h : Oth g a b) (hg : b.grownBy c r) (hr : ∀ k, r = some k → a.heap.size ≤ k) : Oth g a c :=
  ⟨hg.os.trans h.os, hg.tape.trans h.tape, hg.output.trans h.output, Nat.le_trans h.size hg.size, fun j hj hl => (hg.block j (Nat.lt_of_lt_of_le hl h.size) (fun e => absurd (hr j e.symm) (by omega))).trans (h.block j hj hl)⟩
theorem oth_new {g : Nat} {a b : World} (h : Oth g a b) (o : Obj) : Oth g a (b.alloc o) := h.trans (Oth.of (below_new (Below.refl _ _) _))
theorem lot3 {w : World} {n : Nat} (hn : n = w.heap.size) {ps qs rs : List Cd} {g1 g2 g3 c1 c2 c3 : Nat} (h1 : CellsC w (some ⟨g1, 0, none⟩) ps) (h2 : CellsC w (some ⟨g2, 0, none⟩) qs) (h3 : CellsC w (some ⟨g3, 0, none⟩) rs) :
    LotC (w.alloc (.cells #[.slice (some ⟨g1, 0, none⟩) ps.length c1, .slice (some ⟨g2, 0, none⟩) qs.length c2, .slice (some ⟨g3, 0, none⟩) rs.length c3] 24)) (some ⟨n, 0, none⟩) [ps, qs, rs] := by
  subst hn
  intro i hi
  have hlt : w.heap.size < (w.alloc (.cells #[.slice (some ⟨g1, 0, none⟩) ps.length c1, .slice (some ⟨g2, 0, none⟩) qs.length c2, .slice (some ⟨g3, 0, none⟩) rs.length c3] 24)).heap.size := by simp
  match i, hi with
  | 0, _ => exact ⟨_, _, g1, c1, rfl, hlt, by simp [csAt], cellsC_below h1 (below_new (Below.refl _ _) _)⟩
  | 1, _ => exact ⟨_, _, g2, c2, rfl, hlt, by simp [csAt], cellsC_below h2 (below_new (Below.refl _ _) _)⟩
  | 2, _ => exact ⟨_, _, g3, c3, rfl, hlt, by simp [csAt], cellsC_below h3 (below_new (Below.refl _ _) _)⟩
  | n + 3, h => exact absurd h (by simp)
/-- All cards of three decks. -/
def all3 (ps qs rs : List Cd) : List Cd := flatK [ps, qs, rs] 3
theorem all3_eq (ps qs rs : List Cd) : all3 ps qs rs = ps ++ qs ++ rs := by show [] ++ ps ++ qs ++ rs = _; rw [List.nil_append]
theorem all3_fits {ps qs rs : List Cd} (h1 : ∀ i, i < ps.length → (cdAt ps i).fits) (h2 : ∀ i, i < qs.length → (cdAt qs i).fits) (h3 : ∀ i, i < rs.length → (cdAt rs i).fits) : ∀ i, i < (all3 ps qs rs).length → (cdAt (all3 ps qs rs) i).fits := by
  have key : ∀ (xs : List Cd), (∀ i, i < xs.length → (cdAt xs i).fits) ↔ ∀ x ∈ xs, x.fits := fun xs => by
    constructor
    · intro h x hx
      obtain ⟨i, hi, rfl⟩ := List.getElem_of_mem hx
      have := h i hi
      unfold cdAt at this
      rwa [List.getD, List.getElem?_eq_getElem hi] at this
    · intro h i hi
      unfold cdAt
      rw [List.getD, List.getElem?_eq_getElem hi]
      exact h _ (List.getElem_mem hi)
  rw [all3_eq, key]
  rw [key] at h1 h2 h3
  intro x hx
  rcases List.mem_append.1 hx with e | e
  · rcases List.mem_append.1 e with e | e
    · exact h1 x e
    · exact h2 x e
  · exact h3 x e
/-- Fates of the call's own are handed back. -/
def FtR (fs : List Ft) (w : World) (e : Ending) (w' : World) : Prop := ∃ v, e = .returned v ∧ OwnFts w.heap.size fs v w' ∧ Below w.heap.size w w'

set_option maxRecDepth 100000 in
set_option maxHeartbeats 1600000 in
theorem iFates_any (g1 g2 g3 : Nat) (ps qs rs : List Cd) (c1 c2 c3 : Nat) (w : World) (h1 : CardsIn w (some ⟨g1, 0, none⟩) ps) (h2 : CardsIn w (some ⟨g2, 0, none⟩) qs) (h3 : CardsIn w (some ⟨g3, 0, none⟩) rs) (l1 : ps.length ≤ 80) (l2 : qs.length ≤ 80) (l3 : rs.length ≤ 80) :
    Calls Tryd.prog 37 #[.slice (some ⟨g1, 0, none⟩) ps.length c1, .slice (some ⟨g2, 0, none⟩) qs.length c2, .slice (some ⟨g3, 0, none⟩) rs.length c3] w (FtR (ftTo ps qs rs (all3 ps qs rs) (all3 ps qs rs).length) w) := by
  obtain ⟨i0, hi, hz0, hz1, hz2⟩ := info_parts info_fate
  have H1 := Lib.hid h1
  have H2 := Lib.hid h2
  have H3 := Lib.hid h3
  have S1 := Lib.hid fun W h => iStates_any (some ⟨g1, 0, none⟩) ps c1 W h (by omega)
  have S2 := Lib.hid fun W h => iStates_any (some ⟨g2, 0, none⟩) qs c2 W h (by omega)
  have S3 := Lib.hid fun W h => iStates_any (some ⟨g3, 0, none⟩) rs c3 W h (by omega)
  have la : (all3 ps qs rs).length ≤ 240 := by rw [all3_eq]; simp; omega
  have CC := Lib.hid fun al W h => (show Calls Tryd.prog 73 #[.slice al 3 3] W (CdR (all3 ps qs rs) W) from concatC_any al [ps, qs, rs] 3 W h (Nat.le_refl 3) (by show 0 + ps.length + qs.length + rs.length ≤ 300; omega))
  have FA := Lib.hid (all3_fits (fun i hi => (h1 i hi).1) (fun i hi => (h2 i hi).1) (fun i hi => (h3 i hi).1))
  have L3 := Lib.hid fun (W : World) (hB : Below w.heap.size w W) (n : Nat) (hn : n = W.heap.size) => lot3 hn (c1 := c1) (c2 := c2) (c3 := c3) (cellsC_below (fun i hi => (h1 i hi).2) hB) (cellsC_below (fun i hi => (h2 i hi).2) hB) (cellsC_below (fun i hi => (h3 i hi).2) hB)
  clear h1 h2 h3 l1 l2 l3
  have hmm := fun W => run_makeMap (P := Tryd.prog) 124 W
  have tok1 : True := trivial
  have tok2 : True := trivial
  generalize all3 ps qs rs = all at *
  go_enter Tryd.func37, Tryd.ntmps37
  go_wp2_with (first
    | (go_at_call 72; have _t := tok1; clear _t tok1; refine (S1.out _ H1.out).mono ?_; rintro e w2 ⟨m1, rfl, hM, hB⟩; have b2 := Lib.hid hB; have M1 := Lib.hid hM; clear hM hB)
    | (go_at_call 72; have _t := tok2; clear _t tok2; refine (S2.out _ (cardsIn_below H2.out b2.out)).mono ?_; rintro e w3 ⟨m2, rfl, hM, hB⟩; have b3 := Lib.hid (b2.out.trans (Below.mono hB b2.out.size)); have N1 := Lib.hid (M1.out.below hB); have M2 := Lib.hid hM; clear hM hB)
    | (go_at_call 72; refine (S3.out _ (cardsIn_below H3.out b3.out)).mono ?_; rintro e w4 ⟨m3, rfl, hM, hB⟩; have b4 := Lib.hid (b3.out.trans (Below.mono hB b3.out.size)); have P1 := Lib.hid (N1.out.below hB); have P2 := Lib.hid (M2.out.below hB); have P3 := Lib.hid hM; clear hM hB)
    | (go_at_call 73; refine (CC.out (some ⟨w4.heap.size + 1, 0, none⟩) _ (L3.out (w4.alloc (.map #[] 0)) (below_new b4.out _) (w4.heap.size + 1) (by simp))).mono ?_; rintro e w5 ⟨v5, rfl, hO, hB⟩; obtain ⟨a5, c5, hv5, hi5⟩ := ownCards_in hO; subst hv5; have O5 := Lib.hid hO; have I5 := Lib.hid hi5; have B5 := Lib.hid hB; clear hO hi5 hB))
  have NM0 := Lib.hid ((namesIn_made Tryd.prog 9 4 w4).below (below_new (Below.refl _ _) (.cells #[.slice (some ⟨g1, 0, none⟩) ps.length c1, .slice (some ⟨g2, 0, none⟩) qs.length c2, .slice (some ⟨g3, 0, none⟩) rs.length c3] 24)))
  have NM := Lib.hid (NM0.out.below B5.out)
  have x1 : m1 < w4.heap.size := stsO_lt P1.out
  have x2 : m2 < w4.heap.size := stsO_lt P2.out
  have x3 : m3 < w4.heap.size := stsO_lt P3.out
  have A5 := Lib.hid (Below.trans (below_new (below_new (Below.refl w4.heap.size w4) (.map #[] 0)) (.cells #[.slice (some ⟨g1, 0, none⟩) ps.length c1, .slice (some ⟨g2, 0, none⟩) qs.length c2, .slice (some ⟨g3, 0, none⟩) rs.length c3] 24)) (B5.out.mono (by simp <;> omega)))
  have Q1 := Lib.hid (P1.out.below A5.out)
  have Q2 := Lib.hid (P2.out.below A5.out)
  have Q3 := Lib.hid (P3.out.below A5.out)
  have x4 : w.heap.size ≤ w4.heap.size := b4.out.size
  have BW := Lib.hid (b4.out.trans (Below.mono A5.out x4))
  have x5 : w4.heap.size + 2 ≤ w5.heap.size := by have := B5.out.size; simpa using this
  have x6 : ∀ j, (Value.slice a5 all.length c5).ownBlock = some j → w4.heap.size + 2 ≤ j := fun j hj => by have := ownCards_lt O5.out j hj; simpa using this
  clear NM0 A5 P1 P2 P3 N1 M1 M2 b2 b3 b4 B5 O5 S1 S2 S3 H1 H2 H3 CC L3 hmm
  generalize w4.heap.size = nm at *
  go_loopw [10, 27] (fun v i wr => ∃ j : Nat, j ≤ all.length ∧ i = .int .i64 (j : Int) ∧ OwnFts w5.heap.size (ftTo ps qs rs all j) v wr ∧ NamesIn Tryd.prog 9 4 wr nm ((ftTo ps qs rs all j).map Ft.s) ∧ Oth nm w5 wr) (fun _ i _ => all.length - (intOf i).toNat)
  case atStart => exact ⟨0, Nat.zero_le _, rfl, ownFts_nil _ _, NM.out, Oth.refl _ _⟩
  case round =>
    obtain ⟨j, hj, rfl, hO, hN, hT⟩ := hrel
    have OO := Lib.hid hO
    have NN := Lib.hid hN
    have TT := Lib.hid hT
    clear hO hN
    by_cases hjl : j < all.length
    · have hd : decide ((j : Int) < (all.length : Int)) = true := by simpa using hjl
      obtain ⟨b1, o1, rfl, hb1, p0, p1, p2⟩ := I5.out j hjl
      have hft := (FA.out j hjl).1
      have ne : b1 ≠ nm := by have := x6 b1 rfl; omega
      have y5 := hT.size
      have d0 := (World.cell?_of_block (a := ⟨b1, o1 + j * 3, none⟩) (hT.block b1 ne hb1)).trans p0
      have d1 := (World.cell?_of_block (a := ⟨b1, o1 + j * 3 + 1, none⟩) (hT.block b1 ne hb1)).trans p1
      have d2 := (World.cell?_of_block (a := ⟨b1, o1 + j * 3 + 2, none⟩) (hT.block b1 ne hb1)).trans p2
      have i1 : (0 : Int) ≤ (j : Int) := by omega
      have i2 : (j : Int) < (all.length : Int) := by omega
      have ln := ftTo_len ps qs rs all j
      have N1 := NN.out.below (below_new (Below.refl wr.heap.size wr) (.cells #[.string (cdAt all j).s, .int .u64 (cdAt all j).a, .int .u64 (cdAt all j).b] 69))
      have L := N1.asked Tryd.underlying124 Tryd.underlying9 Tryd.underlying4 (zero_bool _) _ hft
      clear p0 p1 p2 hT
      cases hn : hasN ((ftTo ps qs rs all j).map Ft.s) (cdAt all j).s
      · obtain ⟨w6, U, N6, hg⟩ := N1.added Tryd.underlying124 Tryd.underlying9 Tryd.underlying4 _ hft (by rw [List.length_map]; unfold maxLen; omega)
        have T6 := Lib.hid (oth_grown (oth_new TT.out (.cells #[.string (cdAt all j).s, .int .u64 (cdAt all j).a, .int .u64 (cdAt all j).b] 69)) hg)
        have k1 := st_lookF (stsO_at Q1.out (T6.out.block m1 (by omega) (by omega))) hft
        have k2 := st_lookF (stsO_at Q2.out (T6.out.block m2 (by omega) (by omega))) hft
        have k3 := st_lookF (stsO_at Q3.out (T6.out.block m3 (by omega) (by omega))) hft
        have O6 := Lib.hid (row_grown (World.ownsRow.alloc OO.out (.cells #[.string (cdAt all j).s, .int .u64 (cdAt all j).a, .int .u64 (cdAt all j).b] 69)) hg (fun q hq e => by cases e; have := ownFts_lt OO.out _ hq; omega))
        have cx : ∀ q, w6.cell? ⟨wr.heap.size, q, none⟩ = (wr.alloc (.cells #[.string (cdAt all j).s, .int .u64 (cdAt all j).a, .int .u64 (cdAt all j).b] 69)).cell? ⟨wr.heap.size, q, none⟩ := fun q => World.cell?_of_block (a := ⟨wr.heap.size, q, none⟩) (hg.block wr.heap.size (by simp) (fun e => by cases e; omega))
        have c0 : w6.cell? ⟨wr.heap.size, 0, none⟩ = some (.string (cdAt all j).s) := (cx 0).trans (by simp)
        have z6 : wr.heap.size < w6.heap.size := by have := hg.size; simp at this; omega
        have NX := Lib.hid (ftTo_new hn)
        have N6 := Lib.hid N6
        rw [hn] at L
        clear hn cx hg N1 hft NN TT OO
        generalize ftTo ps qs rs all j = fs at *
        generalize stOf ps (cdAt all j).s = u1 at *
        generalize stOf qs (cdAt all j).s = u2 at *
        generalize stOf rs (cdAt all j).s = u3 at *
        obtain ⟨t1, p1, q1⟩ := u1
        obtain ⟨t2, p2, q2⟩ := u2
        obtain ⟨t3, p3, q3⟩ := u3
        simp only [stV] at k1 k2 k3
        generalize cdAt all j = c at *
        obtain ⟨s, xa, xb⟩ := c
        simp only at d0 d1 d2 NX N6 U L k1 k2 k3 c0 O6
        go_wp2_with (at_builtin; refine wpList_append_lies _ rfl _ _ 76 rfl w5.heap.size 118 i0 (.agg #[.string ByteArray.empty, .bool false, .int .u64 0, .int .u64 0, .bool false, .int .u64 0, .int .u64 0, .bool false, .int .u64 0, .int .u64 0]) 10 88 Tryd.underlying76 hi hz0 hz1 hz2 rfl (by decide) _ _ _ rfl (World.ownsRow.alloc O6.out _) ⟨w6.heap.size, 0, none⟩ 1 1 [.string s, .bool t1, .int .u64 p1, .int .u64 q1, .bool t2, .int .u64 p2, .int .u64 q2, .bool t3, .int .u64 p3, .int .u64 q3] rfl rfl (new10 _ _ _ _ _ _ _ _ _ _ _ _) (fun x hx => by simp at hx; rcases hx with rfl | rfl | rfl | rfl | rfl | rfl | rfl | rfl | rfl | rfl <;> rfl) (by omega) (by unfold maxLen; omega) (by omega) (by simp; have := T6.out.size; omega) _ rfl ?_; intro gg cap2 w8 hown hgrow _ _; have P := Lib.hid (ownFts_push (x := ⟨t1, p1, q1⟩) (y := ⟨t2, p2, q2⟩) (z := ⟨t3, p3, q3⟩) hown); have G := Lib.hid hgrow; clear hown hgrow)
        have T8 := oth_own (oth_new T6.out (.cells #[.string s, .bool t1, .int .u64 p1, .int .u64 q1, .bool t2, .int .u64 p2, .int .u64 q2, .bool t3, .int .u64 p3, .int .u64 q3] 118)) G.out (fun k hk => ownFts_lt (fs := fs) O6.out k hk)
        refine ⟨⟨j + 1, hjl, by rw [Int.natCast_succ], by rw [NX.out]; exact P.out, ?_, T8⟩, by (simp [intOf]) <;> omega⟩
        rw [NX.out, List.map_append]
        have N7 := N6.out.below (below_new (Below.refl w6.heap.size w6) (.cells #[.string s, .bool t1, .int .u64 p1, .int .u64 q1, .bool t2, .int .u64 p2, .int .u64 q2, .bool t3, .int .u64 p3, .int .u64 q3] 118))
        exact namesIn_at N7 (G.out.block nm (namesIn_lt N7) (fun e => by have := ownFts_lt (fs := fs) O6.out nm e.symm; omega))
      · have NX := Lib.hid (ftTo_old hn)
        have N2 := Lib.hid N1
        have T2 := Lib.hid (oth_new TT.out (.cells #[.string (cdAt all j).s, .int .u64 (cdAt all j).a, .int .u64 (cdAt all j).b] 69))
        have O2 := Lib.hid (World.ownsRow.alloc OO.out (.cells #[.string (cdAt all j).s, .int .u64 (cdAt all j).a, .int .u64 (cdAt all j).b] 69))
        rw [hn] at L
        clear hn N1 hft NN TT OO
        go_wp2
        exact ⟨⟨j + 1, hjl, by rw [Int.natCast_succ], by rw [NX.out]; exact O2.out, by rw [NX.out]; exact N2.out, T2.out⟩, by (simp [intOf]) <;> omega⟩
    · have e : j = all.length := by omega
      subst e
      have hd : decide ((all.length : Int) < (all.length : Int)) = false := by simp
      clear hT
      go_wp2
      go_ret
      exact ⟨_, rfl, ownFts_weaken OO.out BW.out.size, BW.out.trans (Below.mono (TT.out.below (by omega)) x4)⟩
end Go.Proofs.YtbmjghkdhhcffaaDoor

namespace Go.Proofs.YtbmjghkdhhcffaaDoor
open Go.ChangeShapes Go.WideShapes Go.ChangeAt Go.RowKit

theorem step_put {ops : Array Oper} {o : Oper} {a : Act} {w : World} {K : Act → World → Prop} {Q : Exit → Act → World → Prop} {E : Prop} {b : Nat} {xs : List St} (hS : StSet w b xs) (hn : xs.length < 100) (hgd : o.guard = none) (m k x : Operand)
    (ho : o.op = .insert 208 m k x) (s : St) (hs : StFit s) (hm : a.eval m = .map (some b)) (hk : a.eval k = stV s) (hx : a.eval x = .bool true)
    (h : ∀ w', StSet w' b (s :: xs) → w.grownBy w' (some b) → K (a.put o.dst undef) w') :
    if Region.wanted o (yielded ops a.tmps) = true then Oper.wp Tryd.prog o a w K Q else E := by
  have hw : Region.wanted o (yielded ops a.tmps) = true := by simp [Region.wanted, hgd]
  rw [if_pos hw]
  obtain ⟨w', hr, h2, h3⟩ := hS.put s hs hn
  unfold Oper.wp execOp
  simp only [ho, hm, hk, hx, Sem.run_bind, hr, Result.andThen_ok, Sem.run_pure]
  unfold Oper.upon
  exact h w' h2 h3
set_option maxRecDepth 100000 in
theorem upon_put {o : Oper} {a : Act} {w : World} {K : Act → World → Prop} {Q : Exit → Act → World → Prop} {b : Nat} {xs : List St} (hS : StSet w b xs) (hn : xs.length < 100) {t : Bool} {p q : Int} (hs : StFit ⟨t, p, q⟩)
    (h : ∀ w', StSet w' b (⟨t, p, q⟩ :: xs) → w.grownBy w' (some b) → K (a.put o.dst undef) w') :
    Oper.upon Tryd.prog o a K Q (((Instr.mapUpdate 208 (.map (some b)) (.agg #[.bool t, .int .u64 p, .int .u64 q]) (.bool true)).run Tryd.prog w).andThen fun _ w' => .ok .skip w') := by
  obtain ⟨w', hr, h2, h3⟩ := hS.put ⟨t, p, q⟩ hs hn
  unfold stV at hr
  rw [hr, Result.andThen_ok]
  exact h w' h2 h3
theorem stSet_drew {w : World} {b : Nat} {xs : List St} (h : StSet w b xs) : StSet w.drew b xs := h.at rfl
theorem bdrewF {B : Nat} {w W : World} (h : Below B w W) : Below B w W.drew := ⟨h.os, h.tape, h.output, h.size, h.block⟩
theorem cnt3p (x y z : St) : (((cntSt [x, y, z] : Nat) : Int) == 3) = isC x y z ∧ (((cntSt [x, z, y] : Nat) : Int) == 3) = isC x y z ∧ (((cntSt [y, x, z] : Nat) : Int) == 3) = isC x y z ∧ (((cntSt [y, z, x] : Nat) : Int) == 3) = isC x y z ∧ (((cntSt [z, x, y] : Nat) : Int) == 3) = isC x y z ∧ (((cntSt [z, y, x] : Nat) : Int) == 3) = isC x y z := by
  simp only [cnt3]
  unfold isC
  rw [eqSt_comm z y, eqSt_comm y x, eqSt_comm z x]
  cases eqSt x y <;> cases eqSt x z <;> cases eqSt y z <;> simp

set_option maxRecDepth 100000 in
set_option maxHeartbeats 3200000 in
theorem iConf_any (s : ByteArray) (t1 t2 t3 : Bool) (p1 q1 p2 q2 p3 q3 : Int) (f1 : StFit ⟨t1, p1, q1⟩) (f2 : StFit ⟨t2, p2, q2⟩) (f3 : StFit ⟨t3, p3, q3⟩) (w : World) :
    Calls Tryd.prog 113 #[.agg #[.string s, .bool t1, .int .u64 p1, .int .u64 q1, .bool t2, .int .u64 p2, .int .u64 q2, .bool t3, .int .u64 p3, .int .u64 q3]] w fun e w' => e = .returned (.bool (isC ⟨t1, p1, q1⟩ ⟨t2, p2, q2⟩ ⟨t3, p3, q3⟩)) ∧ Below w.heap.size w w' := by
  have NW := Lib.hid fun j u h => new10 w (.string s) (.bool t1) (.int .u64 p1) (.int .u64 q1) (.bool t2) (.int .u64 p2) (.int .u64 q2) (.bool t3) (.int .u64 p3) (.int .u64 q3) 118 j u h
  have hmm := fun W => run_makeMap (P := Tryd.prog) 208 W
  have CN := Lib.hid (cnt3p ⟨t1, p1, q1⟩ ⟨t2, p2, q2⟩ ⟨t3, p3, q3⟩)
  have F1 := Lib.hid f1
  have F2 := Lib.hid f2
  have F3 := Lib.hid f3
  clear f1 f2 f3
  generalize isC ⟨t1, p1, q1⟩ ⟨t2, p2, q2⟩ ⟨t3, p3, q3⟩ = rr at *
  go_enter Tryd.func113, Tryd.ntmps113
  go_upto_region 1 with fail
  have KE : Hid (∀ W, Below (w.heap.size + 1) (w.alloc (.cells #[.string s, .bool t1, .int .u64 p1, .int .u64 q1, .bool t2, .int .u64 p2, .int .u64 q2, .bool t3, .int .u64 p3, .int .u64 q3] 118)) W → W.cell? ⟨w.heap.size, 1, none⟩ = some (.bool t1) ∧ W.cell? ⟨w.heap.size, 2, none⟩ = some (.int .u64 p1) ∧ W.cell? ⟨w.heap.size, 3, none⟩ = some (.int .u64 q1) ∧ W.cell? ⟨w.heap.size, 4, none⟩ = some (.bool t2) ∧ W.cell? ⟨w.heap.size, 5, none⟩ = some (.int .u64 p2) ∧ W.cell? ⟨w.heap.size, 6, none⟩ = some (.int .u64 q2) ∧ W.cell? ⟨w.heap.size, 7, none⟩ = some (.bool t3) ∧ W.cell? ⟨w.heap.size, 8, none⟩ = some (.int .u64 p3) ∧ W.cell? ⟨w.heap.size, 9, none⟩ = some (.int .u64 q3)) := Lib.hid fun W hW => by
    have e : ∀ q, W.cell? ⟨w.heap.size, q, none⟩ = (w.alloc (.cells #[.string s, .bool t1, .int .u64 p1, .int .u64 q1, .bool t2, .int .u64 p2, .int .u64 q2, .bool t3, .int .u64 p3, .int .u64 q3] 118)).cell? ⟨w.heap.size, q, none⟩ := fun q => World.cell?_of_block (a := ⟨w.heap.size, q, none⟩) (hW.block w.heap.size (by omega))
    refine ⟨?_, ?_, ?_, ?_, ?_, ?_, ?_, ?_, ?_⟩ <;> (rw [e]; simp)
  have MD : Hid (StSet ((w.alloc (.cells #[.string s, .bool t1, .int .u64 p1, .int .u64 q1, .bool t2, .int .u64 p2, .int .u64 q2, .bool t3, .int .u64 p3, .int .u64 q3] 118)).alloc (.map #[] 0)) (w.heap.size + 1) []) := Lib.hid (by have h := stSet_made (w.alloc (.cells #[.string s, .bool t1, .int .u64 p1, .int .u64 q1, .bool t2, .int .u64 p2, .int .u64 q2, .bool t3, .int .u64 p3, .int .u64 q3] 118)); rw [show (w.alloc (.cells #[.string s, .bool t1, .int .u64 p1, .int .u64 q1, .bool t2, .int .u64 p2, .int .u64 q2, .bool t3, .int .u64 p3, .int .u64 q3] 118)).heap.size = w.heap.size + 1 by simp] at h; exact h)
  have MB : Hid (Below (w.heap.size + 1) (w.alloc (.cells #[.string s, .bool t1, .int .u64 p1, .int .u64 q1, .bool t2, .int .u64 p2, .int .u64 q2, .bool t3, .int .u64 p3, .int .u64 q3] 118)) ((w.alloc (.cells #[.string s, .bool t1, .int .u64 p1, .int .u64 q1, .bool t2, .int .u64 p2, .int .u64 q2, .bool t3, .int .u64 p3, .int .u64 q3] 118)).alloc (.map #[] 0))) := Lib.hid (by have h := below_new (Below.refl (w.alloc (.cells #[.string s, .bool t1, .int .u64 p1, .int .u64 q1, .bool t2, .int .u64 p2, .int .u64 q2, .bool t3, .int .u64 p3, .int .u64 q3] 118)).heap.size (w.alloc (.cells #[.string s, .bool t1, .int .u64 p1, .int .u64 q1, .bool t2, .int .u64 p2, .int .u64 q2, .bool t3, .int .u64 p3, .int .u64 q3] 118))) (.map #[] 0); rw [show (w.alloc (.cells #[.string s, .bool t1, .int .u64 p1, .int .u64 q1, .bool t2, .int .u64 p2, .int .u64 q2, .bool t3, .int .u64 p3, .int .u64 q3] 118)).heap.size = w.heap.size + 1 by simp] at h; exact h)
  go_region_held3 (fun w' => w'.cell? ⟨w.heap.size, 1, none⟩ = some (.bool t1) ∧ w'.cell? ⟨w.heap.size, 2, none⟩ = some (.int .u64 p1) ∧ w'.cell? ⟨w.heap.size, 3, none⟩ = some (.int .u64 q1) ∧ w'.cell? ⟨w.heap.size, 4, none⟩ = some (.bool t2) ∧ w'.cell? ⟨w.heap.size, 5, none⟩ = some (.int .u64 p2) ∧ w'.cell? ⟨w.heap.size, 6, none⟩ = some (.int .u64 q2) ∧ w'.cell? ⟨w.heap.size, 7, none⟩ = some (.bool t3) ∧ w'.cell? ⟨w.heap.size, 8, none⟩ = some (.int .u64 p3) ∧ w'.cell? ⟨w.heap.size, 9, none⟩ = some (.int .u64 q3))
    (first | exact KE.out _ bb.out | exact KE.out _ MB.out | exact KE.out _ (bdrewF MB.out) | exact KE.out _ (Below.refl _ _) | exact KE.out _ (bdrewF (Below.refl _ _)) | go_keep)
    (first
    | (refine upon_put SS.out (by simp) F1.out ?_; intro w2 hs hg; have bN := Lib.hid (Below.grown bb.out hg (by have h := bb.out.size; simp at h; omega) (fun k hk => by cases hk; simp)); clear SS bb; have SS := Lib.hid hs; have bb := bN; clear hs hg bN)
    | (refine upon_put SS.out (by simp) F2.out ?_; intro w2 hs hg; have bN := Lib.hid (Below.grown bb.out hg (by have h := bb.out.size; simp at h; omega) (fun k hk => by cases hk; simp)); clear SS bb; have SS := Lib.hid hs; have bb := bN; clear hs hg bN)
    | (refine upon_put SS.out (by simp) F3.out ?_; intro w2 hs hg; have bN := Lib.hid (Below.grown bb.out hg (by have h := bb.out.size; simp at h; omega) (fun k hk => by cases hk; simp)); clear SS bb; have SS := Lib.hid hs; have bb := bN; clear hs hg bN)
    | (refine upon_put (stSet_drew MD.out) (by simp) F1.out ?_; intro w2 hs hg; have bb := Lib.hid (Below.grown (B := w.heap.size + 1) (bdrewF MB.out) hg (by simp) (fun k hk => by cases hk; simp)); have SS := Lib.hid hs; clear hs hg)
    | (refine upon_put (stSet_drew MD.out) (by simp) F2.out ?_; intro w2 hs hg; have bb := Lib.hid (Below.grown (B := w.heap.size + 1) (bdrewF MB.out) hg (by simp) (fun k hk => by cases hk; simp)); have SS := Lib.hid hs; clear hs hg)
    | (refine upon_put (stSet_drew MD.out) (by simp) F3.out ?_; intro w2 hs hg; have bb := Lib.hid (Below.grown (B := w.heap.size + 1) (bdrewF MB.out) hg (by simp) (fun k hk => by cases hk; simp)); have SS := Lib.hid hs; clear hs hg))
  all_goals have L := fun ty => SS.out.count ty
  all_goals obtain ⟨n1, n2, n3, n4, n5, n6⟩ := CN.out
  all_goals go_wp2
  all_goals go_returns
  all_goals exact ⟨rfl, (below_new (Below.refl w.heap.size w) _).trans (Below.mono bb.out (by omega))⟩
end Go.Proofs.YtbmjghkdhhcffaaDoor

namespace Go.Proofs.YtbmjghkdhhcffaaDoor
open Go.ChangeShapes Go.WideShapes Go.ChangeAt Go.RowKit

def ftAt (fs : List Ft) (i : Nat) : Ft := fs.getD i ⟨ByteArray.empty, st0, st0, st0⟩
theorem flatF_get : ∀ (fs : List Ft) (i k : Nat), i < fs.length → k < 10 → (flatF fs)[i * 10 + k]? = (flatF [ftAt fs i])[k]?
  | [], i, _, h, _ => absurd h (Nat.not_lt_zero _)
  | f :: fs, 0, k, _, hk => by
    show (flatF ([f] ++ fs))[0 * 10 + k]? = (flatF [f])[k]?
    rw [flatF_app, Nat.zero_mul, Nat.zero_add, List.getElem?_append_left (by rw [flatF_len]; exact hk)]
  | f :: fs, i + 1, k, h, hk => by
    show (flatF ([f] ++ fs))[(i + 1) * 10 + k]? = (flatF [ftAt fs i])[k]?
    rw [flatF_app, List.getElem?_append_right (by rw [flatF_len]; show 10 ≤ _; omega), flatF_len, ← flatF_get fs i k (by simpa using h) hk]
    congr 1
    show (i + 1) * 10 + k - 1 * 10 = i * 10 + k
    omega
/-- The cells of fates. -/
def CellsF (w : World) (a : Option Addr) (fs : List Ft) : Prop := ∀ i, i < fs.length → ∃ b off, a = some ⟨b, off, none⟩ ∧ b < w.heap.size ∧ ∀ k, k < 10 → w.cell? ⟨b, off + i * 10 + k, none⟩ = (flatF [ftAt fs i])[k]?
theorem ownFts_in {B : Nat} {fs : List Ft} {v : Value} {w : World} (h : OwnFts B fs v w) : ∃ a c, v = .slice a fs.length c ∧ CellsF w a fs := by
  have h0 := h
  obtain ⟨_, h2⟩ := h
  rcases h2 with ⟨rfl, hn⟩ | ⟨g, cap, cur, rfl, hb, hg, _⟩
  · exact ⟨none, 0, by rw [hn], fun i hi => by omega⟩
  · exact ⟨_, cap, rfl, fun i hi => ⟨g, 0, rfl, (Array.getElem?_eq_some_iff.1 hg).1, fun k hk => by rw [Nat.zero_add, World.ownsRow.cellAt h0 _ (by omega)]; exact flatF_get fs i k hi hk⟩⟩
theorem cellsF_below {w w' : World} {a : Option Addr} {fs : List Ft} (h : CellsF w a fs) (hb : Below w.heap.size w w') : CellsF w' a fs := fun i hi => by
  obtain ⟨b, off, ha, hlt, hc⟩ := h i hi
  exact ⟨b, off, ha, Nat.lt_of_lt_of_le hlt hb.size, fun k hk => (hb.cell hlt).trans (hc k hk)⟩
/-- Fates that can be. -/
def FtFit (f : Ft) : Prop := StFit f.x ∧ StFit f.y ∧ StFit f.z
/-- The names in conflict among the first n. -/
def cnL (fs : List Ft) : Nat → List ByteArray
  | 0 => []
  | n + 1 => if isC (ftAt fs n).x (ftAt fs n).y (ftAt fs n).z = true then cnL fs n ++ [(ftAt fs n).s] else cnL fs n
theorem cnL_yes {fs : List Ft} {n : Nat} (h : isC (ftAt fs n).x (ftAt fs n).y (ftAt fs n).z = true) : cnL fs (n + 1) = cnL fs n ++ [(ftAt fs n).s] := if_pos h
theorem cnL_no {fs : List Ft} {n : Nat} (h : isC (ftAt fs n).x (ftAt fs n).y (ftAt fs n).z = false) : cnL fs (n + 1) = cnL fs n := if_neg (by rw [h]; simp)
theorem cnL_len (fs : List Ft) : ∀ n, (cnL fs n).length ≤ n
  | 0 => Nat.le_refl _
  | n + 1 => by
    have ih := cnL_len fs n
    cases h : isC (ftAt fs n).x (ftAt fs n).y (ftAt fs n).z
    · rw [cnL_no h]; omega
    · rw [cnL_yes h, List.length_append]; simp; omega
/-- Texts of the call's own. -/
def OwnTx (B : Nat) (zs : List ByteArray) (v : Value) (w : World) : Prop := w.ownsRow B 9 1 v zs.length (zs.map Value.string)
theorem ownTx_nil (B : Nat) (w : World) : OwnTx B [] (.slice none 0 0) w := ⟨rfl, .inl ⟨rfl, rfl⟩⟩
theorem ownTx_lt {B : Nat} {zs : List ByteArray} {v : Value} {w : World} (h : OwnTx B zs v w) : ∀ j, v.ownBlock = some j → B ≤ j := fun j hj => (World.ownsRow.lt h j hj).1
theorem ownTx_kept {B : Nat} {zs : List ByteArray} {v : Value} {w w' : World} (h : OwnTx B zs v w) (hb : Below w.heap.size w w') : OwnTx B zs v w' := ownsRow_below h hb
theorem ownTx_push {B : Nat} {xs : List ByteArray} {y : ByteArray} {v : Value} {w : World} (h : w.ownsRow B 9 1 v (xs.length + 1) (xs.map Value.string ++ [.string y])) : OwnTx B (xs ++ [y]) v w := by
  unfold OwnTx; rw [List.length_append, List.map_append]; exact h
theorem info_tx : (Tryd.prog.info? 9).map (fun i => (i.zero, i.size, i.bytes)) = some (some (.string ⟨#[]⟩), 1, 16) := by kernel_rfl
/-- Texts of the call's own are handed back. -/
def TxR (zs : List ByteArray) (w : World) (e : Ending) (w' : World) : Prop := ∃ v, e = .returned v ∧ OwnTx w.heap.size zs v w' ∧ Below w.heap.size w w'
theorem new1T (w : World) (x0 : Value) (t : TypeId) : ∀ j u, [x0][j]? = some u → (w.alloc (.cells #[x0] t)).cell? ((⟨w.heap.size, 0, none⟩ : Addr).add j) = some u := by
  intro j u h
  match j, h with
  | 0, h => simp at h; subst h; simp [Addr.add]

set_option maxRecDepth 100000 in
set_option maxHeartbeats 3200000 in
theorem iConfs_any (a : Option Addr) (fs : List Ft) (c : Nat) (w : World) (hC : CellsF w a fs) (hF : ∀ i, i < fs.length → FtFit (ftAt fs i)) (hn : fs.length ≤ 1000) :
    Calls Tryd.prog 69 #[.slice a fs.length c] w (TxR (cnL fs fs.length) w) := by
  obtain ⟨i0, hi, hz0, hz1, hz2⟩ := info_parts info_tx
  have CC := Lib.hid hC
  have FF := Lib.hid hF
  clear hC hF
  go_enter Tryd.func69, Tryd.ntmps69
  go_wp2
  go_loopw [3, 8] (fun v i wr => ∃ j : Nat, j ≤ fs.length ∧ i = .int .i64 (j : Int) ∧ OwnTx w.heap.size (cnL fs j) v wr ∧ Below w.heap.size w wr) (fun _ i _ => fs.length - (intOf i).toNat)
  case atStart => exact ⟨0, Nat.zero_le _, rfl, ownTx_nil _ _, Below.refl _ _⟩
  case round =>
    obtain ⟨j, hj, rfl, hO, hB⟩ := hrel
    have OO := Lib.hid hO
    have BB := Lib.hid hB
    clear hO
    by_cases hjl : j < fs.length
    · have hd : decide ((j : Int) < (fs.length : Int)) = true := by simpa using hjl
      obtain ⟨b1, o1, rfl, hb1, hc⟩ := CC.out j hjl
      obtain ⟨f1, f2, f3⟩ := FF.out j hjl
      have i1 : (0 : Int) ≤ (j : Int) := by omega
      have i2 : (j : Int) < (fs.length : Int) := by omega
      have ln := cnL_len fs j
      have y1 := hB.size
      have dd : ∀ k, k < 10 → wr.cell? ⟨b1, o1 + j * 10 + k, none⟩ = (flatF [ftAt fs j])[k]? := fun k hk => (hB.cell hb1).trans (hc k hk)
      have NY := Lib.hid (fun h => cnL_yes (fs := fs) (n := j) h)
      have NN := Lib.hid (fun h => cnL_no (fs := fs) (n := j) h)
      clear hc hB
      generalize cnL fs j = ns at *
      generalize ftAt fs j = f at *
      obtain ⟨s, ⟨t1, p1, q1⟩, ⟨t2, p2, q2⟩, ⟨t3, p3, q3⟩⟩ := f
      have e0 := dd 0 (by omega)
      have e1 := dd 1 (by omega)
      have e2 := dd 2 (by omega)
      have e3 := dd 3 (by omega)
      have e4 := dd 4 (by omega)
      have e5 := dd 5 (by omega)
      have e6 := dd 6 (by omega)
      have e7 := dd 7 (by omega)
      have e8 := dd 8 (by omega)
      have e9 := dd 9 (by omega)
      simp only [flatF, List.getElem?_cons_zero, List.getElem?_cons_succ, Nat.add_zero] at e0 e1 e2 e3 e4 e5 e6 e7 e8 e9
      simp only at f1 f2 f3 NY NN
      have K := Lib.hid fun W => iConf_any s t1 t2 t3 p1 q1 p2 q2 p3 q3 f1 f2 f3 W
      clear dd f1 f2 f3
      cases hk : isC ⟨t1, p1, q1⟩ ⟨t2, p2, q2⟩ ⟨t3, p3, q3⟩
      · have NX := Lib.hid (NN.out hk)
        rw [hk] at K
        clear hk NY NN
        go_wp2_with (go_at_call 113; refine (K.out _).mono ?_; rintro e w5 ⟨rfl, hB5⟩; have B5 := Lib.hid hB5; clear hB5)
        have BX := Lib.hid ((below_new (Below.refl wr.heap.size wr) (.cells #[.string s, .bool t1, .int .u64 p1, .int .u64 q1, .bool t2, .int .u64 p2, .int .u64 q2, .bool t3, .int .u64 p3, .int .u64 q3] 118)).trans (B5.out.mono (by simp)))
        exact ⟨⟨j + 1, hjl, by rw [Int.natCast_succ], by rw [NX.out]; exact ownTx_kept OO.out BX.out, BB.out.trans (Below.mono BX.out y1)⟩, by (simp [intOf]) <;> omega⟩
      · have NX := Lib.hid (NY.out hk)
        rw [hk] at K
        clear hk NY NN
        go_wp2_with (first
          | (go_at_call 113; refine (K.out _).mono ?_; rintro e w5 ⟨rfl, hB5⟩; have B5 := Lib.hid hB5; have BX := Lib.hid ((below_new (Below.refl wr.heap.size wr) (.cells #[.string s, .bool t1, .int .u64 p1, .int .u64 q1, .bool t2, .int .u64 p2, .int .u64 q2, .bool t3, .int .u64 p3, .int .u64 q3] 118)).trans (hB5.mono (by simp))); have c0 : w5.cell? ⟨wr.heap.size, 0, none⟩ = some (.string s) := (hB5.cell (p := ⟨wr.heap.size, 0, none⟩) (by simp)).trans (by simp); have z5 : wr.heap.size < w5.heap.size := (by have h := hB5.size; simp at h; omega); clear hB5)
          | (at_builtin; refine wpList_append_lies _ rfl _ _ 61 rfl w.heap.size 9 i0 (.string ⟨#[]⟩) 1 16 Tryd.underlying61 hi hz0 hz1 hz2 rfl (by decide) _ _ _ rfl (World.ownsRow.alloc (ownTx_kept OO.out BX.out) _) ⟨w5.heap.size, 0, none⟩ 1 1 [.string s] rfl rfl (new1T _ _ _) (fun x hx => by simp at hx; subst hx; rfl) (by omega) (by unfold maxLen; omega) (by omega) (by simp; omega) _ rfl ?_; intro gg cap2 w8 hown hgrow _ _; have P := Lib.hid (ownTx_push hown); have G := Lib.hid hgrow; clear hown hgrow))
        exact ⟨⟨j + 1, hjl, by rw [Int.natCast_succ], by rw [NX.out]; exact P.out, Below.grown (below_new (BB.out.trans (Below.mono BX.out y1)) _) G.out (by simp; omega) (fun k hk => ownTx_lt OO.out k hk)⟩, by (simp [intOf]) <;> omega⟩
    · have e : j = fs.length := by omega
      subst e
      have hd : decide ((fs.length : Int) < (fs.length : Int)) = false := by simp
      clear hB
      go_wp2
      go_ret
      exact ⟨_, rfl, OO.out, BB.out⟩
end Go.Proofs.YtbmjghkdhhcffaaDoor

namespace Go.Proofs.YtbmjghkdhhcffaaDoor
open Go.ChangeShapes Go.WideShapes Go.ChangeAt Go.RowKit

/-- Three boxes of the call's own. -/
def A3 (w : World) (o p q : Obj) (W : World) : Prop := W.heap[w.heap.size]? = some o ∧ W.heap[w.heap.size + 1]? = some p ∧ W.heap[w.heap.size + 2]? = some q ∧ Below w.heap.size w W
theorem A3.mk (w : World) (o p q : Obj) : A3 w o p q (((w.alloc o).alloc p).alloc q) := by
  have h := wblock_three w o p q
  exact ⟨h.1, h.2.1, h.2.2, below_new (below_new (below_new (Below.refl _ _) _) _) _⟩
theorem A3.ab {w W W' : World} {o p q : Obj} (h : A3 w o p q W) (k : Ab W W') : A3 w o p q W' := ⟨k.block h.1, k.block h.2.1, k.block h.2.2.1, h.2.2.2.trans (Below.mono k h.2.2.2.size)⟩

theorem eq_mask8 (a b c d : Int) (w : World) : (Op.equalIn 9999 39 (.agg #[.int .u64 a, .int .u64 b]) (.agg #[.int .u64 c, .int .u64 d])).run Tryd.prog w = .ok (a == c && b == d) w := by
  have u3 := Tryd.underlying34
  have a3 := Tryd.isAgg34
  have z3 := Tryd.sizeOf34
  rw [show (9999 : Nat) = 9998 + 1 from rfl, Op.equalIn]
  simp only [Sem.run_bind, run_underlying Tryd.underlying39, Result.andThen_ok]
  simp only [Std.Legacy.Range.forIn_eq_forIn_range', Std.Legacy.Range.size, Nat.sub_zero, Nat.add_sub_cancel, Nat.div_one, List.range'_succ, List.range'_zero, List.forIn_cons, List.forIn_nil]
  go_simp
  by_cases h1 : a = c <;> by_cases h2 : b = d <;> simp [h1, h2]
theorem eq_state (t u : Bool) (a b c d : Int) (w : World) : (Op.equalIn 10000 116 (.agg #[.bool t, .int .u64 a, .int .u64 b]) (.agg #[.bool u, .int .u64 c, .int .u64 d])).run Tryd.prog w = .ok (t == u && (a == c && b == d)) w := by
  have us := Tryd.underlying4
  have ag := Tryd.isAgg4
  have zs := Tryd.sizeOf4
  have am := Tryd.isAgg39
  have zm := Tryd.sizeOf39
  have em := eq_mask8
  have hS : Tryd.prog.underlying 116 = some (.struct (Tryd.prog.fieldsOf 116)) := by kernel_rfl
  rw [show (10000 : Nat) = 9999 + 1 from rfl, run_equalIn_struct w 9999 116 _ _ hS (by kernel_rfl)]
  simp only [Program.fieldsOf, Tryd.underlying116]
  go_simp
  cases t <;> cases u <;> by_cases h1 : a = c <;> by_cases h2 : b = d <;> simp [h1, h2]


end Go.Proofs.YtbmjghkdhhcffaaDoor

namespace Go.Proofs.YtbmjghkdhhcffaaDoor
open Go.ChangeShapes Go.WideShapes Go.ChangeAt Go.RowKit
namespace D2

/-- Operations each of which has a value that hangs on no world. -/
def pqsA (P : Program) (K : Act → Prop) : List Oper → Act → Prop
  | [], a => K a
  | o :: l, a => o.guard = none ∧ ∃ v, PQ P o a v ∧ pqsA P K l (a.put o.dst v)
theorem pqs_monoA {P : Program} {K K' : Act → Prop} (hK : ∀ a, K a → K' a) : ∀ (l : List Oper) (a : Act), pqsA P K l a → pqsA P K' l a
  | [], a, h => hK a h
  | _ :: l, _, ⟨hg, v, hv, h⟩ => ⟨hg, v, hv, pqs_monoA hK l _ h⟩
theorem lexD_pqsA {P : Program} {ops : Array Oper} {W : World} {G X : Type} {I : G → World → Prop} {early : G → Prop} {kind : Nat → Kd} {late : Nat → Bool} {Ok : Nat → X → Prop} {val : Nat → X → Value} {upd : Nat → G → X → G} {le : G → G → Prop} {Q : Act → G → Prop} {g : G} {rest : List Oper} : ∀ (l : List Oper) (k : Nat) (a : Act), (∀ j, j < l.length → l[j]? = ops[k + j]? ∧ kind (k + j) = .pure) →
    pqsA P (fun a => lexD P ops W I early kind late Ok val upd le Q rest (k + l.length) a g) l a → lexD P ops W I early kind late Ok val upd le Q (l ++ rest) k a g
  | [], k, _, _, h => h
  | o :: l, k, a, hl, h => by
    have h0 : ops[k]? = some o := by simpa using (hl 0 (by simp)).1.symm
    have hpk : kind k = .pure := by simpa using (hl 0 (by simp)).2
    obtain ⟨hg, v, hv, hr⟩ := h
    show dOp P ops W I early kind late Ok val upd le k (lexD P ops W I early kind late Ok val upd le Q (l ++ rest) (k + 1)) a g
    refine dOp_of h0 (O := One v g) ?_ ?_
    · unfold Fam2; rw [if_pos (by simp [Region.wanted, hg])]; exact .inl ⟨hpk, v, hv, rfl⟩
    · rintro v' g' ⟨rfl, rfl⟩
      refine lexD_pqsA l (k + 1) _ (fun j hj => by have := hl (j + 1) (by simp; omega); simpa [Nat.add_assoc, Nat.add_comm 1 j] using this) ?_
      exact pqs_monoA (fun a h => by simpa [Nat.add_assoc, Nat.add_comm 1] using h) l _ hr

structure Ga (X Y : Type) where
  c : Option X
  u : Option Y
  al : Option Nat
  full : Option Y
def GaI {X Y : Type} (W : World) (JC : X → World → Prop) (JU : Y → World → Prop) (Z : Obj) (Z' : Y → Obj) (g : Ga X Y) (w : World) : Prop :=
  Ab W w ∧ (∀ x, g.c = some x → JC x w) ∧ (∀ y, g.u = some y → JU y w) ∧ (∀ b, g.al = some b → W.heap.size ≤ b ∧ w.heap[b]? = some (match g.full with | none => Z | some y => Z' y))
def gaUpd {X Y : Type} (iC iU iA : Nat) (i : Nat) (g : Ga X Y) (x : X ⊕ Y ⊕ Nat) : Ga X Y :=
  if i = iC then (match x, g.c with | .inl a, none => { g with c := some a } | _, _ => g)
  else if i = iU then (match x, g.u with | .inr (.inl y), none => { g with u := some y } | _, _ => g)
  else if i = iA then (match x, g.al, g.full with | .inr (.inr b), none, none => { g with al := some b } | _, _, _ => g)
  else g
def gaOk {X Y : Type} (W : World) (iC iU iA : Nat) (i : Nat) (x : X ⊕ Y ⊕ Nat) : Prop := (i = iC → ∃ a, x = .inl a) ∧ (i = iU → ∃ y, x = .inr (.inl y)) ∧ (i = iA → ∃ b, x = .inr (.inr b) ∧ W.heap.size ≤ b)
def gaVal {X Y : Type} (vC : X → Value) (vU : Y → Value) (_ : Nat) : X ⊕ Y ⊕ Nat → Value
  | .inl a => vC a
  | .inr (.inl y) => vU y
  | .inr (.inr b) => .pointer (some ⟨b, 0, none⟩)
def gaKind (iC iU iA : Nat) (i : Nat) : Kd := if i = iC then .free else if i = iU then .aft else if i = iA then .free else if i = iA + 1 then .loud else if iU < i then .pure else .basic
def gaLe {X Y : Type} (g g' : Ga X Y) : Prop := ∀ x, g.c = some x → g'.c = some x

theorem gaUpd_C {X Y : Type} {iC iU iA : Nat} (_h1 : iC < iU) (_h2 : iU < iA) (g : Ga X Y) (x : X ⊕ Y ⊕ Nat) : gaUpd iC iU iA iC g x = (match x, g.c with | .inl a, none => { g with c := some a } | _, _ => g) := by unfold gaUpd; rw [if_pos rfl]
theorem gaUpd_U {X Y : Type} {iC iU iA : Nat} (h1 : iC < iU) (_h2 : iU < iA) (g : Ga X Y) (x : X ⊕ Y ⊕ Nat) : gaUpd iC iU iA iU g x = (match x, g.u with | .inr (.inl y), none => { g with u := some y } | _, _ => g) := by unfold gaUpd; rw [if_neg (by omega), if_pos rfl]
theorem gaUpd_A {X Y : Type} {iC iU iA : Nat} (h1 : iC < iU) (h2 : iU < iA) (g : Ga X Y) (x : X ⊕ Y ⊕ Nat) : gaUpd iC iU iA iA g x = (match x, g.al, g.full with | .inr (.inr b), none, none => { g with al := some b } | _, _, _ => g) := by unfold gaUpd; rw [if_neg (by omega), if_neg (by omega), if_pos rfl]
theorem gaKind_free {iC iU iA i : Nat} (h : gaKind iC iU iA i = .free) : i = iC ∨ i = iA := by
  unfold gaKind at h
  repeat (split at h; · first | exact .inl ‹_› | exact .inr ‹_› | cases h)
  cases h
theorem gaKind_aft {iC iU iA i : Nat} (h : gaKind iC iU iA i = .aft) : i = iU := by
  unfold gaKind at h
  repeat (split at h; · first | assumption | cases h)
  cases h

theorem ga_ok {X Y : Type} {W : World} {JC : X → World → Prop} {JU : Y → World → Prop} {Z : Obj} {Z' : Y → Obj} {iC iU iA : Nat} (h1 : iC < iU) (h2 : iU < iA) : GhostOk (GaI W JC JU Z Z') (fun _ => True) (gaKind iC iU iA) (gaUpd iC iU iA) gaLe where
  refl := fun _ _ h => h
  trans := fun _ _ _ h k x hx => k x (h x hx)
  up := fun i g x hk y hy => by
    rcases gaKind_free hk with rfl | rfl
    · rw [gaUpd_C h1 h2]; rcases g with ⟨_ | _, _, _, _⟩ <;> rcases x with a | a | a <;> simp_all
    · rw [gaUpd_A h1 h2]; rcases g with ⟨_, _, _ | _, _ | _⟩ <;> rcases x with a | a | a <;> simp_all
  early := fun _ _ _ _ _ => trivial
  more := fun i g x w hk h => by
    obtain ⟨k1, k2, k3, k4⟩ := h
    rcases gaKind_free hk with rfl | rfl
    · rw [gaUpd_C h1 h2] at k2 k3 k4
      rcases g with ⟨_ | _, _, _, _⟩ <;> rcases x with a | a | a <;> exact ⟨k1, fun y hy => (by first | exact k2 y hy | cases hy), k3, k4⟩
    · rw [gaUpd_A h1 h2] at k2 k3 k4
      rcases g with ⟨_, _, _ | _, _ | _⟩ <;> rcases x with a | a | a <;> exact ⟨k1, k2, k3, fun b hb => (by first | exact k4 b hb | cases hb)⟩
  comm := fun i j g x y hi hj hij => by
    rcases gaKind_free hj with rfl | rfl
    · rcases hi with hi | hi
      · rcases gaKind_free hi with rfl | rfl
        · exact absurd rfl hij
        · rw [gaUpd_A h1 h2, gaUpd_C h1 h2, gaUpd_A h1 h2, gaUpd_C h1 h2]
          rcases g with ⟨_ | _, _, _ | _, _ | _⟩ <;> rcases x with a | a | a <;> rcases y with b | b | b <;> rfl
      · have := gaKind_aft hi; subst this
        rw [gaUpd_U h1 h2, gaUpd_C h1 h2, gaUpd_U h1 h2, gaUpd_C h1 h2]
        rcases g with ⟨_ | _, _ | _, _, _⟩ <;> rcases x with a | a | a <;> rcases y with b | b | b <;> rfl
    · rcases hi with hi | hi
      · rcases gaKind_free hi with rfl | rfl
        · rw [gaUpd_A h1 h2, gaUpd_C h1 h2, gaUpd_A h1 h2, gaUpd_C h1 h2]
          rcases g with ⟨_ | _, _, _ | _, _ | _⟩ <;> rcases x with a | a | a <;> rcases y with b | b | b <;> rfl
        · exact absurd rfl hij
      · have := gaKind_aft hi; subst this
        rw [gaUpd_U h1 h2, gaUpd_A h1 h2, gaUpd_U h1 h2, gaUpd_A h1 h2]
        rcases g with ⟨_, _ | _, _ | _, _ | _⟩ <;> rcases x with a | a | a <;> rcases y with b | b | b <;> rfl

theorem gaI_on {X Y : Type} {W : World} {JC : X → World → Prop} {JU : Y → World → Prop} (hC : ∀ x w w', JC x w → Ab w w' → JC x w') (hU : ∀ y w w', JU y w → Ab w w' → JU y w') {Z : Obj} {Z' : Y → Obj} {g : Ga X Y} {w w' : World} (h : GaI W JC JU Z Z' g w) (k : Ab w w') : GaI W JC JU Z Z' g w' :=
  ⟨h.1.trans k, fun x hx => hC x w w' (h.2.1 x hx) k, fun y hy => hU y w w' (h.2.2.1 y hy) k, fun b hb => ⟨(h.2.2.2 b hb).1, by rw [k.block (h.2.2.2 b hb).2]⟩⟩

theorem wp_region_aft {P : Program} {id : Nat} {Q : Exit → Act → World → Prop} {a : Act} {W : World} {X Y : Type} {l l1 l2 l3 l4 : List Oper} {oC oU oA oS : Oper} (nC nU nA : Nat) (JC : X → World → Prop) (JU : Y → World → Prop)
    (hJC : ∀ x w w', JC x w → Ab w w' → JC x w') (hJU : ∀ y w w', JU y w → Ab w w' → JU y w') (vC : X → Value) (vU : Y → Value) (Z : Obj) (Z' : Y → Obj)
    (hm : P.follows .mixedOrders = true) (hl : l1 ++ oC :: (l2 ++ oU :: (l3 ++ oA :: oS :: l4)) = l) (hn1 : l1.length = nC) (hn2 : l2.length + nC + 1 = nU) (hn3 : l3.length + nU + 1 = nA)
    (hB : Region.lexBD .any l.toArray (gaKind nC nU nA) = true) (hgC : oC.guard = none) (hgU : oU.guard = none) (hgA : oA.guard = none) (hgS : oS.guard = none)
    (hA : ∀ (a : Act) (w' : World), (execOp a.eval oA).run P w' = .ok (.value (.pointer (some ⟨w'.heap.size, 0, none⟩))) (w'.alloc Z)) (x0 : X) (y0 : Y)
    (h : ∀ w1, Ab W w1 → wpQuiet P l.toArray (fun w' => ∃ p : Regrown, w' = bw w1 p) (fun a1 =>
      (∀ w, Ab W w → Yld P (fun v w' => ∃ x, v = vC x ∧ Ab w w' ∧ JC x w') w ((execOp a1.eval oC).run P w)) ∧
      ∀ x, ∀ w2, Ab W w2 → wpQuiet P l.toArray (fun w' => ∃ p : Regrown, w' = bw w2 p) (fun a2 =>
        (∀ w, Ab W w → JC x w → Yld P (fun v w' => ∃ y, v = vU y ∧ Ab w w' ∧ JU y w') w ((execOp a2.eval oU).run P w)) ∧
        ∀ y, pqsA P (fun a3 => ∀ b, W.heap.size ≤ b →
          (∀ w3, Ab W w3 → JU y w3 → w3.heap[b]? = some Z → ∃ w4, (execOp (a3.put oA.dst (.pointer (some ⟨b, 0, none⟩))).eval oS).run P w3 = .ok .skip w4 ∧ Ab W w4 ∧ JU y w4 ∧ w4.heap[b]? = some (Z' y)) ∧
          pqsA P (fun a4 => ∀ w6, Ab W w6 → JU y w6 → w6.heap[b]? = some (Z' y) → Q .normal a4 w6) l4 ((a3.put oA.dst (.pointer (some ⟨b, 0, none⟩))).put oS.dst undef)) l3 (a2.put oU.dst (vU y))) l2 (a1.put oC.dst (vC x))) l1 a) :
    (Code.region id l.toArray true).wp P Q a W := by
  obtain ⟨ops, hops⟩ : ∃ ops, ops = l.toArray := ⟨_, rfl⟩
  rw [← hops] at hB h ⊢
  have hget : ∀ j, l[j]? = ops[j]? := fun j => by rw [hops, List.getElem?_toArray]
  have hlen : ops.size = (l1 ++ oC :: (l2 ++ oU :: (l3 ++ oA :: oS :: l4))).length := by rw [hops, List.size_toArray, hl]
  simp only [Region.lexBD, Bool.and_eq_true] at hB
  have want : ∀ (o : Oper), o.guard = none → ∀ a : Act, Region.wanted o (yielded ops a.tmps) = true := fun o ho a => by simp [Region.wanted, ho]
  have at1 : ∀ j, j < l1.length → l1[j]? = ops[0 + j]? := fun j hj => by rw [← hget, Nat.zero_add, ← hl, List.getElem?_append_left hj]
  have at2 : ∀ j, (oC :: (l2 ++ oU :: (l3 ++ oA :: oS :: l4)))[j]? = ops[nC + j]? := fun j => by
    rw [← hget, ← hl, List.getElem?_append_right (by omega), hn1, Nat.add_sub_cancel_left]
  have gC : ops[nC]? = some oC := by have := at2 0; simpa using this.symm
  have at3 : ∀ j, (l2 ++ oU :: (l3 ++ oA :: oS :: l4))[j]? = ops[nC + 1 + j]? := fun j => by
    have := at2 (j + 1); simpa [Nat.add_assoc, Nat.add_comm 1 j] using this
  have at4 : ∀ j, (oU :: (l3 ++ oA :: oS :: l4))[j]? = ops[nU + j]? := fun j => by
    have := at3 (l2.length + j)
    rw [List.getElem?_append_right (by omega), Nat.add_sub_cancel_left, show nC + 1 + (l2.length + j) = nU + j from by omega] at this
    exact this
  have gU : ops[nU]? = some oU := by have := at4 0; simpa using this.symm
  have at5 : ∀ j, (l3 ++ oA :: oS :: l4)[j]? = ops[nU + 1 + j]? := fun j => by
    have := at4 (j + 1); simpa [Nat.add_assoc, Nat.add_comm 1 j] using this
  have at6 : ∀ j, (oA :: oS :: l4)[j]? = ops[nA + j]? := fun j => by
    have := at5 (l3.length + j)
    rw [List.getElem?_append_right (by omega), Nat.add_sub_cancel_left, show nU + 1 + (l3.length + j) = nA + j from by omega] at this
    exact this
  have gA : ops[nA]? = some oA := by have := at6 0; simpa using this.symm
  have gS : ops[nA + 1]? = some oS := by have := at6 1; simpa using this.symm
  have k1 : ∀ j, j < l1.length → l1[j]? = ops[0 + j]? ∧ gaKind nC nU nA (0 + j) = .basic := fun j hj => by
    refine ⟨at1 j hj, ?_⟩
    unfold gaKind
    rw [if_neg (by omega), if_neg (by omega), if_neg (by omega), if_neg (by omega), if_neg (by omega)]
  have k2 : ∀ j, j < l2.length → l2[j]? = ops[nC + 1 + j]? ∧ gaKind nC nU nA (nC + 1 + j) = .basic := fun j hj => by
    refine ⟨?_, ?_⟩
    · have := at3 j; rw [List.getElem?_append_left hj] at this; exact this
    · unfold gaKind
      rw [if_neg (by omega), if_neg (by omega), if_neg (by omega), if_neg (by omega), if_neg (by omega)]
  have k3 : ∀ j, j < l3.length → l3[j]? = ops[nU + 1 + j]? ∧ gaKind nC nU nA (nU + 1 + j) = .pure := fun j hj => by
    refine ⟨?_, ?_⟩
    · have := at5 j; rw [List.getElem?_append_left hj] at this; exact this
    · unfold gaKind
      rw [if_neg (by omega), if_neg (by omega), if_neg (by omega), if_neg (by omega), if_pos (by omega)]
  have k4 : ∀ j, j < l4.length → l4[j]? = ops[nA + 1 + 1 + j]? ∧ gaKind nC nU nA (nA + 1 + 1 + j) = .pure := fun j hj => by
    refine ⟨?_, ?_⟩
    · have := at6 (j + 2); simpa [Nat.add_assoc, Nat.add_comm 2 j] using this
    · unfold gaKind
      rw [if_neg (by omega), if_neg (by omega), if_neg (by omega), if_neg (by omega), if_pos (by omega)]
  have base : Ab W { W with drawn := W.drawn + 1 } := ⟨rfl, rfl, rfl, Nat.le_refl _, fun _ _ => rfl⟩
  have hlt1 : nC < nU := by omega
  have hlt2 : nU < nA := by omega
  have hG := ga_ok (W := W) (JC := JC) (JU := JU) (Z := Z) (Z' := Z') hlt1 hlt2
  refine wp_region_any hm (wpAny_of_drift hG.refl (W := W) (I := GaI W JC JU Z Z') (early := fun _ => True) (kind := gaKind nC nU nA) (late := fun _ => false) (Ok := gaOk W nC nU nA) (val := gaVal vC vU) (upd := gaUpd nC nU nA)
    (Q := fun a' g => ∃ b y, g.al = some b ∧ g.u = some y ∧ g.full = some y ∧ ∀ w6, Ab W w6 → JU y w6 → w6.heap[b]? = some (Z' y) → Q .normal a' w6) (fun g w _ h => h.1) (fun g w w' _ h k => gaI_on hJC hJU h k) ?_ _ _ _ ⟨none, none, none, none⟩ _ ⟨base, fun x hx => (by cases hx), fun x hx => (by cases hx), fun b hb => (by cases hb)⟩ ?_)
  · rintro a' g w' hI ⟨b, y, hb, hu, hf, hQ⟩
    have := (hI.2.2.2 b hb).2
    rw [hf] at this
    exact hQ w' hI.1 (hI.2.2.1 y hu) this
  · rw [hlen]
    refine wpAnyD_lex hG hB.1 (fun _ _ _ _ _ _ _ => .inl rfl) _ 0 _ _ _ (by rw [← hlen]; exact closed_start) (fun j => by rw [hl, hget, Nat.zero_add]) (by rw [← hlen]; exact hB.2) ?_
    refine lexD_quiet (kind := gaKind nC nU nA) trivial .basic (.inl ⟨rfl, Ab W, fun _ => Iff.rfl⟩) (Ab W) (.inl ⟨rfl, fun _ h => h⟩) (fun w w' h k => Ab.trans h k) W (Ab.refl W) (fun _ h => h) l1 0 a k1 (fun a1 h1 => ?_) h
    rw [Nat.zero_add, hn1]
    -- the call that makes memory
    refine dOp_of gC (O := FO (gaOk W nC nU nA) (gaVal vC vU) (gaUpd nC nU nA) nC ⟨none, none, none, none⟩) ?_ ?_
    · unfold Fam2; rw [if_pos (want oC hgC _)]
      refine .inr (.inr (.inr (.inr (.inl ⟨by unfold gaKind; rw [if_pos rfl], trivial, fun g' _ => ⟨⟨_, _, .inl x0, ⟨fun _ => ⟨_, rfl⟩, fun e => absurd e (by omega), fun e => absurd e (by omega)⟩, rfl, rfl⟩, fun w hw => ?_⟩, rfl⟩))))
      refine Yld.mono ?_ (h1.1 w hw.1)
      rintro v w' ⟨x, rfl, hab, hj⟩
      refine ⟨_, ⟨.inl x, ⟨fun _ => ⟨_, rfl⟩, fun e => absurd e (by omega), fun e => absurd e (by omega)⟩, rfl, rfl⟩, ?_⟩
      have hw' := gaI_on hJC hJU hw hab
      rw [gaUpd_C hlt1 hlt2]
      rcases g' with ⟨_ | c, u, al, f⟩
      · exact ⟨hw'.1, fun q hq => (by cases hq; exact hj), hw'.2.2.1, hw'.2.2.2⟩
      · exact hw'
    · rintro v g' ⟨xx, hok, rfl, rfl⟩
      obtain ⟨x, rfl⟩ := hok.1 rfl
      rw [gaUpd_C hlt1 hlt2]
      refine lexD_quiet (kind := gaKind nC nU nA) trivial .basic (.inl ⟨rfl, Ab W, fun _ => Iff.rfl⟩) (Ab W) (.inl ⟨rfl, fun _ h => h⟩) (fun w w' h k => Ab.trans h k) W (Ab.refl W) (fun _ h => h) l2 (nC + 1) _ k2 (fun a2 h2 => ?_) (h1.2 x)
      rw [show nC + 1 + l2.length = nU from by omega]
      -- the call that takes it
      refine dOp_of gU (O := FO (gaOk W nC nU nA) (gaVal vC vU) (gaUpd nC nU nA) nU ⟨some x, none, none, none⟩) ?_ ?_
      · unfold Fam2; rw [if_pos (want oU hgU _)]
        refine .inr (.inr (.inr (.inr (.inr ⟨by unfold gaKind; rw [if_neg (by omega), if_pos rfl], trivial, fun g' hle _ => ⟨⟨_, _, .inr (.inl y0), ⟨fun e => absurd e (by omega), fun _ => ⟨_, rfl⟩, fun e => absurd e (by omega)⟩, rfl, rfl⟩, fun w hw => ?_⟩, rfl⟩))))
        refine Yld.mono ?_ (h2.1 w hw.1 (hw.2.1 x (hle x rfl)))
        rintro v w' ⟨y, rfl, hab, hj⟩
        refine ⟨_, ⟨.inr (.inl y), ⟨fun e => absurd e (by omega), fun _ => ⟨_, rfl⟩, fun e => absurd e (by omega)⟩, rfl, rfl⟩, ?_⟩
        have hw' := gaI_on hJC hJU hw hab
        rw [gaUpd_U hlt1 hlt2]
        rcases g' with ⟨c, _ | u, al, f⟩
        · exact ⟨hw'.1, hw'.2.1, fun q hq => (by cases hq; exact hj), hw'.2.2.2⟩
        · exact hw'
      · rintro v g' ⟨xx, hok, rfl, rfl⟩
        obtain ⟨y, rfl⟩ := hok.2.1 rfl
        rw [gaUpd_U hlt1 hlt2]
        refine lexD_pqsA l3 (nU + 1) _ k3 ?_
        refine pqs_monoA (fun a3 h3 => ?_) l3 _ (h2.2 y)
        rw [show nU + 1 + l3.length = nA from by omega]
        -- the variable
        refine dOp_of gA (O := FO (gaOk W nC nU nA) (gaVal vC vU) (gaUpd nC nU nA) nA ⟨some x, some y, none, none⟩) ?_ ?_
        · unfold Fam2; rw [if_pos (want oA hgA _)]
          refine .inr (.inr (.inr (.inr (.inl ⟨by unfold gaKind; rw [if_neg (by omega), if_neg (by omega), if_pos rfl], trivial, fun g' _ => ⟨⟨_, _, .inr (.inr W.heap.size), ⟨fun e => absurd e (by omega), fun e => absurd e (by omega), fun _ => ⟨_, rfl, Nat.le_refl _⟩⟩, rfl, rfl⟩, fun w hw => ?_⟩, rfl⟩))))
          rw [hA a3 w]
          refine ⟨_, ⟨.inr (.inr w.heap.size), ⟨fun e => absurd e (by omega), fun e => absurd e (by omega), fun _ => ⟨_, rfl, Below.size hw.1⟩⟩, rfl, rfl⟩, ?_⟩
          have hab : Ab w (w.alloc Z) := ⟨rfl, rfl, rfl, by show w.heap.size ≤ (w.heap.push Z).size; simp, fun k hk => Below.heap_alloc _ _ _ hk⟩
          have hw' := gaI_on hJC hJU hw hab
          rw [gaUpd_A hlt1 hlt2]
          rcases g' with ⟨c, u, _ | q, _ | f⟩
          · exact ⟨hw'.1, hw'.2.1, hw'.2.2.1, fun b hb => (by cases hb; exact ⟨Below.size hw.1, block_alloc w Z⟩)⟩
          · exact hw'
          · exact hw'
          · exact hw'
        · rintro v g' ⟨xx, hok, rfl, rfl⟩
          obtain ⟨b, rfl, hb⟩ := hok.2.2 rfl
          rw [gaUpd_A hlt1 hlt2]
          obtain ⟨hS, hQ⟩ := h3 b hb
          refine dOp_of gS (O := fun v g' => v = undef ∧ g' = ⟨none, some y, some b, some y⟩) ?_ ?_
          · unfold Fam2; rw [if_pos (want oS hgS _)]
            refine .inr (.inr (.inr (.inl ⟨by unfold gaKind; rw [if_neg (by omega), if_neg (by omega), if_neg (by omega), if_pos rfl], trivial, ⟨⟨_, _, rfl, rfl⟩, fun w hw => ?_⟩, fun _ _ _ _ => trivial⟩)))
            obtain ⟨w4, hr, h4, h5, h6⟩ := hS w hw.1 (hw.2.2.1 y rfl) (hw.2.2.2 b rfl).2
            have hr2 : (execOp (a3.put oA.dst (gaVal vC vU nA (.inr (.inr b)))).eval oS).run P w = .ok .skip w4 := hr
            rw [hr2]
            exact ⟨_, ⟨rfl, rfl⟩, h4, fun y hy => (by cases hy), fun y' hy' => (by cases hy'; exact h5), fun b' hb' => (by cases hb'; exact ⟨hb, h6⟩)⟩
          · rintro v g' ⟨rfl, rfl⟩
            have := lexD_pqsA (P := P) (ops := ops) (W := W) (I := GaI W JC JU Z Z') (early := fun _ => True) (kind := gaKind nC nU nA) (late := fun _ => false) (Ok := gaOk W nC nU nA) (val := gaVal vC vU) (upd := gaUpd nC nU nA) (le := gaLe) (Q := fun a' g => ∃ b y, g.al = some b ∧ g.u = some y ∧ g.full = some y ∧ ∀ w6, Ab W w6 → JU y w6 → w6.heap[b]? = some (Z' y) → Q .normal a' w6) (g := ⟨none, some y, some b, some y⟩) (rest := []) l4 (nA + 1 + 1) _ k4 (pqs_monoA (fun a' hq => ⟨b, y, rfl, rfl, rfl, hq⟩) l4 _ hQ)
            rw [List.append_nil] at this
            exact this

/-- The same, the region written out, its operations told by their numbers. -/
theorem wp_region_aft_at {P : Program} {id : Nat} {Q : Exit → Act → World → Prop} {a : Act} {W : World} {X Y : Type} {l : List Oper} {oC oU oA oS : Oper} (nC m1 m2 : Nat) (JC : X → World → Prop) (JU : Y → World → Prop)
    (hJC : ∀ x w w', JC x w → Ab w w' → JC x w') (hJU : ∀ y w w', JU y w → Ab w w' → JU y w') (vC : X → Value) (vU : Y → Value) (Z : Obj) (Z' : Y → Obj)
    (hm : P.follows .mixedOrders = true) (hl : l.take nC ++ oC :: ((l.drop (nC + 1)).take m1 ++ oU :: ((l.drop (nC + 1 + m1 + 1)).take m2 ++ oA :: oS :: l.drop (nC + 1 + m1 + 1 + m2 + 2))) = l) (hn1 : (l.take nC).length = nC) (hn2 : ((l.drop (nC + 1)).take m1).length = m1) (hn3 : ((l.drop (nC + 1 + m1 + 1)).take m2).length = m2)
    (hB : Region.lexBD .any l.toArray (gaKind nC (nC + 1 + m1) (nC + 1 + m1 + 1 + m2)) = true) (hgC : oC.guard = none) (hgU : oU.guard = none) (hgA : oA.guard = none) (hgS : oS.guard = none)
    (hA : ∀ (a : Act) (w' : World), (execOp a.eval oA).run P w' = .ok (.value (.pointer (some ⟨w'.heap.size, 0, none⟩))) (w'.alloc Z)) (x0 : X) (y0 : Y)
    (h : ∀ w1, Ab W w1 → wpQuiet P l.toArray (fun w' => ∃ p : Regrown, w' = bw w1 p) (fun a1 =>
      (∀ w, Ab W w → Yld P (fun v w' => ∃ x, v = vC x ∧ Ab w w' ∧ JC x w') w ((execOp a1.eval oC).run P w)) ∧
      ∀ x, ∀ w2, Ab W w2 → wpQuiet P l.toArray (fun w' => ∃ p : Regrown, w' = bw w2 p) (fun a2 =>
        (∀ w, Ab W w → JC x w → Yld P (fun v w' => ∃ y, v = vU y ∧ Ab w w' ∧ JU y w') w ((execOp a2.eval oU).run P w)) ∧
        ∀ y, pqsA P (fun a3 => ∀ b, W.heap.size ≤ b →
          (∀ w3, Ab W w3 → JU y w3 → w3.heap[b]? = some Z → ∃ w4, (execOp (a3.put oA.dst (.pointer (some ⟨b, 0, none⟩))).eval oS).run P w3 = .ok .skip w4 ∧ Ab W w4 ∧ JU y w4 ∧ w4.heap[b]? = some (Z' y)) ∧
          pqsA P (fun a4 => ∀ w6, Ab W w6 → JU y w6 → w6.heap[b]? = some (Z' y) → Q .normal a4 w6) (l.drop (nC + 1 + m1 + 1 + m2 + 2)) ((a3.put oA.dst (.pointer (some ⟨b, 0, none⟩))).put oS.dst undef)) ((l.drop (nC + 1 + m1 + 1)).take m2) (a2.put oU.dst (vU y))) ((l.drop (nC + 1)).take m1) (a1.put oC.dst (vC x))) (l.take nC) a) :
    (Code.region id l.toArray true).wp P Q a W :=
  wp_region_aft nC (nC + 1 + m1) (nC + 1 + m1 + 1 + m2) JC JU hJC hJU vC vU Z Z' hm hl hn1 (by rw [hn2]; omega) (by rw [hn3]; omega) hB hgC hgU hgA hgS hA x0 y0 h
end D2
end Go.Proofs.YtbmjghkdhhcffaaDoor

namespace Go.Proofs.YtbmjghkdhhcffaaDoor
open Go.ChangeShapes Go.WideShapes Go.ChangeAt Go.RowKit

theorem below_drewS {B : Nat} {w W : World} (h : Below B w W) : Below B w W.drew := ⟨h.os, h.tape, h.output, h.size, h.block⟩
/-- A state of a name, asked of the map. -/
theorem st_lookS {w : World} {b : Nat} {cs : List Cd} (h : StsO w b cs) {s : ByteArray} (hs : s.size ≤ maxLen) : (Instr.lookup 122 (.map (some b)) (.string s) false).run Tryd.prog w = .ok (stV (stOf cs s)) w := by
  obtain ⟨v, ps, hr, hv⟩ := Go.World.ownsMap.lookup h (Maps.string_keyed Tryd.underlying9) Tryd.underlying122 (zero_state w) (stR_of st0) (show keyOf Tryd.prog 9 (.string s) = some (kS s) from Go.WideMaps.keyOf_string_mk Tryd.underlying9 hs)
  rw [dSt_at] at hv
  obtain rfl := stR_inv hv
  exact hr
/-- A step, and what refuses one. -/
def spV (n m : St) : Value := .agg #[.bool n.t, .int .u64 n.a, .int .u64 n.b, .bool m.t, .int .u64 m.a, .int .u64 m.b]
def misV (x : Ed) : Value := .iface 128 (edV x)
def ovV (n : Int) : Value := .iface 121 (.int .i64 n)
/-- What stepOf answers to an edit that a full deck does not refuse. -/
def stepR (z : Bool) (x : Ed) (n m : St) : Value := if z then .tuple #[spV n m, .nilIface] else .tuple #[spV st0 st0, misV x]






end Go.Proofs.YtbmjghkdhhcffaaDoor

namespace Go.Proofs.YtbmjghkdhhcffaaDoor
open Go.ChangeShapes Go.WideShapes Go.ChangeAt Go.RowKit

/-- What refuses an edit of a deck. -/
def errV (cs : List Cd) (x : Ed) : Value := if x.k = 1 ∧ cs.length = 80 then ovV 81 else if apF x (stOf cs x.s) then .nilIface else misV x
def stepA (cs : List Cd) (x : Ed) : Value := if x.k = 1 ∧ cs.length = 80 then .tuple #[spV st0 st0, ovV 81] else stepR (apF x (stOf cs x.s)) x (stOf cs x.s) (apS x (stOf cs x.s))
theorem edOk_kindA {x : Ed} (h : edOk x = true) : x.k = 1 ∨ x.k = 2 ∨ x.k = 3 ∨ x.k = 4 := by
  by_cases e : x.k = 1 ∨ x.k = 2 ∨ x.k = 3 ∨ x.k = 4
  · exact e
  · rw [edOk_none e] at h; cases h

theorem iCard_any (t : Bool) (a b : Int) (s : ByteArray) (w : World) :
    Calls Tryd.prog 71 #[.agg #[.bool t, .int .u64 a, .int .u64 b], .string s] w fun e w' => e = .returned (.agg #[.string s, .int .u64 a, .int .u64 b]) ∧ Below w.heap.size w w' := by
  go_enter Tryd.func71, Tryd.ntmps71
  go_wp2
  go_returns
  exact ⟨rfl, (by repeat' (first | (with_reducible exact Below.refl _ _) | (with_reducible assumption) | (with_reducible refine below_drewN ?_ _) | (with_reducible refine Below.drew ?_) | (with_reducible refine below_new ?_ _) | (with_reducible refine below_next ?_ (by with_reducible assumption)) | (with_reducible refine Below.setCell ?_ ?_ _) | go_size))⟩

theorem block_old1 {w : World} {k : Nat} {o : Obj} (h : w.heap[k]? = some o) (p : Obj) : (w.alloc p).heap[k]? = some o := (Below.heap_alloc _ _ _ (lt_of_block h)).trans h
theorem own_pushA {B : Nat} {L : List Cd} {x : Cd} {v : Value} {w : World} (h : w.ownsRow B 69 3 v (L.length + 1) (flatC L ++ [.string x.s, .int .u64 x.a, .int .u64 x.b])) : OwnCards B (L ++ [x]) v w := by
  unfold OwnCards; rw [flatC_app, List.length_append]; exact h
theorem new3A (w : World) (x0 x1 x2 : Value) (t : TypeId) : ∀ j u, [x0, x1, x2][j]? = some u → (w.alloc (.cells #[x0, x1, x2] t)).cell? ((⟨w.heap.size, 0, none⟩ : Addr).add j) = some u := by
  intro j u h
  match j, h with
  | 0, h => simp at h; subst h; simp [Addr.add]
  | 1, h => simp at h; subst h; simp [Addr.add]
  | 2, h => simp at h; subst h; simp [Addr.add]
/-- The answer of afterEdit. -/
def AeR (v : Value) (xs : List Cd) (w : World) (e : Ending) (w' : World) : Prop := ∃ u, e = .returned (.tuple #[u, v]) ∧ OwnCards w.heap.size xs u w' ∧ Below w.heap.size w w'
theorem ownC_nil (w : World) (B : Nat) : OwnCards B [] (.slice none 0 0) w := World.ownsRow_nil w B _ 3


end Go.Proofs.YtbmjghkdhhcffaaDoor

namespace Go.Proofs.YtbmjghkdhhcffaaDoor
open Go.ChangeShapes Go.WideShapes Go.ChangeAt Go.RowKit

/-- What a card in no conflict has become. -/
def outS (x y z : St) : St := if eqSt z x = true then y else z
theorem outS_a {x y z : St} (h : eqSt z x = true) : outS x y z = y := if_pos h
theorem outS_b {x y z : St} (h : eqSt z x = false) : outS x y z = z := if_neg (by rw [h]; simp)

set_option maxRecDepth 100000 in
set_option maxHeartbeats 1600000 in
theorem iOut_any (s : ByteArray) (t1 t2 t3 : Bool) (p1 q1 p2 q2 p3 q3 : Int) (w : World) :
    Calls Tryd.prog 70 #[.agg #[.string s, .bool t1, .int .u64 p1, .int .u64 q1, .bool t2, .int .u64 p2, .int .u64 q2, .bool t3, .int .u64 p3, .int .u64 q3]] w fun e w' => e = .returned (stV (outS ⟨t1, p1, q1⟩ ⟨t2, p2, q2⟩ ⟨t3, p3, q3⟩)) ∧ Below w.heap.size w w' := by
  have eqs := fun W => eq_state t3 t1 p3 q3 p1 q1 W
  cases h : eqSt ⟨t3, p3, q3⟩ ⟨t1, p1, q1⟩
  · rw [outS_b h]
    unfold eqSt at h
    simp only at h
    rw [h] at eqs
    clear h
    unfold stV
    go_enter Tryd.func70, Tryd.ntmps70
    go_wp2
    go_returns
    exact ⟨rfl, (by repeat' (first | (with_reducible exact Below.refl _ _) | (with_reducible assumption) | (with_reducible refine below_drewN ?_ _) | (with_reducible refine Below.drew ?_) | (with_reducible refine below_new ?_ _) | (with_reducible refine below_next ?_ (by with_reducible assumption)) | (with_reducible refine Below.setCell ?_ ?_ _) | go_size))⟩
  · rw [outS_a h]
    unfold eqSt at h
    simp only at h
    rw [h] at eqs
    clear h
    unfold stV
    go_enter Tryd.func70, Tryd.ntmps70
    go_wp2
    go_returns
    exact ⟨rfl, (by repeat' (first | (with_reducible exact Below.refl _ _) | (with_reducible assumption) | (with_reducible refine below_drewN ?_ _) | (with_reducible refine Below.drew ?_) | (with_reducible refine below_new ?_ _) | (with_reducible refine below_next ?_ (by with_reducible assumption)) | (with_reducible refine Below.setCell ?_ ?_ _) | go_size))⟩
end Go.Proofs.YtbmjghkdhhcffaaDoor

namespace Go.Proofs.YtbmjghkdhhcffaaDoor
open Go.ChangeShapes Go.WideShapes Go.ChangeAt Go.RowKit

/-- The cards that the first n fates leave. -/
def mgL (fs : List Ft) : Nat → List Cd
  | 0 => []
  | n + 1 => if (outS (ftAt fs n).x (ftAt fs n).y (ftAt fs n).z).t = true then mgL fs n ++ [⟨(ftAt fs n).s, (outS (ftAt fs n).x (ftAt fs n).y (ftAt fs n).z).a, (outS (ftAt fs n).x (ftAt fs n).y (ftAt fs n).z).b⟩] else mgL fs n
theorem mgL_yes {fs : List Ft} {n : Nat} (h : (outS (ftAt fs n).x (ftAt fs n).y (ftAt fs n).z).t = true) : mgL fs (n + 1) = mgL fs n ++ [⟨(ftAt fs n).s, (outS (ftAt fs n).x (ftAt fs n).y (ftAt fs n).z).a, (outS (ftAt fs n).x (ftAt fs n).y (ftAt fs n).z).b⟩] := if_pos h
theorem mgL_no {fs : List Ft} {n : Nat} (h : (outS (ftAt fs n).x (ftAt fs n).y (ftAt fs n).z).t = false) : mgL fs (n + 1) = mgL fs n := if_neg (by rw [h]; simp)
theorem mgL_len (fs : List Ft) : ∀ n, (mgL fs n).length ≤ n
  | 0 => Nat.le_refl _
  | n + 1 => by
    have ih := mgL_len fs n
    cases h : (outS (ftAt fs n).x (ftAt fs n).y (ftAt fs n).z).t
    · rw [mgL_no h]; omega
    · rw [mgL_yes h, List.length_append]; simp; omega
/-- What merge answers. -/
def MgR (fs : List Ft) (w : World) (e : Ending) (w' : World) : Prop := ∃ v er, e = .returned (.tuple #[v, er]) ∧ Below w.heap.size w w' ∧
  (((cnL fs fs.length).length > 0 ∧ OwnCards w.heap.size [] v w' ∧ ∃ a n c, er = .iface 114 (.slice a n c)) ∨
   ((cnL fs fs.length).length = 0 ∧ (mgL fs fs.length).length > 80 ∧ OwnCards w.heap.size [] v w' ∧ er = .iface 121 (.int .i64 ((mgL fs fs.length).length : Int))) ∨
   ((cnL fs fs.length).length = 0 ∧ (mgL fs fs.length).length ≤ 80 ∧ OwnCards w.heap.size (mgL fs fs.length) v w' ∧ er = .nilIface))
theorem ownTx_form {B : Nat} {zs : List ByteArray} {v : Value} {w : World} (h : OwnTx B zs v w) : ∃ a c, v = .slice a zs.length c := by
  obtain ⟨_, h2⟩ := h
  rcases h2 with ⟨rfl, hn⟩ | ⟨g, cap, cur, rfl, _⟩
  · exact ⟨none, 0, by rw [hn]⟩
  · exact ⟨_, cap, rfl⟩
theorem own_pushM {B : Nat} {xs : List Cd} {s : ByteArray} {a b : Int} {v : Value} {w : World} (h : w.ownsRow B 69 3 v (xs.length + 1) (flatC xs ++ [.string s, .int .u64 a, .int .u64 b])) : OwnCards B (xs ++ [⟨s, a, b⟩]) v w := own_joinA (ys := [⟨s, a, b⟩]) h
theorem new3M (w : World) (x0 x1 x2 : Value) (t : TypeId) : ∀ j u, [x0, x1, x2][j]? = some u → (w.alloc (.cells #[x0, x1, x2] t)).cell? ((⟨w.heap.size, 0, none⟩ : Addr).add j) = some u := by
  intro j u h
  match j, h with
  | 0, h => simp at h; subst h; simp [Addr.add]
  | 1, h => simp at h; subst h; simp [Addr.add]
  | 2, h => simp at h; subst h; simp [Addr.add]

set_option maxRecDepth 100000 in
set_option maxHeartbeats 3200000 in
theorem iMerge_any (a : Option Addr) (fs : List Ft) (c : Nat) (w : World) (hC : CellsF w a fs) (hF : ∀ i, i < fs.length → FtFit (ftAt fs i)) (hn : fs.length ≤ 1000) :
    Calls Tryd.prog 36 #[.slice a fs.length c] w (MgR fs w) := by
  obtain ⟨i0, hi, hz0, hz1, hz2⟩ := info_parts info_card
  have CC := Lib.hid hC
  have K := Lib.hid (iConfs_any a fs c w hC hF hn)
  clear hC hF
  unfold MgR
  by_cases h0 : (cnL fs fs.length).length > 0
  · have d0 : decide ((0 : Int) < ((cnL fs fs.length).length : Int)) = true := by simp; omega
    have H0 := Lib.hid h0
    clear h0
    generalize cnL fs fs.length = ns at *
    go_enter Tryd.func36, Tryd.ntmps36
    go_wp2_with (go_at_call 69; refine K.out.mono ?_; rintro e w1 ⟨v, rfl, hO, hB⟩; obtain ⟨a1, c1, rfl⟩ := ownTx_form hO; have B1 := Lib.hid hB; clear hO hB)
    go_returns
    exact ⟨_, _, rfl, B1.out, .inl ⟨H0.out, ownCards_nil _ _, _, _, _, rfl⟩⟩
  have h0' : (cnL fs fs.length).length = 0 := by omega
  have e0 := List.eq_nil_of_length_eq_zero h0'
  rw [e0] at K ⊢
  clear h0 h0' e0
  go_enter Tryd.func36, Tryd.ntmps36
  go_wp2_with (go_at_call 69; refine K.out.mono ?_; rintro e w1 ⟨v, rfl, hO, hB⟩; obtain ⟨a1, c1, hv1⟩ := ownTx_form hO; rw [List.length_nil] at hv1; subst hv1; have B1 := Lib.hid hB; clear hO hB)
  have x1 := B1.out.size
  go_loopw [5, 18] (fun v i wr => ∃ j : Nat, j ≤ fs.length ∧ i = .int .i64 (j : Int) ∧ OwnCards w.heap.size (mgL fs j) v wr ∧ Below w.heap.size w wr) (fun _ i _ => fs.length - (intOf i).toNat)
  case atStart => exact ⟨0, Nat.zero_le _, rfl, ownCards_nil _ _, B1.out⟩
  case round =>
    obtain ⟨j, hj, rfl, hO, hB⟩ := hrel
    have OO := Lib.hid hO
    have BB := Lib.hid hB
    clear hO
    by_cases hjl : j < fs.length
    · have hd : decide ((j : Int) < (fs.length : Int)) = true := by simpa using hjl
      obtain ⟨b1, o1, rfl, hb1, hc⟩ := CC.out j hjl
      have i1 : (0 : Int) ≤ (j : Int) := by omega
      have i2 : (j : Int) < (fs.length : Int) := by omega
      have ln := mgL_len fs j
      have y1 := hB.size
      have dd : ∀ k, k < 10 → wr.cell? ⟨b1, o1 + j * 10 + k, none⟩ = (flatF [ftAt fs j])[k]? := fun k hk => (hB.cell hb1).trans (hc k hk)
      have NY := Lib.hid (fun h => mgL_yes (fs := fs) (n := j) h)
      have NN := Lib.hid (fun h => mgL_no (fs := fs) (n := j) h)
      clear hc hB
      generalize mgL fs j = ds at *
      generalize ftAt fs j = f at *
      obtain ⟨s, ⟨t1, p1, q1⟩, ⟨t2, p2, q2⟩, ⟨t3, p3, q3⟩⟩ := f
      have e0 := dd 0 (by omega)
      have e1 := dd 1 (by omega)
      have e2 := dd 2 (by omega)
      have e3 := dd 3 (by omega)
      have e4 := dd 4 (by omega)
      have e5 := dd 5 (by omega)
      have e6 := dd 6 (by omega)
      have e7 := dd 7 (by omega)
      have e8 := dd 8 (by omega)
      have e9 := dd 9 (by omega)
      simp only [flatF, List.getElem?_cons_zero, List.getElem?_cons_succ, Nat.add_zero] at e0 e1 e2 e3 e4 e5 e6 e7 e8 e9
      simp only at NY NN
      have K2 := fun W => iOut_any s t1 t2 t3 p1 q1 p2 q2 p3 q3 W
      clear dd
      generalize outS ⟨t1, p1, q1⟩ ⟨t2, p2, q2⟩ ⟨t3, p3, q3⟩ = o at *
      obtain ⟨t, p, q⟩ := o
      unfold stV at K2
      simp only at K2 NY NN
      have K2 := Lib.hid K2
      cases t
      · have NX := Lib.hid (NN.out rfl)
        clear NY NN
        go_wp2_with (go_at_call 70; refine (K2.out _).mono ?_; rintro e w5 ⟨rfl, hB5⟩; have B5 := Lib.hid hB5; clear hB5)
        have BX := Lib.hid (below_new ((below_new (Below.refl wr.heap.size wr) (.cells #[.string s, .bool t1, .int .u64 p1, .int .u64 q1, .bool t2, .int .u64 p2, .int .u64 q2, .bool t3, .int .u64 p3, .int .u64 q3] 118)).trans (B5.out.mono (by simp))) (.cells #[.bool false, .int .u64 p, .int .u64 q] 116))
        exact ⟨⟨j + 1, hjl, by rw [Int.natCast_succ], by rw [NX.out]; exact ownCards_kept OO.out BX.out, BB.out.trans (Below.mono BX.out y1)⟩, by (simp [intOf]) <;> omega⟩
      · have NX := Lib.hid (NY.out rfl)
        have CV := Lib.hid fun W => iCard_any true p q s W
        clear NY NN
        go_wp2_with (first
          | (go_at_call 70; refine (K2.out _).mono ?_; rintro e w5 ⟨rfl, hB5⟩; have BX := Lib.hid (below_new ((below_new (Below.refl wr.heap.size wr) (.cells #[.string s, .bool t1, .int .u64 p1, .int .u64 q1, .bool t2, .int .u64 p2, .int .u64 q2, .bool t3, .int .u64 p3, .int .u64 q3] 118)).trans (hB5.mono (by simp))) (.cells #[.bool true, .int .u64 p, .int .u64 q] 116)); have c0 : w5.cell? ⟨wr.heap.size, 0, none⟩ = some (.string s) := (hB5.cell (p := ⟨wr.heap.size, 0, none⟩) (by simp)).trans (by simp); have z5 : wr.heap.size < w5.heap.size := (by have h := hB5.size; simp at h; omega); clear hB5)
          | (go_at_call 71; refine (CV.out _).mono ?_; rintro e w6 ⟨rfl, hB6⟩; have BY := Lib.hid (BX.out.trans (Below.mono hB6 BX.out.size)); clear hB6)
          | (at_builtin; refine wpList_append_lies _ rfl _ _ 24 rfl w.heap.size 69 i0 (.agg #[.string ByteArray.empty, .int .u64 0, .int .u64 0]) 3 32 Tryd.underlying24 hi hz0 hz1 hz2 rfl (by decide) _ _ _ rfl (World.ownsRow.alloc (ownCards_kept OO.out BY.out) _) ⟨w6.heap.size, 0, none⟩ 1 1 [.string s, .int .u64 p, .int .u64 q] rfl rfl (new3M _ _ _ _ _) (fun x hx => by simp at hx; rcases hx with rfl | rfl | rfl <;> rfl) (by omega) (by unfold maxLen; omega) (by omega) (by have h := BY.out.size; simp; omega) _ rfl ?_; intro gg cap2 w8 hown hgrow _ _; have P := Lib.hid (own_pushM hown); have G := Lib.hid hgrow; clear hown hgrow))
        exact ⟨⟨j + 1, hjl, by rw [Int.natCast_succ], by rw [NX.out]; exact P.out, Below.grown (below_new (BB.out.trans (Below.mono BY.out y1)) _) G.out (by have h := BY.out.size; simp; omega) (fun k hk => ownCards_lt OO.out k hk)⟩, by (simp [intOf]) <;> omega⟩
    · have e : j = fs.length := by omega
      subst e
      have hd : decide ((fs.length : Int) < (fs.length : Int)) = false := by simp
      clear hB
      by_cases h8 : (mgL fs fs.length).length > 80
      · have d8 : decide ((80 : Int) < ((mgL fs fs.length).length : Int)) = true := by simp; omega
        have H8 := Lib.hid h8
        clear h8
        obtain ⟨a8, c8, hv, _⟩ := ownCards_in OO.out
        subst hv
        go_wp2
        go_returns
        exact ⟨_, _, rfl, BB.out, .inr (.inl ⟨trivial, H8.out, ownCards_nil _ _, rfl⟩)⟩
      · have d8 : decide ((80 : Int) < ((mgL fs fs.length).length : Int)) = false := by simp; omega
        have H8 := Lib.hid (Nat.le_of_not_lt h8)
        clear h8
        obtain ⟨a8, c8, hv, _⟩ := ownCards_in OO.out
        subst hv
        go_wp2
        go_returns
        exact ⟨_, _, rfl, BB.out, .inr (.inr ⟨trivial, H8.out, OO.out, rfl⟩)⟩
end Go.Proofs.YtbmjghkdhhcffaaDoor

namespace Go.Proofs.YtbmjghkdhhcffaaDoor
open Go.ChangeShapes Go.WideShapes Go.ChangeAt Go.RowKit

/-- The library's variable 'errorType'. -/
def EtIn (w : World) : Prop := w.cell? ⟨3, 0, none⟩ = some (.iface 210 (.agg #[.pointer (some ⟨10, 73, none⟩)]))
theorem EtIn.below {w W : World} (h : EtIn w) (hb : Below w.heap.size w W) : EtIn W := (hb.cell (p := ⟨3, 0, none⟩) (World.block_lt_of_cell? _ _ h)).trans h
theorem EtIn.three {w : World} (h : EtIn w) (o p q : Obj) : EtIn (((w.alloc o).alloc p).alloc q) := h.below (below_new (below_new (below_new (Below.refl _ _) _) _) _)

set_option maxRecDepth 100000 in
set_option maxHeartbeats 3200000 in
theorem iRefusal_nil (w : World) :
    Calls Tryd.prog 38 #[.nilIface] w fun e w' => e = .returned (.int .i64 0) ∧ Below w.heap.size w w' := by
  go_enter Tryd.func38, Tryd.ntmps38
  go_wp2_with (go_at_call 74; refine (as_nil _ _).mono ?_; rintro e w1 ⟨rfl, rfl⟩)
  go_returns
  exact ⟨rfl, (by repeat' (first | (with_reducible exact Below.refl _ _) | (with_reducible assumption) | (with_reducible refine below_drewN ?_ _) | (with_reducible refine Below.drew ?_) | (with_reducible refine below_new ?_ _) | (with_reducible refine below_next ?_ (by with_reducible assumption)) | (with_reducible refine Below.setCell ?_ ?_ _) | go_size))⟩
set_option maxRecDepth 100000 in
set_option maxHeartbeats 3200000 in
theorem iRefusal_mis (x : Ed) (w : World) (hE : EtIn w) :
    Calls Tryd.prog 38 #[misV x] w fun e w' => e = .returned (.int .i64 4) ∧ Below w.heap.size w w' := by
  obtain ⟨k, s, h, a, b⟩ := x
  have R := Lib.hid (A3.mk w (.cells #[.int .i8 0, .string ⟨#[]⟩, .int .i16 0, .int .u64 0, .int .u64 0] 128) (.cells #[.int .i64 0] 121) (.cells #[.slice none 0 0] 114))
  have H := Lib.hid (as_hitM k s h a b w.heap.size _ _ _ _ _ _ (hE.three _ _ _) R.out.1)
  clear hE
  unfold misV edV
  go_enter Tryd.func38, Tryd.ntmps38
  go_wp2_with (go_at_call 74; refine H.out.mono ?_; rintro e w1 ⟨rfl, hB⟩; have b1 := Lib.hid (R.out.2.2.2.trans hB); clear hB)
  go_returns
  exact ⟨rfl, b1.out⟩
set_option maxRecDepth 100000 in
set_option maxHeartbeats 3200000 in
theorem iRefusal_ov (n : Int) (w : World) (hE : EtIn w) :
    Calls Tryd.prog 38 #[ovV n] w fun e w' => e = .returned (.int .i64 3) ∧ Below w.heap.size w w' := by
  have R := Lib.hid (A3.mk w (.cells #[.int .i8 0, .string ⟨#[]⟩, .int .i16 0, .int .u64 0, .int .u64 0] 128) (.cells #[.int .i64 0] 121) (.cells #[.slice none 0 0] 114))
  have E3 := Lib.hid (hE.three (.cells #[.int .i8 0, .string ⟨#[]⟩, .int .i16 0, .int .u64 0, .int .u64 0] 128) (.cells #[.int .i64 0] 121) (.cells #[.slice none 0 0] 114))
  have M := Lib.hid (as_miss n w.heap.size _ _ E3.out R.out.1)
  clear hE
  generalize hW : (((w.alloc (.cells #[.int .i8 0, .string ⟨#[]⟩, .int .i16 0, .int .u64 0, .int .u64 0] 128)).alloc (.cells #[.int .i64 0] 121)).alloc (.cells #[.slice none 0 0] 114)) = W0 at R E3 M
  unfold ovV
  go_enter Tryd.func38, Tryd.ntmps38
  go_upto_region 4 with fail
  clear hW
  have tok1 : True := trivial
  go_wp2_with (first
    | (go_at_call 74; have _t := tok1; clear _t tok1; refine M.out.mono ?_; rintro e w1 ⟨rfl, hB⟩; have r1 := Lib.hid (R.out.ab hB); have e1 := Lib.hid (E3.out.below hB); clear hB)
    | (go_at_call 74; refine (as_hitO n (w.heap.size + 1) _ _ e1.out r1.out.2.1).mono ?_; rintro e w2 ⟨rfl, hB⟩; have b2 := Lib.hid (r1.out.2.2.2.trans (Below.mono hB (Nat.le_succ _))); clear hB))
  go_returns
  exact ⟨rfl, b2.out⟩
end Go.Proofs.YtbmjghkdhhcffaaDoor

namespace Go.Proofs.YtbmjghkdhhcffaaDoor
open Go.ChangeShapes Go.WideShapes Go.ChangeAt Go.RowKit

set_option maxRecDepth 100000 in
set_option maxHeartbeats 3200000 in
theorem iRefusal_dis (ad : Option Addr) (n c : Nat) (w : World) (hE : EtIn w) :
    Calls Tryd.prog 38 #[.iface 114 (.slice ad n c)] w fun e w' => e = .returned (.int .i64 8) ∧ Below w.heap.size w w' := by
  have R := Lib.hid (A3.mk w (.cells #[.int .i8 0, .string ⟨#[]⟩, .int .i16 0, .int .u64 0, .int .u64 0] 128) (.cells #[.int .i64 0] 121) (.cells #[.slice none 0 0] 114))
  have E3 := Lib.hid (hE.three (.cells #[.int .i8 0, .string ⟨#[]⟩, .int .i16 0, .int .u64 0, .int .u64 0] 128) (.cells #[.int .i64 0] 121) (.cells #[.slice none 0 0] 114))
  have M := Lib.hid (as_missDM ad n c w.heap.size _ _ E3.out R.out.1)
  clear hE
  generalize hW : (((w.alloc (.cells #[.int .i8 0, .string ⟨#[]⟩, .int .i16 0, .int .u64 0, .int .u64 0] 128)).alloc (.cells #[.int .i64 0] 121)).alloc (.cells #[.slice none 0 0] 114)) = W0 at R E3 M
  go_enter Tryd.func38, Tryd.ntmps38
  go_upto_region 4 with fail
  clear hW
  have tok1 : True := trivial
  have tok2 : True := trivial
  go_wp2_with (first
    | (go_at_call 74; have _t := tok1; clear _t tok1; refine M.out.mono ?_; rintro e w1 ⟨rfl, hB⟩; have r1 := Lib.hid (R.out.ab hB); have e1 := Lib.hid (E3.out.below hB); clear hB)
    | (go_at_call 74; have _t := tok2; clear _t tok2; refine (as_missDO ad n c (w.heap.size + 1) _ _ e1.out r1.out.2.1).mono ?_; rintro e w2 ⟨rfl, hB⟩; have r2 := Lib.hid (r1.out.ab hB); have e2 := Lib.hid (e1.out.below hB); clear hB)
    | (go_at_call 74; refine (as_hitD ad n c (w.heap.size + 2) _ _ e2.out r2.out.2.2.1).mono ?_; rintro e w3 ⟨rfl, hB⟩; have b3 := Lib.hid (r2.out.2.2.2.trans (Below.mono hB (by omega))); clear hB))
  go_returns
  exact ⟨rfl, b3.out⟩
end Go.Proofs.YtbmjghkdhhcffaaDoor

namespace Go.Proofs.YtbmjghkdhhcffaaDoor
open Go.ChangeShapes Go.WideShapes Go.ChangeAt Go.RowKit

/-- The first decks are valid. -/
def areTo (ls : List (List Cd)) : Nat → Bool
  | 0 => true
  | n + 1 => areTo ls n && deckOk (csAt ls n)
theorem areTo_no {ls : List (List Cd)} {j : Nat} (h : deckOk (csAt ls j) = false) : ∀ d, areTo ls (j + 1 + d) = false
  | 0 => by show (areTo ls j && deckOk (csAt ls j)) = false; rw [h, Bool.and_false]
  | d + 1 => by show (areTo ls (j + 1 + d) && _) = false; rw [areTo_no h d, Bool.false_and]
theorem areTo_next {ls : List (List Cd)} {j : Nat} (h : areTo ls j = true) (k : deckOk (csAt ls j) = true) : areTo ls (j + 1) = true := by show (areTo ls j && deckOk (csAt ls j)) = true; rw [h, k]; rfl
theorem ret_areE {x y : Bool} (h : x = y) : Ending.returned (.bool y) = Ending.returned (.bool x) := by rw [h]

set_option maxRecDepth 100000 in
set_option maxHeartbeats 1600000 in
theorem iAre_any (al : Option Addr) (ls : List (List Cd)) (cl : Nat) (w : World) (hL : LotC w al ls) (hF : ∀ i, i < ls.length → ∀ k, k < (csAt ls i).length → (cdAt (csAt ls i) k).fits) (hn : ls.length ≤ 3) :
    Calls Tryd.prog 35 #[.slice al ls.length cl] w fun e w' => e = .returned (.bool (areTo ls ls.length)) ∧ Below w.heap.size w w' := by
  have LL := Lib.hid hL
  have FF := Lib.hid hF
  clear hL hF
  go_enter Tryd.func35, Tryd.ntmps35
  go_wp2
  go_loopw [7] (fun i wr => ∃ j : Nat, j ≤ ls.length ∧ i = .int .i64 (j : Int) ∧ areTo ls j = true ∧ Below w.heap.size w wr) (fun i _ => ls.length - (intOf i).toNat)
  case atStart => exact ⟨0, Nat.zero_le _, rfl, rfl, Below.refl _ _⟩
  case round =>
    obtain ⟨j, hj, rfl, hA, hB⟩ := hrel
    have BB := Lib.hid hB
    have AA := Lib.hid hA
    clear hA
    by_cases hjl : j < ls.length
    · have hd : decide ((j : Int) < (ls.length : Int)) = true := by simpa using hjl
      obtain ⟨b1, o1, g, sc, rfl, hb1, p0, p1⟩ := LL.out j hjl
      have d0 := (hB.cell (p := ⟨b1, o1 + j, none⟩) hb1).trans p0
      have i3 : (0 : Int) ≤ (j : Int) := by omega
      have i4 : (j : Int) < (ls.length : Int) := by omega
      have CI := Lib.hid (cardsIn_of (cellsC_below p1 hB) (FF.out j hjl))
      have V := Lib.hid fun W h => iDeckOk_any (some ⟨g, 0, none⟩) (csAt ls j) sc W h
      clear hB p0 p1
      cases hk : deckOk (csAt ls j)
      · have NO := Lib.hid (areTo_no hk (ls.length - (j + 1)))
        rw [show j + 1 + (ls.length - (j + 1)) = ls.length by omega] at NO
        rw [hk] at V
        clear hk
        generalize csAt ls j = xs at *
        go_wp2_with (go_at_call 68; refine (V.out _ CI.out).mono ?_; rintro e w1 ⟨rfl, hB⟩; have B1 := Lib.hid (BB.out.trans (Below.mono hB BB.out.size)); clear hB)
        go_ret
        exact ⟨ret_areE NO.out, B1.out⟩
      · have NX := Lib.hid (areTo_next AA.out hk)
        rw [hk] at V
        clear hk
        generalize csAt ls j = xs at *
        go_wp2_with (go_at_call 68; refine (V.out _ CI.out).mono ?_; rintro e w1 ⟨rfl, hB⟩; have B1 := Lib.hid (BB.out.trans (Below.mono hB BB.out.size)); clear hB)
        exact ⟨⟨j + 1, hjl, by rw [Int.natCast_succ], NX.out, B1.out⟩, by (simp [intOf]) <;> omega⟩
    · obtain rfl : j = ls.length := by omega
      have hd : decide ((ls.length : Int) < (ls.length : Int)) = false := by simp
      clear hB
      go_wp2
      go_ret
      exact ⟨ret_areE AA.out, BB.out⟩
end Go.Proofs.YtbmjghkdhhcffaaDoor

namespace Go.Proofs.YtbmjghkdhhcffaaDoor
open Go.ChangeShapes Go.WideShapes Go.ChangeAt Go.RowKit

/-- The fates of all cards of three decks. -/
def ft3 (ps qs rs : List Cd) : List Ft := ftTo ps qs rs (all3 ps qs rs) (all3 ps qs rs).length
theorem stTo_fit {cs : List Cd} (hf : ∀ i, i < cs.length → (cdAt cs i).fits) (s : ByteArray) : ∀ n, n ≤ cs.length → StFit (stTo cs s n)
  | 0, _ => (show U64 0 ∧ U64 0 from ⟨⟨by decide, by decide⟩, ⟨by decide, by decide⟩⟩)
  | n + 1, hn => by
    unfold stTo
    split
    · exact (hf n (by omega)).2
    · exact stTo_fit hf s n (by omega)
theorem ftTo_fit {ps qs rs : List Cd} (h1 : ∀ i, i < ps.length → (cdAt ps i).fits) (h2 : ∀ i, i < qs.length → (cdAt qs i).fits) (h3 : ∀ i, i < rs.length → (cdAt rs i).fits) (all : List Cd) : ∀ n, ∀ f ∈ ftTo ps qs rs all n, FtFit f
  | 0 => fun f hf => by cases hf
  | n + 1 => fun f hf => by
    have ih := ftTo_fit h1 h2 h3 all n
    cases h : hasN ((ftTo ps qs rs all n).map Ft.s) (cdAt all n).s
    · rw [ftTo_new h] at hf
      rcases List.mem_append.1 hf with e | e
      · exact ih f e
      · simp at e
        subst e
        exact ⟨stTo_fit h1 _ _ (Nat.le_refl _), stTo_fit h2 _ _ (Nat.le_refl _), stTo_fit h3 _ _ (Nat.le_refl _)⟩
    · rw [ftTo_old h] at hf; exact ih f hf
theorem ft3_fit {ps qs rs : List Cd} (h1 : ∀ i, i < ps.length → (cdAt ps i).fits) (h2 : ∀ i, i < qs.length → (cdAt qs i).fits) (h3 : ∀ i, i < rs.length → (cdAt rs i).fits) : ∀ i, i < (ft3 ps qs rs).length → FtFit (ftAt (ft3 ps qs rs) i) := fun i hi => by
  refine ftTo_fit h1 h2 h3 (all3 ps qs rs) (all3 ps qs rs).length _ ?_
  unfold ftAt
  show List.getD (ft3 ps qs rs) i ⟨ByteArray.empty, st0, st0, st0⟩ ∈ ft3 ps qs rs
  rw [List.getD, List.getElem?_eq_getElem hi]
  exact List.getElem_mem hi
theorem ft3_len (ps qs rs : List Cd) : (ft3 ps qs rs).length ≤ ps.length + qs.length + rs.length := by
  have := ftTo_len ps qs rs (all3 ps qs rs) (all3 ps qs rs).length
  have e : (all3 ps qs rs).length = ps.length + qs.length + rs.length := by rw [all3_eq]; simp; omega
  unfold ft3; omega
theorem are3 (ps qs rs : List Cd) : areTo [ps, qs, rs] 3 = (deckOk ps && (deckOk qs && deckOk rs)) := by
  show (((true && deckOk ps) && deckOk qs) && deckOk rs) = _
  rw [Bool.true_and, Bool.and_assoc]
/-- The names in conflict, and the code. -/
def cfL (ps qs rs : List Cd) : List ByteArray := if (deckOk ps && (deckOk qs && deckOk rs)) = true then cnL (ft3 ps qs rs) (ft3 ps qs rs).length else []
def cfC (ps qs rs : List Cd) : Int := if (deckOk ps && (deckOk qs && deckOk rs)) = true then 0 else 1
def CfR (xs : List ByteArray) (k : Int) (w : World) (e : Ending) (w' : World) : Prop := ∃ v, e = .returned (.tuple #[v, .int .i64 k]) ∧ OwnTx w.heap.size xs v w' ∧ Below w.heap.size w w'
theorem fits3 {w : World} {a1 a2 a3 : Option Addr} {ps qs rs : List Cd} (h1 : CardsIn w a1 ps) (h2 : CardsIn w a2 qs) (h3 : CardsIn w a3 rs) : ∀ i, i < [ps, qs, rs].length → ∀ k, k < (csAt [ps, qs, rs] i).length → (cdAt (csAt [ps, qs, rs] i) k).fits := fun i hi => by
  match i, hi with
  | 0, _ => exact fun k hk => (h1 k hk).1
  | 1, _ => exact fun k hk => (h2 k hk).1
  | 2, _ => exact fun k hk => (h3 k hk).1
  | n + 3, h => exact absurd h (by simp)
theorem ownTx_weaken {B B' : Nat} {fs : List ByteArray} {v : Value} {w : World} (h : OwnTx B fs v w) (hb : B' ≤ B) : OwnTx B' fs v w := by
  obtain ⟨h1, h2⟩ := h
  refine ⟨h1, ?_⟩
  rcases h2 with hn | ⟨g, cap, cur, rfl, hB, rest⟩
  · exact .inl hn
  · exact .inr ⟨g, cap, cur, rfl, Nat.le_trans hb hB, rest⟩

end Go.Proofs.YtbmjghkdhhcffaaDoor

namespace Go.Proofs.YtbmjghkdhhcffaaDoor
open Go.ChangeShapes Go.WideShapes Go.ChangeAt Go.RowKit

/-- What becomes of three decks, and the code. -/
def mtL (ps qs rs : List Cd) : List Cd := if (deckOk ps && (deckOk qs && deckOk rs)) = true then (if (cnL (ft3 ps qs rs) (ft3 ps qs rs).length).length > 0 then [] else if (mgL (ft3 ps qs rs) (ft3 ps qs rs).length).length > 80 then [] else mgL (ft3 ps qs rs) (ft3 ps qs rs).length) else []
def mtK (ps qs rs : List Cd) : Int := if (deckOk ps && (deckOk qs && deckOk rs)) = true then (if (cnL (ft3 ps qs rs) (ft3 ps qs rs).length).length > 0 then 8 else if (mgL (ft3 ps qs rs) (ft3 ps qs rs).length).length > 80 then 3 else 0) else 1
def McR (xs : List Cd) (k : Int) (w : World) (e : Ending) (w' : World) : Prop := ∃ v, e = .returned (.tuple #[v, .int .i64 k]) ∧ OwnCards w.heap.size xs v w' ∧ Below w.heap.size w w'
theorem mgL_fit {fs : List Ft} (hs : ∀ i, i < fs.length → (ftAt fs i).s.size ≤ maxLen) (hf : ∀ i, i < fs.length → FtFit (ftAt fs i)) : ∀ n, n ≤ fs.length → ∀ c ∈ mgL fs n, c.fits
  | 0, _ => fun c hc => by cases hc
  | n + 1, hn => fun c hc => by
    have ih := mgL_fit hs hf n (by omega)
    cases h : (outS (ftAt fs n).x (ftAt fs n).y (ftAt fs n).z).t
    · rw [mgL_no h] at hc; exact ih c hc
    · rw [mgL_yes h] at hc
      rcases List.mem_append.1 hc with e | e
      · exact ih c e
      · simp at e
        subst e
        refine ⟨hs n (by omega), ?_⟩
        obtain ⟨f1, f2, f3⟩ := hf n (by omega)
        unfold outS
        split
        · exact f2
        · exact f3
theorem ftTo_size {ps qs rs all : List Cd} (h : ∀ i, i < all.length → (cdAt all i).fits) : ∀ n, n ≤ all.length → ∀ f ∈ ftTo ps qs rs all n, f.s.size ≤ maxLen
  | 0, _ => fun f hf => by cases hf
  | n + 1, hn => fun f hf => by
    have ih := ftTo_size (ps := ps) (qs := qs) (rs := rs) h n (by omega)
    cases e : hasN ((ftTo ps qs rs all n).map Ft.s) (cdAt all n).s
    · rw [ftTo_new e] at hf
      rcases List.mem_append.1 hf with q | q
      · exact ih f q
      · simp at q; subst q; exact (h n (by omega)).1
    · rw [ftTo_old e] at hf; exact ih f hf
theorem ft3_size {ps qs rs : List Cd} (h1 : ∀ i, i < ps.length → (cdAt ps i).fits) (h2 : ∀ i, i < qs.length → (cdAt qs i).fits) (h3 : ∀ i, i < rs.length → (cdAt rs i).fits) : ∀ i, i < (ft3 ps qs rs).length → (ftAt (ft3 ps qs rs) i).s.size ≤ maxLen := fun i hi => by
  refine ftTo_size (ps := ps) (qs := qs) (rs := rs) (all3_fits h1 h2 h3) (all3 ps qs rs).length (Nat.le_refl _) _ ?_
  unfold ftAt
  show List.getD (ft3 ps qs rs) i ⟨ByteArray.empty, st0, st0, st0⟩ ∈ ft3 ps qs rs
  rw [List.getD, List.getElem?_eq_getElem hi]
  exact List.getElem_mem hi
theorem mtL_ok {ps qs rs : List Cd} (h1 : ∀ i, i < ps.length → (cdAt ps i).fits) (h2 : ∀ i, i < qs.length → (cdAt qs i).fits) (h3 : ∀ i, i < rs.length → (cdAt rs i).fits) : (mtL ps qs rs).length ≤ 80 ∧ ∀ i, i < (mtL ps qs rs).length → (cdAt (mtL ps qs rs) i).fits := by
  have key := mgL_fit (ft3_size h1 h2 h3) (ft3_fit h1 h2 h3) (ft3 ps qs rs).length (Nat.le_refl _)
  unfold mtL
  split
  · split
    · exact ⟨Nat.zero_le _, fun i hi => absurd hi (Nat.not_lt_zero _)⟩
    · split
      · exact ⟨Nat.zero_le _, fun i hi => absurd hi (Nat.not_lt_zero _)⟩
      · refine ⟨by omega, fun i hi => key _ ?_⟩
        unfold cdAt
        rw [List.getD, List.getElem?_eq_getElem hi]
        exact List.getElem_mem hi
  · exact ⟨Nat.zero_le _, fun i hi => absurd hi (Nat.not_lt_zero _)⟩
/-! The three ways of merge. -/
theorem mg_dis {fs : List Ft} {w : World} {e : Ending} {w' : World} (h : MgR fs w e w') (hc : (cnL fs fs.length).length > 0) :
    ∃ v a n c, e = .returned (.tuple #[v, .iface 114 (.slice a n c)]) ∧ OwnCards w.heap.size [] v w' ∧ Below w.heap.size w w' := by
  obtain ⟨v, er, he, hB, h⟩ := h
  rcases h with ⟨_, hO, a, n, c, rfl⟩ | ⟨h0, _⟩ | ⟨h0, _⟩
  · exact ⟨v, a, n, c, he, hO, hB⟩
  · omega
  · omega
theorem mg_ov {fs : List Ft} {w : World} {e : Ending} {w' : World} (h : MgR fs w e w') (hc : ¬ (cnL fs fs.length).length > 0) (hm : (mgL fs fs.length).length > 80) :
    ∃ v, e = .returned (.tuple #[v, .iface 121 (.int .i64 ((mgL fs fs.length).length : Int))]) ∧ OwnCards w.heap.size [] v w' ∧ Below w.heap.size w w' := by
  obtain ⟨v, er, he, hB, h⟩ := h
  rcases h with ⟨h0, _⟩ | ⟨_, _, hO, rfl⟩ | ⟨_, h0, _⟩
  · exact absurd h0 hc
  · exact ⟨v, he, hO, hB⟩
  · omega
theorem mg_ok {fs : List Ft} {w : World} {e : Ending} {w' : World} (h : MgR fs w e w') (hc : ¬ (cnL fs fs.length).length > 0) (hm : ¬ (mgL fs fs.length).length > 80) :
    ∃ v, e = .returned (.tuple #[v, .nilIface]) ∧ OwnCards w.heap.size (mgL fs fs.length) v w' ∧ Below w.heap.size w w' := by
  obtain ⟨v, er, he, hB, h⟩ := h
  rcases h with ⟨h0, _⟩ | ⟨_, h0, _⟩ | ⟨_, _, hO, rfl⟩
  · exact absurd h0 hc
  · omega
  · exact ⟨v, he, hO, hB⟩

set_option maxRecDepth 100000 in
set_option maxHeartbeats 3200000 in
theorem iMerge3_any (g1 g2 g3 : Nat) (ps qs rs : List Cd) (c1 c2 c3 : Nat) (w : World) (h1 : CardsIn w (some ⟨g1, 0, none⟩) ps) (h2 : CardsIn w (some ⟨g2, 0, none⟩) qs) (h3 : CardsIn w (some ⟨g3, 0, none⟩) rs) (hE : EtIn w) :
    Calls Tryd.prog 10 #[.slice (some ⟨g1, 0, none⟩) ps.length c1, .slice (some ⟨g2, 0, none⟩) qs.length c2, .slice (some ⟨g3, 0, none⟩) rs.length c3] w (McR (mtL ps qs rs) (mtK ps qs rs) w) := by
  have A := Lib.hid (show Calls Tryd.prog 35 #[.slice (some ⟨w.heap.size, 0, none⟩) 3 3] _ _ from are3 ps qs rs ▸ iAre_any (some ⟨w.heap.size, 0, none⟩) [ps, qs, rs] 3 _ (lot3 (c1 := c1) (c2 := c2) (c3 := c3) rfl (fun i hi => (h1 i hi).2) (fun i hi => (h2 i hi).2) (fun i hi => (h3 i hi).2)) (fits3 h1 h2 h3) (Nat.le_refl 3))
  have FT := Lib.hid (ft3_fit (fun i hi => (h1 i hi).1) (fun i hi => (h2 i hi).1) (fun i hi => (h3 i hi).1))
  have H1 := Lib.hid h1
  have H2 := Lib.hid h2
  have H3 := Lib.hid h3
  have EE := Lib.hid fun (W : World) (hB : Below w.heap.size w W) => hE.below hB
  have b0 := Lib.hid (below_new (Below.refl w.heap.size w) (.cells #[.slice (some ⟨g1, 0, none⟩) ps.length c1, .slice (some ⟨g2, 0, none⟩) qs.length c2, .slice (some ⟨g3, 0, none⟩) rs.length c3] 24))
  clear h1 h2 h3 hE
  unfold mtL mtK
  cases hd : (deckOk ps && (deckOk qs && deckOk rs))
  · rw [hd] at A
    clear hd
    simp only [Bool.false_eq_true, if_false]
    go_enter Tryd.func10, Tryd.ntmps10
    go_wp2_with (go_at_call 35; refine A.out.mono ?_; rintro e w1 ⟨rfl, hB⟩; have B1 := Lib.hid (b0.out.trans (Below.mono hB (by simp))); clear hB)
    go_returns
    exact ⟨_, rfl, ownCards_nil _ _, B1.out⟩
  · have hp := hd
    rw [Bool.and_eq_true, Bool.and_eq_true] at hp
    have l1 := deckOk_80 hp.1
    have l2 := deckOk_80 hp.2.1
    have l3 := deckOk_80 hp.2.2
    have ln := ft3_len ps qs rs
    have FA := Lib.hid fun W a b c => iFates_any g1 g2 g3 ps qs rs c1 c2 c3 W a b c l1 l2 l3
    rw [hd] at A
    clear hd hp
    simp only [if_true]
    have MG := fun a c W h => iMerge_any a (ft3 ps qs rs) c W h FT.out (by omega)
    clear l1 l2 l3 ln
    unfold ft3 at MG FT ⊢
    generalize ftTo ps qs rs (all3 ps qs rs) (all3 ps qs rs).length = fs at *
    by_cases hc : (cnL fs fs.length).length > 0
    · rw [if_pos hc, if_pos hc]
      have M2 := Lib.hid fun a c W h => (MG a c W h).mono fun e w' h => mg_dis h hc
      clear MG hc FT
      generalize cnL fs fs.length = ns at *
      go_enter Tryd.func10, Tryd.ntmps10
      go_wp2_with (first
        | (go_at_call 35; refine A.out.mono ?_; rintro e w1 ⟨rfl, hB⟩; have B1 := Lib.hid (b0.out.trans (Below.mono hB (by simp))); clear hB)
        | (go_at_call 37; refine (FA.out _ (cardsIn_below H1.out B1.out) (cardsIn_below H2.out B1.out) (cardsIn_below H3.out B1.out)).mono ?_; rintro e w2 ⟨v2, rfl, hO, hB⟩; obtain ⟨a2, c4, hv, hi⟩ := ownFts_in hO; subst hv; have I2 := Lib.hid hi; have B2 := Lib.hid (B1.out.trans (Below.mono hB B1.out.size)); clear hO hB hi)
        | (go_at_call 36; refine (M2.out _ _ _ I2.out).mono ?_; rintro e w3 ⟨v3, a, n, c, rfl, hO, hB⟩; obtain ⟨a3, c3, hv, _⟩ := ownCards_in hO; subst hv; have O3 := Lib.hid (ownCards_weaken hO B2.out.size); have B3 := Lib.hid (B2.out.trans (Below.mono hB B2.out.size)); clear hO hB)
        | (go_at_call 38; refine (iRefusal_dis _ _ _ _ (EE.out _ B3.out)).mono ?_; rintro e w4 ⟨rfl, hB⟩; have O4 := Lib.hid (ownCards_kept O3.out hB); have B4 := Lib.hid (B3.out.trans (Below.mono hB B3.out.size)); clear hB))
      go_returns
      exact ⟨_, rfl, O4.out, B4.out⟩
    · rw [if_neg hc, if_neg hc]
      by_cases hm : (mgL fs fs.length).length > 80
      · rw [if_pos hm, if_pos hm]
        have M2 := Lib.hid fun a c W h => (MG a c W h).mono fun e w' h => mg_ov h hc hm
        clear MG hc FT hm
        generalize ((mgL fs fs.length).length : Int) = nn at *
        go_enter Tryd.func10, Tryd.ntmps10
        go_wp2_with (first
          | (go_at_call 35; refine A.out.mono ?_; rintro e w1 ⟨rfl, hB⟩; have B1 := Lib.hid (b0.out.trans (Below.mono hB (by simp))); clear hB)
          | (go_at_call 37; refine (FA.out _ (cardsIn_below H1.out B1.out) (cardsIn_below H2.out B1.out) (cardsIn_below H3.out B1.out)).mono ?_; rintro e w2 ⟨v2, rfl, hO, hB⟩; obtain ⟨a2, c4, hv, hi⟩ := ownFts_in hO; subst hv; have I2 := Lib.hid hi; have B2 := Lib.hid (B1.out.trans (Below.mono hB B1.out.size)); clear hO hB hi)
          | (go_at_call 36; refine (M2.out _ _ _ I2.out).mono ?_; rintro e w3 ⟨v3, rfl, hO, hB⟩; obtain ⟨a3, c3, hv, _⟩ := ownCards_in hO; subst hv; have O3 := Lib.hid (ownCards_weaken hO B2.out.size); have B3 := Lib.hid (B2.out.trans (Below.mono hB B2.out.size)); clear hO hB)
          | (go_at_call 38; refine (iRefusal_ov _ _ (EE.out _ B3.out)).mono ?_; rintro e w4 ⟨rfl, hB⟩; have O4 := Lib.hid (ownCards_kept O3.out hB); have B4 := Lib.hid (B3.out.trans (Below.mono hB B3.out.size)); clear hB))
        go_returns
        exact ⟨_, rfl, O4.out, B4.out⟩
      · rw [if_neg hm, if_neg hm]
        have M2 := Lib.hid fun a c W h => (MG a c W h).mono fun e w' h => mg_ok h hc hm
        clear MG hc FT hm
        generalize mgL fs fs.length = xs at *
        go_enter Tryd.func10, Tryd.ntmps10
        go_wp2_with (first
          | (go_at_call 35; refine A.out.mono ?_; rintro e w1 ⟨rfl, hB⟩; have B1 := Lib.hid (b0.out.trans (Below.mono hB (by simp))); clear hB)
          | (go_at_call 37; refine (FA.out _ (cardsIn_below H1.out B1.out) (cardsIn_below H2.out B1.out) (cardsIn_below H3.out B1.out)).mono ?_; rintro e w2 ⟨v2, rfl, hO, hB⟩; obtain ⟨a2, c4, hv, hi⟩ := ownFts_in hO; subst hv; have I2 := Lib.hid hi; have B2 := Lib.hid (B1.out.trans (Below.mono hB B1.out.size)); clear hO hB hi)
          | (go_at_call 36; refine (M2.out _ _ _ I2.out).mono ?_; rintro e w3 ⟨v3, rfl, hO, hB⟩; obtain ⟨a3, c3, hv, _⟩ := ownCards_in hO; subst hv; have O3 := Lib.hid (ownCards_weaken hO B2.out.size); have B3 := Lib.hid (B2.out.trans (Below.mono hB B2.out.size)); clear hO hB)
          | (go_at_call 38; refine (iRefusal_nil _).mono ?_; rintro e w4 ⟨rfl, hB⟩; have O4 := Lib.hid (ownCards_kept O3.out hB); have B4 := Lib.hid (B3.out.trans (Below.mono hB B3.out.size)); clear hB))
        go_returns
        exact ⟨_, rfl, O4.out, B4.out⟩
end Go.Proofs.YtbmjghkdhhcffaaDoor

namespace Go.Proofs.YtbmjghkdhhcffaaDoor
open Go.ChangeShapes Go.WideShapes Go.ChangeAt Go.RowKit

theorem cnL_filter (fs : List Ft) : ∀ n, n ≤ fs.length → cnL fs n = ((fs.take n).filter fun f => isC f.x f.y f.z).map Ft.s
  | 0, _ => by simp [cnL]
  | n + 1, hn => by
    have e : fs.take (n + 1) = fs.take n ++ [ftAt fs n] := by
      rw [List.take_succ_eq_append_getElem (by omega)]
      congr 2
      unfold ftAt
      rw [List.getD, List.getElem?_eq_getElem (by omega)]
      rfl
    rw [e, List.filter_append, List.map_append, ← cnL_filter fs n (by omega)]
    cases h : isC (ftAt fs n).x (ftAt fs n).y (ftAt fs n).z
    · rw [cnL_no h]; simp [h]
    · rw [cnL_yes h]; simp [h]
/-- The names of the first n cards, each told once. -/
def nmTo (all : List Cd) : Nat → List ByteArray
  | 0 => []
  | n + 1 => if hasN (nmTo all n) (cdAt all n).s = true then nmTo all n else nmTo all n ++ [(cdAt all n).s]
theorem ftTo_map (ps qs rs all : List Cd) : ∀ n, ftTo ps qs rs all n = (nmTo all n).map fun s => ⟨s, stOf ps s, stOf qs s, stOf rs s⟩
  | 0 => rfl
  | n + 1 => by
    have ih := ftTo_map ps qs rs all n
    have e : (ftTo ps qs rs all n).map Ft.s = nmTo all n := by rw [ih, List.map_map]; exact List.map_id _
    cases h : hasN (nmTo all n) (cdAt all n).s
    · rw [ftTo_new (by rw [e]; exact h), ih]
      show _ = List.map _ (if hasN (nmTo all n) (cdAt all n).s = true then nmTo all n else nmTo all n ++ [(cdAt all n).s])
      rw [if_neg (by rw [h]; simp), List.map_append]
      rfl
    · rw [ftTo_old (by rw [e]; exact h), ih]
      show _ = List.map _ (if hasN (nmTo all n) (cdAt all n).s = true then nmTo all n else nmTo all n ++ [(cdAt all n).s])
      rw [if_pos h]
/-- All conflicts of three decks. -/
theorem cnL_all (ps qs rs all : List Cd) (n : Nat) : cnL (ftTo ps qs rs all n) (ftTo ps qs rs all n).length = (nmTo all n).filter fun s => isC (stOf ps s) (stOf qs s) (stOf rs s) := by
  rw [cnL_filter _ _ (Nat.le_refl _), List.take_length, ftTo_map, List.filter_map, List.map_map]
  exact List.map_id _
theorem hasN_app (xs ys : List ByteArray) (s : ByteArray) : hasN (xs ++ ys) s = (hasN xs s || hasN ys s) := by unfold hasN; rw [List.any_append]
theorem nmTo_has {all : List Cd} {i : Nat} : ∀ n, i < n → hasN (nmTo all n) (cdAt all i).s = true
  | 0, h => absurd h (Nat.not_lt_zero _)
  | n + 1, h => by
    unfold nmTo
    split
    · rename_i q
      by_cases e : i = n
      · subst e; exact q
      · exact nmTo_has n (by omega)
    · rw [hasN_app]
      by_cases e : i = n
      · subst e; simp [hasN]
      · rw [nmTo_has n (by omega), Bool.true_or]
theorem nmTo_app (xs ys : List Cd) : ∀ n, n ≤ xs.length → nmTo (xs ++ ys) n = nmTo xs n
  | 0, _ => rfl
  | n + 1, h => by
    have e : cdAt (xs ++ ys) n = cdAt xs n := by unfold cdAt; rw [List.getD, List.getD, List.getElem?_append_left (by omega)]
    unfold nmTo
    rw [e, nmTo_app xs ys n (by omega)]
theorem nmTo_more {xs ys : List Cd} {P : ByteArray → Bool} (hP : ∀ s, (∀ i, i < xs.length → (cdAt xs i).s ≠ s) → P s = false) : ∀ k, (nmTo (xs ++ ys) (xs.length + k)).filter P = (nmTo xs xs.length).filter P
  | 0 => by rw [Nat.add_zero, nmTo_app xs ys _ (Nat.le_refl _)]
  | k + 1 => by
    have ih := nmTo_more hP (ys := ys) k
    rw [← Nat.add_assoc]
    show List.filter P (if hasN (nmTo (xs ++ ys) (xs.length + k)) (cdAt (xs ++ ys) (xs.length + k)).s = true then nmTo (xs ++ ys) (xs.length + k) else nmTo (xs ++ ys) (xs.length + k) ++ [(cdAt (xs ++ ys) (xs.length + k)).s]) = _
    split
    · exact ih
    · rename_i q
      rw [List.filter_append, ih]
      have : P (cdAt (xs ++ ys) (xs.length + k)).s = false := hP _ fun i hi he => q (by
        have e : cdAt (xs ++ ys) i = cdAt xs i := by unfold cdAt; rw [List.getD, List.getD, List.getElem?_append_left (by omega)]
        have h := nmTo_has (all := xs ++ ys) (i := i) (xs.length + k) (by omega)
        rw [e, he] at h
        exact h)
      simp [this]
/-- A card of the third deck alone is in no conflict. -/
theorem cf_two (ps qs rs : List Cd) : (nmTo (ps ++ qs ++ rs) (ps ++ qs ++ rs).length).filter (fun s => isC (stOf ps s) (stOf qs s) (stOf rs s)) = (nmTo (ps ++ qs) (ps ++ qs).length).filter fun s => isC (stOf ps s) (stOf qs s) (stOf rs s) := by
  rw [show (ps ++ qs ++ rs).length = (ps ++ qs).length + rs.length from List.length_append]
  refine nmTo_more (fun s hs => ?_) rs.length
  have h1 : stOf ps s = st0 := st_none _ fun k hk => by
    have h := hs k (by rw [List.length_append]; omega)
    have e : cdAt (ps ++ qs) k = cdAt ps k := by unfold cdAt; rw [List.getD, List.getD, List.getElem?_append_left hk]
    rwa [e] at h
  have h2 : stOf qs s = st0 := st_none _ fun k hk => by
    have h := hs (ps.length + k) (by rw [List.length_append]; omega)
    have e : cdAt (ps ++ qs) (ps.length + k) = cdAt qs k := by unfold cdAt; rw [List.getD, List.getD, List.getElem?_append_right (by omega), Nat.add_sub_cancel_left]
    rwa [e] at h
  show isC (stOf ps s) (stOf qs s) (stOf rs s) = false
  rw [h1, h2]
  unfold isC
  rw [eqSt_iff.2 rfl]
  rfl
end Go.Proofs.YtbmjghkdhhcffaaDoor

namespace Go.Proofs.YtbmjghkdhhcffaaDoor
open Go.ChangeShapes Go.WideShapes Go.ChangeAt Go.RowKit

theorem hasN_one (x s : ByteArray) : hasN [x] s = (x == s) := by rw [bytes_beq]; unfold hasN; simp
/-- One of the first k decks has a card with the name. -/
def inAny (ls : List (List Cd)) (s : ByteArray) : Nat → Bool
  | 0 => false
  | k + 1 => inAny ls s k || decide (0 ≤ findC (csAt ls k) s)
theorem inAny_next (ls : List (List Cd)) (s : ByteArray) (k : Nat) : inAny ls s (k + 1) = (inAny ls s k || decide (0 ≤ findC (csAt ls k) s)) := rfl
theorem cdAt_left {xs ys : List Cd} {i : Nat} (h : i < xs.length) : cdAt (xs ++ ys) i = cdAt xs i := by unfold cdAt; rw [List.getD, List.getD, List.getElem?_append_left h]
theorem cdAt_right {xs ys : List Cd} (i : Nat) : cdAt (xs ++ ys) (xs.length + i) = cdAt ys i := by unfold cdAt; rw [List.getD, List.getD, List.getElem?_append_right (by omega), Nat.add_sub_cancel_left]
theorem cdAt_flatK {ls : List (List Cd)} {d i : Nat} (hi : i < (csAt ls d).length) : ∀ k, cdAt (flatK ls (d + 1 + k)) (nCds ls d + i) = cdAt (csAt ls d) i
  | 0 => by
    show cdAt (flatK ls d ++ csAt ls d) (nCds ls d + i) = _
    rw [← flatK_len ls d, cdAt_right]
  | k + 1 => by
    show cdAt (flatK ls (d + 1 + k) ++ csAt ls (d + 1 + k)) (nCds ls d + i) = _
    rw [cdAt_left, cdAt_flatK hi k]
    rw [flatK_len]
    have h1 := nCds_mono ls (d + 1) k
    have h2 : nCds ls (d + 1) = nCds ls d + (csAt ls d).length := rfl
    omega
theorem cdAt_all {ls : List (List Cd)} {d i : Nat} (hd : d < ls.length) (hi : i < (csAt ls d).length) : cdAt (flatK ls ls.length) (nCds ls d + i) = cdAt (csAt ls d) i := by
  have h := cdAt_flatK hi (ls.length - (d + 1))
  rwa [show d + 1 + (ls.length - (d + 1)) = ls.length by omega] at h
theorem nCds_split (ls : List (List Cd)) : ∀ d m, m < nCds ls d → ∃ e i, e < d ∧ i < (csAt ls e).length ∧ m = nCds ls e + i
  | 0, m, h => absurd h (Nat.not_lt_zero _)
  | d + 1, m, h => by
    by_cases q : m < nCds ls d
    · obtain ⟨e, i, h1, h2, h3⟩ := nCds_split ls d m q
      exact ⟨e, i, by omega, h2, h3⟩
    · have h2 : nCds ls (d + 1) = nCds ls d + (csAt ls d).length := rfl
      exact ⟨d, m - nCds ls d, by omega, by omega, by omega⟩
theorem nmTo_mem {all : List Cd} {s : ByteArray} : ∀ n, hasN (nmTo all n) s = true → ∃ i, i < n ∧ (cdAt all i).s = s
  | 0, h => by simp [nmTo, hasN] at h
  | n + 1, h => by
    unfold nmTo at h
    split at h
    · obtain ⟨i, h1, h2⟩ := nmTo_mem n h
      exact ⟨i, by omega, h2⟩
    · rw [hasN_app, Bool.or_eq_true] at h
      rcases h with h | h
      · obtain ⟨i, h1, h2⟩ := nmTo_mem n h
        exact ⟨i, by omega, h2⟩
      · rw [hasN_one] at h
        exact ⟨n, by omega, bytes_eq h⟩
theorem inAny_iff {ls : List (List Cd)} (ok : ∀ e, e < ls.length → deckOk (csAt ls e) = true) {s : ByteArray} : ∀ k, k ≤ ls.length → (inAny ls s k = true ↔ ∃ e i, e < k ∧ i < (csAt ls e).length ∧ (cdAt (csAt ls e) i).s = s)
  | 0, _ => ⟨(fun h => Bool.noConfusion h), (fun ⟨_, _, h, _⟩ => absurd h (Nat.not_lt_zero _))⟩
  | k + 1, hk => by
    have ih := inAny_iff ok (s := s) k (by omega)
    rw [inAny_next, Bool.or_eq_true, ih, decide_eq_true_eq]
    constructor
    · rintro (⟨e, i, h1, h2, h3⟩ | h)
      · exact ⟨e, i, by omega, h2, h3⟩
      · rcases st_find (ok k (by omega)) s with ⟨e0, _, _⟩ | ⟨i, hi, _, hn, _, _⟩
        · omega
        · exact ⟨k, i, by omega, hi, hn⟩
    · rintro ⟨e, i, h1, h2, h3⟩
      by_cases q : e = k
      · subst q
        right
        rcases st_find (ok e (by omega)) s with ⟨_, _, hn⟩ | ⟨j, hj, e0, _, _, _⟩
        · exact absurd h3 (hn i h2)
        · omega
      · exact .inl ⟨e, i, by omega, h2, h3⟩
/-- A card's name has been told just if an earlier deck has it. -/
theorem told_iff {ls : List (List Cd)} (ok : ∀ e, e < ls.length → deckOk (csAt ls e) = true) {d i : Nat} (hd : d < ls.length) (hi : i < (csAt ls d).length) :
    hasN (nmTo (flatK ls ls.length) (nCds ls d + i)) (cdAt (csAt ls d) i).s = inAny ls (cdAt (csAt ls d) i).s d := by
  rw [Bool.eq_iff_iff, inAny_iff ok d (by omega)]
  constructor
  · intro h
    obtain ⟨m, hm, he⟩ := nmTo_mem _ h
    by_cases q : m < nCds ls d
    · obtain ⟨e, j, h1, h2, rfl⟩ := nCds_split ls d m q
      rw [cdAt_all (by omega) h2] at he
      exact ⟨e, j, h1, h2, he⟩
    · exfalso
      have hj : m - nCds ls d < (csAt ls d).length := by omega
      have e1 := cdAt_all hd hj
      rw [show nCds ls d + (m - nCds ls d) = m by omega] at e1
      rw [e1] at he
      have := deckOk_uniq (ok d hd) hj hi he
      omega
  · rintro ⟨e, j, h1, h2, h3⟩
    have hlt : nCds ls e + j < nCds ls d + i := by
      have h4 := nCds_mono ls (e + 1) (d - (e + 1))
      rw [show e + 1 + (d - (e + 1)) = d by omega] at h4
      have h5 : nCds ls (e + 1) = nCds ls e + (csAt ls e).length := rfl
      omega
    have h := nmTo_has (all := flatK ls ls.length) _ hlt
    rw [cdAt_all (by omega) h2, h3] at h
    exact h
theorem nmTo_next (all : List Cd) (n : Nat) : nmTo all (n + 1) = if hasN (nmTo all n) (cdAt all n).s = true then nmTo all n else nmTo all n ++ [(cdAt all n).s] := rfl
theorem nm_old {ls : List (List Cd)} (ok : ∀ e, e < ls.length → deckOk (csAt ls e) = true) {d i : Nat} (hd : d < ls.length) (hi : i < (csAt ls d).length) (h : inAny ls (cdAt (csAt ls d) i).s d = true) :
    nmTo (flatK ls ls.length) (nCds ls d + (i + 1)) = nmTo (flatK ls ls.length) (nCds ls d + i) := by
  have q := told_iff ok hd hi
  rw [h] at q
  rw [← Nat.add_assoc, nmTo_next, cdAt_all hd hi, if_pos q]
theorem nm_new {ls : List (List Cd)} (ok : ∀ e, e < ls.length → deckOk (csAt ls e) = true) {d i : Nat} (hd : d < ls.length) (hi : i < (csAt ls d).length) (h : inAny ls (cdAt (csAt ls d) i).s d = false) :
    nmTo (flatK ls ls.length) (nCds ls d + (i + 1)) = nmTo (flatK ls ls.length) (nCds ls d + i) ++ [(cdAt (csAt ls d) i).s] := by
  have q := told_iff ok hd hi
  rw [h] at q
  rw [← Nat.add_assoc, nmTo_next, cdAt_all hd hi, if_neg (by rw [q]; simp)]
theorem nmTo_len (all : List Cd) : ∀ n, (nmTo all n).length ≤ n
  | 0 => Nat.le_refl _
  | n + 1 => by
    have ih := nmTo_len all n
    unfold nmTo
    split
    · omega
    · rw [List.length_append]; simp; omega
/-- The names of all decks. -/
def nmL (ls : List (List Cd)) : List ByteArray := nmTo (flatK ls ls.length) (nCds ls ls.length)
theorem nmL_len (ls : List (List Cd)) : (nmL ls).length ≤ nCds ls ls.length := nmTo_len _ _
end Go.Proofs.YtbmjghkdhhcffaaDoor

namespace Go.Proofs.YtbmjghkdhhcffaaDoor
open Go.ChangeShapes Go.WideShapes Go.ChangeAt Go.RowKit

theorem flatT_get (zs : List ByteArray) (i : Nat) (h : i < zs.length) : (zs.map Value.string)[i]? = some (.string (zs.getD i ⟨#[]⟩)) := by
  rw [List.getElem?_map, List.getD, List.getElem?_eq_getElem h]; rfl
theorem ownTx_in {B : Nat} {zs : List ByteArray} {v : Value} {w : World} (h : OwnTx B zs v w) : ∃ a c, v = .slice a zs.length c ∧ StrsIn w a zs := by
  have h0 := h
  obtain ⟨_, h2⟩ := h
  rcases h2 with ⟨rfl, hn⟩ | ⟨g, cap, cur, rfl, hb, hg, _⟩
  · exact ⟨none, 0, by rw [hn], fun i hi => by omega⟩
  · exact ⟨_, cap, rfl, fun i hi => ⟨g, 0, rfl, (Array.getElem?_eq_some_iff.1 hg).1, by rw [Nat.zero_add]; have := World.ownsRow.cellAt h0 i (by omega); rw [this]; exact flatT_get zs i hi⟩⟩
theorem ownTx_weak {B B' : Nat} {zs : List ByteArray} {v : Value} {w : World} (h : OwnTx B zs v w) (hb : B' ≤ B) : OwnTx B' zs v w := by
  obtain ⟨h1, h2⟩ := h
  refine ⟨h1, ?_⟩
  rcases h2 with hn | ⟨g, cap, cur, rfl, hB, rest⟩
  · exact .inl hn
  · exact .inr ⟨g, cap, cur, rfl, Nat.le_trans hb hB, rest⟩
theorem ownTx_oth {B g : Nat} {zs : List ByteArray} {v : Value} {w w' : World} (h : OwnTx B zs v w) (hb : Oth g w w') (hg : g < B) : OwnTx B zs v w' := by
  obtain ⟨h1, h2⟩ := h
  refine ⟨h1, ?_⟩
  rcases h2 with hn | ⟨b, cap, cur, rfl, hB, hh, rest⟩
  · exact .inl hn
  · exact .inr ⟨b, cap, cur, rfl, hB, (hb.block b (by omega) (Array.getElem?_eq_some_iff.1 hh).1).trans hh, rest⟩
/-- The first j texts are marked, from k on. -/
def MarkedT (k j : Nat) (zs : List ByteArray) : Prop := ∀ l, l < j → zs.getD l ⟨#[]⟩ = mtext (k + l)
theorem markedT_next {k j : Nat} {zs : List ByteArray} (h : MarkedT k j zs) (hj : j < zs.length) : MarkedT k (j + 1) (zs.set j (mtext (k + j))) := by
  intro l hl
  rw [List.getD, List.getElem?_set]
  by_cases e : j = l
  · subst e; simp [hj]
  · rw [if_neg e]; exact h l (by omega)


end Go.Proofs.YtbmjghkdhhcffaaDoor

namespace Go.Proofs.YtbmjghkdhhcffaaDoor
open Go.ChangeShapes Go.WideShapes Go.ChangeAt Go.RowKit

/-- The names that are told ahead of card i of deck d. -/
def nmD (ls : List (List Cd)) (d i : Nat) : List ByteArray := nmTo (flatK ls ls.length) (nCds ls d + i)
theorem nmD_zero (ls : List (List Cd)) : nmD ls 0 0 = [] := rfl
theorem nmD_next (ls : List (List Cd)) (d : Nat) : nmD ls (d + 1) 0 = nmD ls d (csAt ls d).length := rfl
theorem nmD_len (ls : List (List Cd)) (d i : Nat) : (nmD ls d i).length ≤ nCds ls d + i := nmTo_len _ _
theorem nmD_old {ls : List (List Cd)} (ok : ∀ e, e < ls.length → deckOk (csAt ls e) = true) {d i : Nat} (hd : d < ls.length) (hi : i < (csAt ls d).length) (h : inAny ls (cdAt (csAt ls d) i).s d = true) : nmD ls d (i + 1) = nmD ls d i := nm_old ok hd hi h
theorem nmD_new {ls : List (List Cd)} (ok : ∀ e, e < ls.length → deckOk (csAt ls e) = true) {d i : Nat} (hd : d < ls.length) (hi : i < (csAt ls d).length) (h : inAny ls (cdAt (csAt ls d) i).s d = false) : nmD ls d (i + 1) = nmD ls d i ++ [(cdAt (csAt ls d) i).s] := nm_new ok hd hi h
theorem ownTx_made {w : World} {m B : Nat} (hn : m = w.heap.size) (hB : B ≤ w.heap.size) : OwnTx B [] (.slice (some ⟨m, 0, none⟩) 0 0) (w.alloc (.cells #[] 9)) := by
  subst hn; exact World.ownsRow_made w #[] 0 hB (Nat.zero_le _) rfl
theorem nCds_80 {ls : List (List Cd)} (ok : ∀ e, e < ls.length → deckOk (csAt ls e) = true) : ∀ k, k ≤ ls.length → nCds ls k ≤ 80 * k
  | 0, _ => Nat.le_refl _
  | k + 1, h => by
    have ih := nCds_80 ok k (by omega)
    have h2 := deckOk_80 (ok k (by omega))
    show nCds ls k + (csAt ls k).length ≤ _
    omega

set_option maxRecDepth 100000 in
set_option maxHeartbeats 3200000 in
theorem sNames_any (al : Option Addr) (ls : List (List Cd)) (cl : Nat) (w : World) (hL : LotC w al ls) (hF : ∀ i, i < ls.length → ∀ k, k < (csAt ls i).length → (cdAt (csAt ls i) k).fits) (ok : ∀ e, e < ls.length → deckOk (csAt ls e) = true) (hn : ls.length ≤ 3) :
    Calls Tryd.prog 32 #[.slice al ls.length cl] w (TxR (nmD ls ls.length 0) w) := by
  obtain ⟨i0, hi, hz0, hz1, hz2⟩ := info_parts info_tx
  have LL := Lib.hid hL
  have FF := Lib.hid hF
  have OK := Lib.hid ok
  have N80 := Lib.hid (nCds_80 ok)
  have NO := Lib.hid fun d i hd hi h => nmD_old ok (d := d) (i := i) hd hi h
  have NN := Lib.hid fun d i hd hi h => nmD_new ok (d := d) (i := i) hd hi h
  have B0 := Lib.hid (below_new (Below.refl w.heap.size w) (.cells #[] 9))
  have M0 := Lib.hid (ownTx_made (w := w) rfl (Nat.le_refl _))
  clear hL hF ok
  go_enter Tryd.func32, Tryd.ntmps32
  go_wp2
  go_loopw [3, 4] (fun v i wr => ∃ d : Nat, d ≤ ls.length ∧ i = .int .i64 (d : Int) ∧ OwnTx w.heap.size (nmD ls d 0) v wr ∧ Below w.heap.size w wr) (fun _ i _ => ls.length - (intOf i).toNat)
  case atStart => exact ⟨0, Nat.zero_le _, rfl, M0.out, B0.out⟩
  case round =>
    obtain ⟨d, hd, rfl, hO, hB⟩ := hrel
    have OO := Lib.hid hO
    have BB := Lib.hid hB
    clear hO
    by_cases hdl : d < ls.length
    · have hd1 : decide ((d : Int) < (ls.length : Int)) = true := by simpa using hdl
      obtain ⟨b1, o1, g, sc, rfl, hb1, p0, p1⟩ := LL.out d hdl
      have P0 := Lib.hid p0
      have P1 := Lib.hid p1
      have i3 : (0 : Int) ≤ (d : Int) := by omega
      have i4 : (d : Int) < (ls.length : Int) := by omega
      have n80 := N80.out d hd
      have m80 := deckOk_80 (OK.out d hdl)
      have ND := Lib.hid (nmD_next ls d)
      generalize wr = W2 at *
      clear hB p0 p1
      go_wp2_with fail
      go_loopw [3, 5] (fun v i wr => ∃ j : Nat, j ≤ (csAt ls d).length ∧ i = .int .i64 (j : Int) ∧ OwnTx w.heap.size (nmD ls d j) v wr ∧ Below w.heap.size w wr) (fun _ i _ => (csAt ls d).length - (intOf i).toNat)
      case atStart => exact ⟨0, Nat.zero_le _, rfl, OO.out, BB.out⟩
      case round =>
        obtain ⟨j, hj, rfl, hO, hB⟩ := hrel
        have O3 := Lib.hid hO
        have B3 := Lib.hid hB
        have d0 := (hB.cell (p := ⟨b1, o1 + d, none⟩) hb1).trans P0.out
        have y1 : b1 < wr.heap.size := Nat.lt_of_lt_of_le hb1 hB.size
        clear hO
        by_cases hjl : j < (csAt ls d).length
        · have hd2 : decide ((j : Int) < ((csAt ls d).length : Int)) = true := by simpa using hjl
          have i5 : (0 : Int) ≤ (j : Int) := by omega
          have i6 : (j : Int) < ((csAt ls d).length : Int) := by omega
          have NO1 := Lib.hid fun h => NO.out d j hdl hjl h
          have NN1 := Lib.hid fun h => NN.out d j hdl hjl h
          have nl := nmD_len ls d j
          obtain ⟨b2, o2, hg, hb2, q0, _, _⟩ := P1.out j hjl
          cases hg
          rw [Nat.zero_add] at q0
          have Q0 := Lib.hid q0
          generalize nmD ls d j = ns at *
          generalize (cdAt (csAt ls d) j).s = s at *
          generalize (csAt ls d).length = m at *
          generalize wr = W3 at *
          clear hB q0
          go_wp2_with fail
          clear d0 y1
          go_loopw [6, 7] (fun o i wr => ∃ k : Nat, k ≤ d ∧ i = .int .i64 (k : Int) ∧ o = .bool (inAny ls s k) ∧ Below W3.heap.size W3 wr) (fun _ i _ => d - (intOf i).toNat)
          case atStart => exact ⟨0, Nat.zero_le _, rfl, rfl, Below.refl _ _⟩
          case round =>
            obtain ⟨k, hk, rfl, rfl, hB⟩ := hrel
            have B4 := Lib.hid (B3.out.trans (Below.mono hB B3.out.size))
            have B5 := Lib.hid hB
            clear hB
            have d0 := (B4.out.cell (p := ⟨b1, o1 + d, none⟩) hb1).trans P0.out
            have y1 : b1 < wr.heap.size := Nat.lt_of_lt_of_le hb1 B4.out.size
            have d2 := (B4.out.cell (p := ⟨g, j * 3, none⟩) hb2).trans Q0.out
            have y2 : g < wr.heap.size := Nat.lt_of_lt_of_le hb2 B4.out.size
            by_cases hkl : k < d
            · have hd3 : decide ((k : Int) < (d : Int)) = true := by simpa using hkl
              have hkl2 : k < ls.length := by omega
              obtain ⟨b3, o3, g3, sc3, he, hb3, r0, r1⟩ := LL.out k hkl2
              cases he
              have d3 := (B4.out.cell (p := ⟨b1, o1 + k, none⟩) hb1).trans r0
              have i7 : (0 : Int) ≤ (k : Int) := by omega
              have i8 : (k : Int) < (ls.length : Int) := by omega
              have CI := Lib.hid (cardsIn_of (cellsC_below r1 B4.out) (FF.out k hkl2))
              have F := fun W h => sFind_any (some ⟨g3, 0, none⟩) (csAt ls k) sc3 s W h (deckOk_80 (OK.out k hkl2))
              have NX := Lib.hid (inAny_next ls s k)
              clear r0 r1
              have hbw := cell_bw
              cases hold : inAny ls s k
              · rw [hold, Bool.false_or] at NX
                generalize findC (csAt ls k) s = x at *
                generalize csAt ls k = cs at *
                have F := Lib.hid F
                clear hold
                by_cases hx : 0 ≤ x
                · have dx2 : decide ((0 : Int) ≤ x) = true := by simpa using hx
                  have NE := Lib.hid (NX.out.trans dx2)
                  go_wp2_with fail
                  refine region_bw (by kernel_rfl) (by kernel_rfl) ?_
                  repeat (go_big_quiet_step (first | (go_at_call 67; exact calls_bw (F.out _ (cardsIn_below CI.out (below_bw _ _))))))
                  refine wpQuiet_nil ?_; intro wq hq; replace hq := below_of_bw hq; obtain ⟨qc, qf, qz⟩ := bcell hq
                  have B6 := Lib.hid (B5.out.trans (Below.mono hq B5.out.size))
                  clear hbw d0 d2 d3 qc qf qz hq
                  go_wp2_with fail
                  exact ⟨⟨k + 1, hkl, by rw [Int.natCast_succ], by rw [NE.out], B6.out⟩, by (simp [intOf]) <;> omega⟩
                · have dx2 : decide ((0 : Int) ≤ x) = false := by simpa using hx
                  have NE := Lib.hid (NX.out.trans dx2)
                  go_wp2_with fail
                  refine region_bw (by kernel_rfl) (by kernel_rfl) ?_
                  repeat (go_big_quiet_step (first | (go_at_call 67; exact calls_bw (F.out _ (cardsIn_below CI.out (below_bw _ _))))))
                  refine wpQuiet_nil ?_; intro wq hq; replace hq := below_of_bw hq; obtain ⟨qc, qf, qz⟩ := bcell hq
                  have B6 := Lib.hid (B5.out.trans (Below.mono hq B5.out.size))
                  clear hbw d0 d2 d3 qc qf qz hq
                  go_wp2_with fail
                  exact ⟨⟨k + 1, hkl, by rw [Int.natCast_succ], by rw [NE.out], B6.out⟩, by (simp [intOf]) <;> omega⟩
              · rw [hold, Bool.true_or] at NX
                clear hold F CI
                go_wp2_with fail
                refine region_bw (by kernel_rfl) (by kernel_rfl) ?_
                repeat (go_big_quiet_step (fail))
                refine wpQuiet_nil ?_; intro wq hq; replace hq := below_of_bw hq; obtain ⟨qc, qf, qz⟩ := bcell hq
                have B6 := Lib.hid (B5.out.trans (Below.mono hq B5.out.size))
                clear hbw d0 d2 d3 qc qf qz hq
                go_wp2_with fail
                exact ⟨⟨k + 1, hkl, by rw [Int.natCast_succ], by rw [NX.out], B6.out⟩, by (simp [intOf]) <;> omega⟩
            · have e : k = d := by omega
              subst e
              have hd3 : decide ((k : Int) < (k : Int)) = false := by simp
              have O4 := Lib.hid (ownTx_kept O3.out B5.out)
              have s4 := B4.out.size
              cases hold : inAny ls s k
              · have NX := Lib.hid (NN1.out hold)
                clear hold NO1 NN1
                go_wp2_with (at_builtin; refine wpList_append_lies _ rfl _ _ 61 rfl w.heap.size 9 i0 (.string ⟨#[]⟩) 1 16 Tryd.underlying61 hi hz0 hz1 hz2 rfl (by decide) _ _ _ rfl (World.ownsRow.alloc O4.out _) ⟨wr.heap.size, 0, none⟩ 1 1 [.string s] rfl rfl (new1T _ _ _) (fun x hx => by simp at hx; subst hx; rfl) (by omega) (by unfold maxLen; omega) (by omega) (by simp; omega) _ rfl ?_; intro gg cap2 w8 hown hgrow _ _; have P := Lib.hid (ownTx_push hown); have G := Lib.hid hgrow; clear hown hgrow)
                exact ⟨⟨j + 1, hjl, by rw [Int.natCast_succ], by rw [NX.out]; exact P.out, Below.grown (below_new B4.out _) G.out (by simp; omega) (fun k hk => ownTx_lt O4.out k hk)⟩, by (simp [intOf]) <;> omega⟩
              · have NX := Lib.hid (NO1.out hold)
                clear hold NO1 NN1
                go_wp2_with fail
                exact ⟨⟨j + 1, hjl, by rw [Int.natCast_succ], by rw [NX.out]; exact O4.out, B4.out⟩, by (simp [intOf]) <;> omega⟩
        · have e : j = (csAt ls d).length := by omega
          subst e
          have hd2 : decide (((csAt ls d).length : Int) < ((csAt ls d).length : Int)) = false := by simp
          rw [← ND.out] at O3
          clear hB
          go_wp2_with fail
          exact ⟨⟨d + 1, hdl, by rw [Int.natCast_succ], O3.out, B3.out⟩, by (simp [intOf]) <;> omega⟩
    · have e : d = ls.length := by omega
      subst e
      have hd1 : decide ((ls.length : Int) < (ls.length : Int)) = false := by simp
      clear hB
      go_wp2_with fail
      go_ret
      exact ⟨_, rfl, OO.out, BB.out⟩
end Go.Proofs.YtbmjghkdhhcffaaDoor

namespace Go.Proofs.YtbmjghkdhhcffaaDoor
open Go.ChangeShapes Go.WideShapes Go.ChangeAt Go.RowKit

set_option maxRecDepth 100000 in
set_option maxHeartbeats 1600000 in
theorem sOf_any (ad : Option Addr) (cs : List Cd) (c : Nat) (s : ByteArray) (w : World) (hc : CardsIn w ad cs) (ok : deckOk cs = true) :
    Calls Tryd.prog 33 #[.slice ad cs.length c, .string s] w fun e w' => e = .returned (stV (stOf cs s)) ∧ Below w.heap.size w w' := by
  have C := Lib.hid hc
  have F := fun W h => sFind_any ad cs c s W h (deckOk_80 ok)
  have A0 := below_new (Below.refl w.heap.size w) (.cells #[.bool false, .int .u64 0, .int .u64 0] 66)
  have C0 := Lib.hid (cardsIn_below hc A0)
  clear hc
  rcases st_find ok s with ⟨hf, hs, _⟩ | ⟨k, hk, hf, hn, hs, _⟩
  · rw [hf] at F
    rw [hs]
    have F := Lib.hid F
    unfold stV st0
    clear hf hs A0
    go_enter Tryd.func33, Tryd.ntmps33
    go_wp2_with (go_at_call 67; refine (F.out _ C0.out).mono ?_; rintro e w1 ⟨rfl, hB⟩; have B1 := Lib.hid hB; have n2 := Ab.block hB (block_alloc w (.cells #[.bool false, .int .u64 0, .int .u64 0] 66)); have k0 := cell_of_block n2; have k1 := free_of_block n2; have k2 := lt_of_block n2; have B2 := Lib.hid (Below.trans (below_new (Below.refl w.heap.size w) (.cells #[.bool false, .int .u64 0, .int .u64 0] 66)) (hB.mono (by simp))); clear hB n2)
    refine bodyPost_ret (by simp [results, Tryd.results33, go_sem,  k0]; try rfl) rfl ?_
    exact ⟨rfl, Below.setCell (Below.setCell (Below.setCell B2.out (Nat.le_refl _) _) (Nat.le_refl _) _) (Nat.le_refl _) _⟩
  · rw [hf] at F
    rw [hs]
    have F := Lib.hid F
    unfold stV
    have dk : decide ((k : Int) < 0) = false := by simp
    have k3 : (0 : Int) ≤ (k : Int) := by omega
    have k4 : (k : Int) < (cs.length : Int) := by omega
    obtain ⟨_, b2, o2, rfl, hb2, q0, q1, q2⟩ := C0.out k hk
    have z2 := Lib.hid hb2
    have Q1 := Lib.hid q1
    have Q2 := Lib.hid q2
    generalize cdAt cs k = x at *
    obtain ⟨sx, xa, xb⟩ := x
    simp only at Q1 Q2
    clear hf hs A0 q0 q1 q2 hb2
    go_enter Tryd.func33, Tryd.ntmps33
    go_wp2_with (go_at_call 67; refine (F.out _ C0.out).mono ?_; rintro e w1 ⟨rfl, hB⟩; have B1 := Lib.hid hB; have e1 := (hB.cell (p := ⟨b2, o2 + k * 3 + 1, none⟩) z2.out).trans Q1.out; have e2 := (hB.cell (p := ⟨b2, o2 + k * 3 + 2, none⟩) z2.out).trans Q2.out; have n2 := Ab.block hB (block_alloc w (.cells #[.bool false, .int .u64 0, .int .u64 0] 66)); have k0 := cell_of_block n2; have k1 := free_of_block n2; have k2 := lt_of_block n2; have B2 := Lib.hid (Below.trans (below_new (Below.refl w.heap.size w) (.cells #[.bool false, .int .u64 0, .int .u64 0] 66)) (hB.mono (by simp))); clear hB n2)
    refine bodyPost_ret (by simp [results, Tryd.results33, go_sem,  k0]; try rfl) rfl ?_
    exact ⟨rfl, Below.setCell (Below.setCell (Below.setCell B2.out (Nat.le_refl _) _) (Nat.le_refl _) _) (Nat.le_refl _) _⟩
end Go.Proofs.YtbmjghkdhhcffaaDoor

namespace Go.Proofs.YtbmjghkdhhcffaaDoor
open Go.ChangeShapes Go.WideShapes Go.ChangeAt Go.RowKit

theorem eq_mask7 (a b c d : Int) (w : World) : (Op.equalIn 9999 39 (.agg #[.int .u64 a, .int .u64 b]) (.agg #[.int .u64 c, .int .u64 d])).run Tryd.prog w = .ok (a == c && b == d) w := by
  have u3 := Tryd.underlying34
  have a3 := Tryd.isAgg34
  have z3 := Tryd.sizeOf34
  rw [show (9999 : Nat) = 9998 + 1 from rfl, Op.equalIn]
  simp only [Sem.run_bind, run_underlying Tryd.underlying39, Result.andThen_ok]
  simp only [Std.Legacy.Range.forIn_eq_forIn_range', Std.Legacy.Range.size, Nat.sub_zero, Nat.add_sub_cancel, Nat.div_one, List.range'_succ, List.range'_zero, List.forIn_cons, List.forIn_nil]
  go_simp
  by_cases h1 : a = c <;> by_cases h2 : b = d <;> simp [h1, h2]
theorem eq_st7 (t u : Bool) (a b c d : Int) (w : World) : (Op.equalIn 10000 66 (.agg #[.bool t, .int .u64 a, .int .u64 b]) (.agg #[.bool u, .int .u64 c, .int .u64 d])).run Tryd.prog w = .ok (t == u && (a == c && b == d)) w := by
  have us := Tryd.underlying4
  have ag := Tryd.isAgg4
  have zs := Tryd.sizeOf4
  have am := Tryd.isAgg39
  have zm := Tryd.sizeOf39
  have em := eq_mask7
  have hS : Tryd.prog.underlying 66 = some (.struct (Tryd.prog.fieldsOf 66)) := by kernel_rfl
  rw [show (10000 : Nat) = 9999 + 1 from rfl, run_equalIn_struct w 9999 66 _ _ hS (by kernel_rfl)]
  simp only [Program.fieldsOf, Tryd.underlying66]
  go_simp
  cases t <;> cases u <;> by_cases h1 : a = c <;> by_cases h2 : b = d <;> simp [h1, h2]

theorem lot2 {w : World} {n : Nat} (hn : n = w.heap.size) {ps qs : List Cd} {g1 g2 c1 c2 : Nat} (h1 : CellsC w (some ⟨g1, 0, none⟩) ps) (h2 : CellsC w (some ⟨g2, 0, none⟩) qs) :
    LotC (w.alloc (.cells #[.slice (some ⟨g1, 0, none⟩) ps.length c1, .slice (some ⟨g2, 0, none⟩) qs.length c2] 24)) (some ⟨n, 0, none⟩) [ps, qs] := by
  subst hn
  intro i hi
  have hlt : w.heap.size < (w.alloc (.cells #[.slice (some ⟨g1, 0, none⟩) ps.length c1, .slice (some ⟨g2, 0, none⟩) qs.length c2] 24)).heap.size := by simp
  match i, hi with
  | 0, _ => exact ⟨_, _, g1, c1, rfl, hlt, by simp [csAt], cellsC_below h1 (below_new (Below.refl _ _) _)⟩
  | 1, _ => exact ⟨_, _, g2, c2, rfl, hlt, by simp [csAt], cellsC_below h2 (below_new (Below.refl _ _) _)⟩
  | n + 2, h => exact absurd h (by simp)
theorem new1N (w : World) (n : Nat) (hn : w.heap.size = n) (x0 : Value) (t : TypeId) : ∀ j u, [x0][j]? = some u → (w.alloc (.cells #[x0] t)).cell? ((⟨n, 0, none⟩ : Addr).add j) = some u := by subst hn; exact new1T w x0 t
/-- The names of two decks. -/
def nm2 (ps qs : List Cd) : List ByteArray := nmD [ps, qs] 2 0
theorem nm2_eq (ps qs : List Cd) : nm2 ps qs = nmTo (ps ++ qs) (ps ++ qs).length := by
  show nmTo ([] ++ ps ++ qs) (0 + ps.length + qs.length + 0) = _
  rw [List.nil_append, List.length_append, Nat.zero_add, Nat.add_zero]
theorem nm2_len (ps qs : List Cd) : (nm2 ps qs).length ≤ ps.length + qs.length := by rw [nm2_eq, ← List.length_append]; exact nmTo_len _ _
/-- The first n names that are in conflict. -/
def cnT (ps qs rs : List Cd) (ns : List ByteArray) (n : Nat) : List ByteArray := (ns.take n).filter fun s => isC (stOf ps s) (stOf qs s) (stOf rs s)
theorem cnT_zero (ps qs rs : List Cd) (ns : List ByteArray) : cnT ps qs rs ns 0 = [] := by unfold cnT; rw [List.take_zero]; rfl
theorem cnT_yes {ps qs rs : List Cd} {ns : List ByteArray} {n : Nat} (hn : n < ns.length) {s : ByteArray} (hs : ns.getD n ⟨#[]⟩ = s) (h : isC (stOf ps s) (stOf qs s) (stOf rs s) = true) : cnT ps qs rs ns (n + 1) = cnT ps qs rs ns n ++ [s] := by
  rw [List.getD, List.getElem?_eq_getElem hn] at hs
  simp only [Option.getD_some] at hs
  unfold cnT
  rw [List.take_succ_eq_append_getElem hn, List.filter_append, hs]
  simp [h]
theorem cnT_no {ps qs rs : List Cd} {ns : List ByteArray} {n : Nat} (hn : n < ns.length) {s : ByteArray} (hs : ns.getD n ⟨#[]⟩ = s) (h : isC (stOf ps s) (stOf qs s) (stOf rs s) = false) : cnT ps qs rs ns (n + 1) = cnT ps qs rs ns n := by
  rw [List.getD, List.getElem?_eq_getElem hn] at hs
  simp only [Option.getD_some] at hs
  unfold cnT
  rw [List.take_succ_eq_append_getElem hn, List.filter_append, hs]
  simp [h]
theorem cnT_len (ps qs rs : List Cd) (ns : List ByteArray) (n : Nat) : (cnT ps qs rs ns n).length ≤ ns.length := Nat.le_trans (List.length_filter_le _ _) (List.length_take_le' _ _)
theorem cnT_all (ps qs rs : List Cd) : cnT ps qs rs (nm2 ps qs) (nm2 ps qs).length = cnL (ft3 ps qs rs) (ft3 ps qs rs).length := by
  unfold cnT ft3
  rw [List.take_length, nm2_eq, cnL_all, all3_eq, cf_two]
theorem cfL_len (ps qs rs : List Cd) : (cfL ps qs rs).length ≤ ps.length + qs.length + rs.length := by
  unfold cfL
  split
  · exact Nat.le_trans (cnL_len _ _) (ft3_len ps qs rs)
  · exact Nat.zero_le _
theorem fit2 {ps qs : List Cd} (h1 : ∀ i, i < ps.length → (cdAt ps i).fits) (h2 : ∀ i, i < qs.length → (cdAt qs i).fits) : ∀ i, i < [ps, qs].length → ∀ k, k < (csAt [ps, qs] i).length → (cdAt (csAt [ps, qs] i) k).fits := fun i hi =>
  match i, hi with
  | 0, _ => h1
  | 1, _ => h2
  | n + 2, h => absurd h (by simp)
theorem ok2 {ps qs : List Cd} (h1 : deckOk ps = true) (h2 : deckOk qs = true) : ∀ e, e < [ps, qs].length → deckOk (csAt [ps, qs] e) = true := fun i hi =>
  match i, hi with
  | 0, _ => h1
  | 1, _ => h2
  | n + 2, h => absurd h (by simp)

set_option maxRecDepth 100000 in
set_option maxHeartbeats 3200000 in
theorem sConfl_any (g1 g2 g3 : Nat) (ps qs rs : List Cd) (c1 c2 c3 : Nat) (w : World) (h1 : CardsIn w (some ⟨g1, 0, none⟩) ps) (h2 : CardsIn w (some ⟨g2, 0, none⟩) qs) (h3 : CardsIn w (some ⟨g3, 0, none⟩) rs) (k1 : deckOk ps = true) (k2 : deckOk qs = true) (k3 : deckOk rs = true) :
    Calls Tryd.prog 31 #[.slice (some ⟨g1, 0, none⟩) ps.length c1, .slice (some ⟨g2, 0, none⟩) qs.length c2, .slice (some ⟨g3, 0, none⟩) rs.length c3] w (TxR (cnL (ft3 ps qs rs) (ft3 ps qs rs).length) w) := by
  obtain ⟨i0, hi, hz0, hz1, hz2⟩ := info_parts info_tx
  rw [← cnT_all]
  have H1 := Lib.hid h1
  have H2 := Lib.hid h2
  have H3 := Lib.hid h3
  have S1 := fun s W h => sOf_any (some ⟨g1, 0, none⟩) ps c1 s W h k1
  have S2 := fun s W h => sOf_any (some ⟨g2, 0, none⟩) qs c2 s W h k2
  have S3 := fun s W h => sOf_any (some ⟨g3, 0, none⟩) rs c3 s W h k3
  have A0 := Lib.hid (below_new (Below.refl w.heap.size w) (.cells #[.slice (some ⟨g1, 0, none⟩) ps.length c1, .slice (some ⟨g2, 0, none⟩) qs.length c2] 24))
  have NM := Lib.hid (show Calls Tryd.prog 32 #[.slice (some ⟨w.heap.size, 0, none⟩) 2 2] (w.alloc (.cells #[.slice (some ⟨g1, 0, none⟩) ps.length c1, .slice (some ⟨g2, 0, none⟩) qs.length c2] 24)) (TxR (nm2 ps qs) _) from
    sNames_any (some ⟨w.heap.size, 0, none⟩) [ps, qs] 2 _ (lot2 (c1 := c1) (c2 := c2) rfl (fun i hi => (h1 i hi).2) (fun i hi => (h2 i hi).2)) (fit2 (fun i hi => (h1 i hi).1) (fun i hi => (h2 i hi).1)) (ok2 k1 k2) (by simp))
  have ln := nm2_len ps qs
  have l1 := deckOk_80 k1
  have l2 := deckOk_80 k2
  generalize nm2 ps qs = ns at *
  have ln : ns.length ≤ 160 := by omega
  clear h1 h2 h3 k1 k2 k3 l1 l2
  go_enter Tryd.func31, Tryd.ntmps31
  go_wp2_with (go_at_call 32; refine NM.out.mono ?_; rintro e w1 ⟨v1, rfl, hO, hB⟩; obtain ⟨a1, cc1, rfl, hI⟩ := ownTx_in hO; have I1 := Lib.hid hI; have B1 := Lib.hid (A0.out.trans (Below.mono hB A0.out.size)); clear hO hI hB)
  have C0 := Lib.hid (below_new (Below.refl w1.heap.size w1) (.cells #[] 9))
  have M0 := Lib.hid (ownTx_made (w := w1) rfl (Nat.le_refl _))
  have h11 := Lib.hid (cardsIn_below H1.out B1.out)
  have h12 := Lib.hid (cardsIn_below H2.out B1.out)
  have h13 := Lib.hid (cardsIn_below H3.out B1.out)
  go_loopw [8, 9] (fun v i wr => ∃ j : Nat, j ≤ ns.length ∧ i = .int .i64 (j : Int) ∧ OwnTx w1.heap.size (cnT ps qs rs ns j) v wr ∧ Below w1.heap.size w1 wr) (fun _ i _ => ns.length - (intOf i).toNat)
  case atStart => exact ⟨0, Nat.zero_le _, rfl, by rw [cnT_zero]; exact M0.out, C0.out⟩
  case round =>
    obtain ⟨j, hj, rfl, hO, hB⟩ := hrel
    have OO := Lib.hid hO
    have BB := Lib.hid hB
    clear hO
    by_cases hjl : j < ns.length
    · have hd : decide ((j : Int) < (ns.length : Int)) = true := by simpa using hjl
      obtain ⟨b1, o1, rfl, hb1, p0⟩ := I1.out j hjl
      have d0 := (hB.cell (p := ⟨b1, o1 + j, none⟩) hb1).trans p0
      have P0 := Lib.hid p0
      have y1 : b1 < wr.heap.size := Nat.lt_of_lt_of_le hb1 hB.size
      have HB1 := Lib.hid hb1
      have i1 : (0 : Int) ≤ (j : Int) := by omega
      have i2 : (j : Int) < (ns.length : Int) := by omega
      have cl := cnT_len ps qs rs ns j
      have NY := fun h => cnT_yes (ps := ps) (qs := qs) (rs := rs) hjl rfl h
      have NN := fun h => cnT_no (ps := ps) (qs := qs) (rs := rs) hjl rfl h
      generalize cnT ps qs rs ns j = xs at *
      generalize ns.getD j ⟨#[]⟩ = s at *
      have T1 := S1 s
      have T2 := S2 s
      have T3 := S3 s
      generalize stOf ps s = x at *
      generalize stOf qs s = y at *
      generalize stOf rs s = z at *
      obtain ⟨t1, p1, q1⟩ := x
      obtain ⟨t2, p2, q2⟩ := y
      obtain ⟨t3, p3, q3⟩ := z
      unfold stV at T1 T2 T3
      simp only at T1 T2 T3
      replace T1 := Lib.hid T1
      replace T2 := Lib.hid T2
      replace T3 := Lib.hid T3
      replace NY := Lib.hid NY
      replace NN := Lib.hid NN
      clear hB p0 hb1 S1 S2 S3
      have tok1 : True := trivial
      have tok2 : True := trivial
      go_upto_region 9 with (first
        | (go_at_call 33; have _t := tok1; clear _t tok1; refine (T1.out _ (cardsIn_below h11.out BB.out)).mono ?_; rintro e w2 ⟨rfl, hB2⟩; have A2a := Lib.hid (below_new (show Below wr.heap.size wr w2 from hB2) (.cells #[.bool t1, .int .u64 p1, .int .u64 q1] 66)); have B2 := Lib.hid (BB.out.trans (Below.mono hB2 BB.out.size)); have B2a := Lib.hid (below_new B2.out (.cells #[.bool t1, .int .u64 p1, .int .u64 q1] 66)); clear d0 y1; have d0 := (B2.out.cell (p := ⟨b1, o1 + j, none⟩) HB1.out).trans P0.out; have y1 : b1 < w2.heap.size := Nat.lt_of_lt_of_le HB1.out B2.out.size; clear hB2)
        | (go_at_call 33; have _t := tok2; clear _t tok2; refine (T2.out _ (cardsIn_below h12.out B2a.out)).mono ?_; rintro e w3 ⟨rfl, hB3⟩; have A3a := Lib.hid (below_new (A2a.out.trans (Below.mono hB3 A2a.out.size)) (.cells #[.bool t2, .int .u64 p2, .int .u64 q2] 66)); have B3 := Lib.hid (B2a.out.trans (Below.mono hB3 B2a.out.size)); have B3a := Lib.hid (below_new B3.out (.cells #[.bool t2, .int .u64 p2, .int .u64 q2] 66)); have n2 := Ab.block hB3 (block_alloc w2 (.cells #[.bool t1, .int .u64 p1, .int .u64 q1] 66)); have N2 := Lib.hid (Ab.block (below_new (Below.refl w3.heap.size w3) (.cells #[.bool t2, .int .u64 p2, .int .u64 q2] 66)) n2); clear d0 y1; have d0 := (B3.out.cell (p := ⟨b1, o1 + j, none⟩) HB1.out).trans P0.out; have y1 : b1 < w3.heap.size := Nat.lt_of_lt_of_le HB1.out B3.out.size; clear hB3 n2)
        | (go_at_call 33; refine (T3.out _ (cardsIn_below h13.out B3a.out)).mono ?_; rintro e w4 ⟨rfl, hB4⟩; have A4a := Lib.hid (below_new (A3a.out.trans (Below.mono hB4 A3a.out.size)) (.cells #[.bool t3, .int .u64 p3, .int .u64 q3] 66)); have B4 := Lib.hid (B3a.out.trans (Below.mono hB4 B3a.out.size)); have B4a := Lib.hid (below_new B4.out (.cells #[.bool t3, .int .u64 p3, .int .u64 q3] 66)); have n2 := Ab.block hB4 N2.out; have n3 := Ab.block hB4 (block_alloc w3 (.cells #[.bool t2, .int .u64 p2, .int .u64 q2] 66)); have k2 := cell_of_block n2; have k3 := cell_of_block n3; have z2 := lt_of_block n2; have z3 := lt_of_block n3; clear d0 y1; have d0 := (B4.out.cell (p := ⟨b1, o1 + j, none⟩) HB1.out).trans P0.out; have y1 : b1 < w4.heap.size := Nat.lt_of_lt_of_le HB1.out B4.out.size; clear hB4 n2 n3))
      have e12 : ∀ W, (Op.equalIn 10000 66 (.agg #[.bool t1, .int .u64 p1, .int .u64 q1]) (.agg #[.bool t2, .int .u64 p2, .int .u64 q2])).run Tryd.prog W = .ok (eqSt ⟨t1, p1, q1⟩ ⟨t2, p2, q2⟩) W := fun W => eq_st7 t1 t2 p1 q1 p2 q2 W
      have e13 : ∀ W, (Op.equalIn 10000 66 (.agg #[.bool t1, .int .u64 p1, .int .u64 q1]) (.agg #[.bool t3, .int .u64 p3, .int .u64 q3])).run Tryd.prog W = .ok (eqSt ⟨t1, p1, q1⟩ ⟨t3, p3, q3⟩) W := fun W => eq_st7 t1 t3 p1 q1 p3 q3 W
      have e23 : ∀ W, (Op.equalIn 10000 66 (.agg #[.bool t2, .int .u64 p2, .int .u64 q2]) (.agg #[.bool t3, .int .u64 p3, .int .u64 q3])).run Tryd.prog W = .ok (eqSt ⟨t2, p2, q2⟩ ⟨t3, p3, q3⟩) W := fun W => eq_st7 t2 t3 p2 q2 p3 q3 W
      have HC := Lib.hid (show isC ⟨t1, p1, q1⟩ ⟨t2, p2, q2⟩ ⟨t3, p3, q3⟩ = (!(eqSt ⟨t1, p1, q1⟩ ⟨t2, p2, q2⟩) && (!(eqSt ⟨t1, p1, q1⟩ ⟨t3, p3, q3⟩) && !(eqSt ⟨t2, p2, q2⟩ ⟨t3, p3, q3⟩))) from rfl)
      generalize eqSt ⟨t1, p1, q1⟩ ⟨t2, p2, q2⟩ = f12 at *
      generalize eqSt ⟨t1, p1, q1⟩ ⟨t3, p3, q3⟩ = f13 at *
      generalize eqSt ⟨t2, p2, q2⟩ ⟨t3, p3, q3⟩ = f23 at *
      have O4 := Lib.hid (ownTx_kept OO.out A4a.out)
      clear T1 T2 T3
      cases f12
      · cases f13
        · cases f23
          · have NX := Lib.hid (NY.out (HC.out.trans (by simp)))
            have s4 := B4.out.size
            clear NY NN HC
            go_wp2_with (at_builtin; refine wpList_append_lies _ rfl _ _ 61 rfl w1.heap.size 9 i0 (.string ⟨#[]⟩) 1 16 Tryd.underlying61 hi hz0 hz1 hz2 rfl (by decide) _ _ _ rfl (World.ownsRow.alloc O4.out _) ⟨w4.heap.size + 1, 0, none⟩ 1 1 [.string s] rfl rfl (new1N (w4.alloc (.cells #[.bool t3, .int .u64 p3, .int .u64 q3] 66)) _ (by simp) _ _) (fun x hx => by simp at hx; subst hx; rfl) (by omega) (by unfold maxLen; omega) (by omega) (by simp; omega) _ rfl ?_; intro gg cap2 w8 hown hgrow _ _; have P := Lib.hid (ownTx_push hown); have G := Lib.hid hgrow; clear hown hgrow)
            exact ⟨⟨j + 1, hjl, by rw [Int.natCast_succ], by rw [NX.out]; exact P.out, Below.grown (below_new B4a.out _) G.out (by simp; omega) (fun k hk => ownTx_lt O4.out k hk)⟩, by (simp [intOf]) <;> omega⟩
          · have NX := Lib.hid (NN.out (HC.out.trans (by simp)))
            clear NY NN HC
            go_wp2_with fail
            exact ⟨⟨j + 1, hjl, by rw [Int.natCast_succ], by rw [NX.out]; exact ownTx_kept OO.out A4a.out, B4a.out⟩, by (simp [intOf]) <;> omega⟩
        · have NX := Lib.hid (NN.out (HC.out.trans (by simp)))
          clear NY NN HC
          go_wp2_with fail
          exact ⟨⟨j + 1, hjl, by rw [Int.natCast_succ], by rw [NX.out]; exact ownTx_kept OO.out A4a.out, B4a.out⟩, by (simp [intOf]) <;> omega⟩
      · have NX := Lib.hid (NN.out (HC.out.trans (by simp)))
        clear NY NN HC
        go_wp2_with fail
        exact ⟨⟨j + 1, hjl, by rw [Int.natCast_succ], by rw [NX.out]; exact ownTx_kept OO.out A4a.out, B4a.out⟩, by (simp [intOf]) <;> omega⟩
    · have e : j = ns.length := by omega
      subst e
      have hd : decide ((ns.length : Int) < (ns.length : Int)) = false := by simp
      clear hB
      go_wp2
      go_ret
      exact ⟨_, rfl, ownTx_weak OO.out B1.out.size, B1.out.trans (Below.mono BB.out B1.out.size)⟩

end Go.Proofs.YtbmjghkdhhcffaaDoor

namespace Go.Proofs.YtbmjghkdhhcffaaDoor
open Go.ChangeShapes Go.WideShapes Go.ChangeAt Go.RowKit

/-- The names of three decks. -/
def nm3 (ps qs rs : List Cd) : List ByteArray := nmD [ps, qs, rs] 3 0
theorem nm3_eq (ps qs rs : List Cd) : nm3 ps qs rs = nmTo (all3 ps qs rs) (all3 ps qs rs).length := by
  show nmTo ([] ++ ps ++ qs ++ rs) (0 + ps.length + qs.length + rs.length + 0) = _
  rw [all3_eq, List.nil_append, List.length_append, List.length_append, Nat.zero_add, Nat.add_zero]
theorem ft3_eq (ps qs rs : List Cd) : ft3 ps qs rs = (nm3 ps qs rs).map fun s => ⟨s, stOf ps s, stOf qs s, stOf rs s⟩ := by unfold ft3; rw [ftTo_map, nm3_eq]
theorem ft3_nm (ps qs rs : List Cd) : (ft3 ps qs rs).length = (nm3 ps qs rs).length := by rw [ft3_eq, List.length_map]
theorem ft3_at {ps qs rs : List Cd} {j : Nat} (hj : j < (nm3 ps qs rs).length) {s : ByteArray} (hs : (nm3 ps qs rs).getD j ⟨#[]⟩ = s) : ftAt (ft3 ps qs rs) j = ⟨s, stOf ps s, stOf qs s, stOf rs s⟩ := by
  rw [List.getD, List.getElem?_eq_getElem hj] at hs
  simp only [Option.getD_some] at hs
  unfold ftAt
  rw [ft3_eq, List.getD, List.getElem?_map, List.getElem?_eq_getElem hj, hs]
  rfl
theorem ok3 {ps qs rs : List Cd} (h1 : deckOk ps = true) (h2 : deckOk qs = true) (h3 : deckOk rs = true) : ∀ e, e < [ps, qs, rs].length → deckOk (csAt [ps, qs, rs] e) = true := fun i hi =>
  match i, hi with
  | 0, _ => h1
  | 1, _ => h2
  | 2, _ => h3
  | n + 3, h => absurd h (by simp)
theorem fit3 {ps qs rs : List Cd} (h1 : ∀ i, i < ps.length → (cdAt ps i).fits) (h2 : ∀ i, i < qs.length → (cdAt qs i).fits) (h3 : ∀ i, i < rs.length → (cdAt rs i).fits) : ∀ i, i < [ps, qs, rs].length → ∀ k, k < (csAt [ps, qs, rs] i).length → (cdAt (csAt [ps, qs, rs] i) k).fits := fun i hi =>
  match i, hi with
  | 0, _ => h1
  | 1, _ => h2
  | 2, _ => h3
  | n + 3, h => absurd h (by simp)
theorem ownCards_made {w : World} {m B : Nat} (hn : m = w.heap.size) (hB : B ≤ w.heap.size) : OwnCards B [] (.slice (some ⟨m, 0, none⟩) 0 0) (w.alloc (.cells #[] 69)) := by
  subst hn; exact World.ownsRow_made w #[] 0 hB (Nat.zero_le _) rfl
/-- One step of the model's merge. -/
theorem mg_step {ps qs rs : List Cd} {j : Nat} (hj : j < (nm3 ps qs rs).length) {s : ByteArray} (hs : (nm3 ps qs rs).getD j ⟨#[]⟩ = s) :
    ((outS (stOf ps s) (stOf qs s) (stOf rs s)).t = true → mgL (ft3 ps qs rs) (j + 1) = mgL (ft3 ps qs rs) j ++ [⟨s, (outS (stOf ps s) (stOf qs s) (stOf rs s)).a, (outS (stOf ps s) (stOf qs s) (stOf rs s)).b⟩]) ∧
    ((outS (stOf ps s) (stOf qs s) (stOf rs s)).t = false → mgL (ft3 ps qs rs) (j + 1) = mgL (ft3 ps qs rs) j) := by
  have e := ft3_at hj hs
  constructor
  · intro h
    have := mgL_yes (fs := ft3 ps qs rs) (n := j) (by rw [e]; exact h)
    rw [e] at this
    exact this
  · intro h
    exact mgL_no (fs := ft3 ps qs rs) (n := j) (by rw [e]; exact h)

set_option maxRecDepth 100000 in
set_option maxHeartbeats 6400000 in
theorem sMerge3_any (g1 g2 g3 : Nat) (ps qs rs : List Cd) (c1 c2 c3 : Nat) (w : World) (h1 : CardsIn w (some ⟨g1, 0, none⟩) ps) (h2 : CardsIn w (some ⟨g2, 0, none⟩) qs) (h3 : CardsIn w (some ⟨g3, 0, none⟩) rs) :
    Calls Tryd.prog 8 #[.slice (some ⟨g1, 0, none⟩) ps.length c1, .slice (some ⟨g2, 0, none⟩) qs.length c2, .slice (some ⟨g3, 0, none⟩) rs.length c3] w (McR (mtL ps qs rs) (mtK ps qs rs) w) := by
  obtain ⟨i0, hi, hz0, hz1, hz2⟩ := info_parts info_card
  have H1 := Lib.hid h1
  have H2 := Lib.hid h2
  have H3 := Lib.hid h3
  have V1 := fun W h => sDeckOk_any (some ⟨g1, 0, none⟩) ps c1 W h
  have V2 := fun W h => sDeckOk_any (some ⟨g2, 0, none⟩) qs c2 W h
  have V3 := fun W h => sDeckOk_any (some ⟨g3, 0, none⟩) rs c3 W h
  clear h1 h2 h3
  have tok1 : True := trivial
  have tok2 : True := trivial
  have tok3 : True := trivial
  unfold mtL mtK
  cases k1 : deckOk ps
  · rw [k1] at V1
    replace V1 := Lib.hid V1
    replace V2 := Lib.hid V2
    replace V3 := Lib.hid V3
    simp only [Bool.false_and, Bool.false_eq_true, if_false]
    clear k1
    go_enter Tryd.func8, Tryd.ntmps8
    go_wp2_with (first
      | (go_at_call 30; have _t := tok1; clear _t tok1; refine (V1.out _ H1.out).mono ?_; rintro e w1 ⟨rfl, hB⟩; have b1 := Lib.hid hB; clear hB))
    go_returns
    exact ⟨_, rfl, ownCards_made rfl b1.out.size, below_new b1.out _⟩
  rw [k1] at V1
  cases k2 : deckOk qs
  · rw [k2] at V2
    replace V1 := Lib.hid V1
    replace V2 := Lib.hid V2
    replace V3 := Lib.hid V3
    simp only [Bool.true_and, Bool.false_and, Bool.false_eq_true, if_false]
    clear k1 k2
    go_enter Tryd.func8, Tryd.ntmps8
    go_wp2_with (first
      | (go_at_call 30; have _t := tok1; clear _t tok1; refine (V1.out _ H1.out).mono ?_; rintro e w1 ⟨rfl, hB⟩; have b1 := Lib.hid hB; clear hB)
      | (go_at_call 30; have _t := tok2; clear _t tok2; refine (V2.out _ (cardsIn_below H2.out b1.out)).mono ?_; rintro e w2 ⟨rfl, hB⟩; have b2 := Lib.hid (b1.out.trans (Below.mono hB b1.out.size)); clear hB))
    go_returns
    exact ⟨_, rfl, ownCards_made rfl b2.out.size, below_new b2.out _⟩
  rw [k2] at V2
  cases k3 : deckOk rs
  · rw [k3] at V3
    replace V1 := Lib.hid V1
    replace V2 := Lib.hid V2
    replace V3 := Lib.hid V3
    simp only [Bool.true_and, Bool.false_eq_true, if_false]
    clear k1 k2 k3
    go_enter Tryd.func8, Tryd.ntmps8
    go_wp2_with (first
      | (go_at_call 30; have _t := tok1; clear _t tok1; refine (V1.out _ H1.out).mono ?_; rintro e w1 ⟨rfl, hB⟩; have b1 := Lib.hid hB; clear hB)
      | (go_at_call 30; have _t := tok2; clear _t tok2; refine (V2.out _ (cardsIn_below H2.out b1.out)).mono ?_; rintro e w2 ⟨rfl, hB⟩; have b2 := Lib.hid (b1.out.trans (Below.mono hB b1.out.size)); clear hB)
      | (go_at_call 30; have _t := tok3; clear _t tok3; refine (V3.out _ (cardsIn_below H3.out b2.out)).mono ?_; rintro e w3 ⟨rfl, hB⟩; have b3 := Lib.hid (b2.out.trans (Below.mono hB b2.out.size)); clear hB))
    go_returns
    exact ⟨_, rfl, ownCards_made rfl b3.out.size, below_new b3.out _⟩
  rw [k3] at V3
  have C := Lib.hid fun W h1 h2 h3 => sConfl_any g1 g2 g3 ps qs rs c1 c2 c3 W h1 h2 h3 k1 k2 k3
  have NM := Lib.hid fun (W : World) (hB : Below w.heap.size w W) => (show Calls Tryd.prog 32 #[.slice (some ⟨W.heap.size, 0, none⟩) 3 3] (W.alloc (.cells #[.slice (some ⟨g1, 0, none⟩) ps.length c1, .slice (some ⟨g2, 0, none⟩) qs.length c2, .slice (some ⟨g3, 0, none⟩) rs.length c3] 24)) (TxR (nm3 ps qs rs) _) from
    sNames_any (some ⟨W.heap.size, 0, none⟩) [ps, qs, rs] 3 _ (lot3 (c1 := c1) (c2 := c2) (c3 := c3) rfl (cellsC_below (fun i hi => (H1.out i hi).2) hB) (cellsC_below (fun i hi => (H2.out i hi).2) hB) (cellsC_below (fun i hi => (H3.out i hi).2) hB)) (fit3 (fun i hi => (H1.out i hi).1) (fun i hi => (H2.out i hi).1) (fun i hi => (H3.out i hi).1)) (ok3 k1 k2 k3) (by simp))
  have S1 := fun s W h => sOf_any (some ⟨g1, 0, none⟩) ps c1 s W h k1
  have S2 := fun s W h => sOf_any (some ⟨g2, 0, none⟩) qs c2 s W h k2
  have S3 := fun s W h => sOf_any (some ⟨g3, 0, none⟩) rs c3 s W h k3
  have l1 := deckOk_80 k1
  have l2 := deckOk_80 k2
  have l3 := deckOk_80 k3
  have ln : (nm3 ps qs rs).length ≤ 240 := by
    have := ft3_len ps qs rs
    rw [ft3_nm] at this
    omega
  have FL := Lib.hid (ft3_nm ps qs rs)
  have ST := Lib.hid fun j hj => mg_step (ps := ps) (qs := qs) (rs := rs) (j := j) hj rfl
  replace V1 := Lib.hid V1
  replace V2 := Lib.hid V2
  replace V3 := Lib.hid V3
  simp only [Bool.true_and, if_true]
  clear k1 k2 k3 l1 l2 l3
  generalize nm3 ps qs rs = ns at *
  generalize ft3 ps qs rs = fs at *
  by_cases hc : (cnL fs fs.length).length > 0
  · have d4 : decide (0 < (cnL fs fs.length).length) = true := decide_eq_true hc
    rw [if_pos hc, if_pos hc]
    clear hc ST FL NM S1 S2 S3
    generalize cnL fs fs.length = xs at *
    go_enter Tryd.func8, Tryd.ntmps8
    go_wp2_with (first
      | (go_at_call 30; have _t := tok1; clear _t tok1; refine (V1.out _ H1.out).mono ?_; rintro e w1 ⟨rfl, hB⟩; have b1 := Lib.hid hB; clear hB)
      | (go_at_call 30; have _t := tok2; clear _t tok2; refine (V2.out _ (cardsIn_below H2.out b1.out)).mono ?_; rintro e w2 ⟨rfl, hB⟩; have b2 := Lib.hid (b1.out.trans (Below.mono hB b1.out.size)); clear hB)
      | (go_at_call 30; have _t := tok3; clear _t tok3; refine (V3.out _ (cardsIn_below H3.out b2.out)).mono ?_; rintro e w3 ⟨rfl, hB⟩; have b3 := Lib.hid (b2.out.trans (Below.mono hB b2.out.size)); clear hB)
      | (go_at_call 31; refine (C.out _ (cardsIn_below H1.out b3.out) (cardsIn_below H2.out b3.out) (cardsIn_below H3.out b3.out)).mono ?_; rintro e w4 ⟨v4, rfl, hO, hB⟩; obtain ⟨a4, c4, rfl, _⟩ := ownTx_in hO; have b4 := Lib.hid (b3.out.trans (Below.mono hB b3.out.size)); clear hO hB))
    go_returns
    exact ⟨_, rfl, ownCards_made rfl b4.out.size, below_new b4.out _⟩
  have d4 : decide (0 < (cnL fs fs.length).length) = false := decide_eq_false hc
  rw [if_neg hc, if_neg hc]
  clear hc
  obtain ⟨XL, eL⟩ : ∃ X, (if (mgL fs fs.length).length > 80 then [] else mgL fs fs.length) = X := ⟨_, rfl⟩
  obtain ⟨XK, eK⟩ : ∃ X : Int, (if (mgL fs fs.length).length > 80 then 3 else 0) = X := ⟨_, rfl⟩
  rw [eL, eK]
  replace eL := Lib.hid eL
  replace eK := Lib.hid eK
  generalize cnL fs fs.length = xs at *
  go_enter Tryd.func8, Tryd.ntmps8
  go_wp2_with (first
    | (go_at_call 30; have _t := tok1; clear _t tok1; refine (V1.out _ H1.out).mono ?_; rintro e w1 ⟨rfl, hB⟩; have b1 := Lib.hid hB; clear hB)
    | (go_at_call 30; have _t := tok2; clear _t tok2; refine (V2.out _ (cardsIn_below H2.out b1.out)).mono ?_; rintro e w2 ⟨rfl, hB⟩; have b2 := Lib.hid (b1.out.trans (Below.mono hB b1.out.size)); clear hB)
    | (go_at_call 30; have _t := tok3; clear _t tok3; refine (V3.out _ (cardsIn_below H3.out b2.out)).mono ?_; rintro e w3 ⟨rfl, hB⟩; have b3 := Lib.hid (b2.out.trans (Below.mono hB b2.out.size)); clear hB)
    | (go_at_call 31; refine (C.out _ (cardsIn_below H1.out b3.out) (cardsIn_below H2.out b3.out) (cardsIn_below H3.out b3.out)).mono ?_; rintro e w4 ⟨v4, rfl, hO, hB⟩; obtain ⟨a4, c4, rfl, _⟩ := ownTx_in hO; have b4 := Lib.hid (b3.out.trans (Below.mono hB b3.out.size)); clear hO hB)
    | (go_at_call 32; refine (NM.out _ b4.out).mono ?_; rintro e w5 ⟨v5, rfl, hO, hB⟩; obtain ⟨a5, c5, rfl, hI⟩ := ownTx_in hO; have I5 := Lib.hid hI; have b5 := Lib.hid ((below_new b4.out (.cells #[.slice (some ⟨g1, 0, none⟩) ps.length c1, .slice (some ⟨g2, 0, none⟩) qs.length c2, .slice (some ⟨g3, 0, none⟩) rs.length c3] 24)).trans (Below.mono hB (by have h := b4.out.size; simp; omega))); clear hO hI hB))
  have C0 := Lib.hid (below_new (Below.refl w5.heap.size w5) (.cells #[] 69))
  have M0 := Lib.hid (ownCards_made (w := w5) rfl (Nat.le_refl _))
  have h51 := Lib.hid (cardsIn_below H1.out b5.out)
  have h52 := Lib.hid (cardsIn_below H2.out b5.out)
  have h53 := Lib.hid (cardsIn_below H3.out b5.out)
  clear C NM V1 V2 V3 d4
  go_loopw [9, 10] (fun v i wr => ∃ j : Nat, j ≤ ns.length ∧ i = .int .i64 (j : Int) ∧ OwnCards w5.heap.size (mgL fs j) v wr ∧ Below w5.heap.size w5 wr) (fun _ i _ => ns.length - (intOf i).toNat)
  case atStart => exact ⟨0, Nat.zero_le _, rfl, M0.out, C0.out⟩
  case round =>
    obtain ⟨j, hj, rfl, hO, hB⟩ := hrel
    have OO := Lib.hid hO
    have BB := Lib.hid hB
    clear hO
    by_cases hjl : j < ns.length
    · have hd : decide ((j : Int) < (ns.length : Int)) = true := by simpa using hjl
      obtain ⟨b1, o1, rfl, hb1, p0⟩ := I5.out j hjl
      have d0 := (hB.cell (p := ⟨b1, o1 + j, none⟩) hb1).trans p0
      have P0 := Lib.hid p0
      have y1 : b1 < wr.heap.size := Nat.lt_of_lt_of_le hb1 hB.size
      have HB1 := Lib.hid hb1
      have i1 : (0 : Int) ≤ (j : Int) := by omega
      have i2 : (j : Int) < (ns.length : Int) := by omega
      have cl := mgL_len fs j
      obtain ⟨NY, NN⟩ := ST.out j hjl
      generalize mgL fs j = xs at *
      generalize ns.getD j ⟨#[]⟩ = s at *
      have T1 := S1 s
      have T2 := S2 s
      have T3 := S3 s
      generalize stOf ps s = x at *
      generalize stOf qs s = y at *
      generalize stOf rs s = z at *
      obtain ⟨t1, p1, q1⟩ := x
      obtain ⟨t2, p2, q2⟩ := y
      obtain ⟨t3, p3, q3⟩ := z
      unfold stV at T1 T2 T3
      simp only at T1 T2 T3
      replace T1 := Lib.hid T1
      replace T2 := Lib.hid T2
      replace T3 := Lib.hid T3
      clear hB p0 hb1 S1 S2 S3
      go_upto_region 11 with (go_at_call 33; refine (T3.out _ (cardsIn_below h53.out BB.out)).mono ?_; rintro e w6 ⟨rfl, hB6⟩; have A6 := Lib.hid (show Below wr.heap.size wr w6 from hB6); have A6a := Lib.hid (below_new (show Below wr.heap.size wr w6 from hB6) (.cells #[.bool t3, .int .u64 p3, .int .u64 q3] 66)); clear hB6)
      have B6a := Lib.hid (BB.out.trans (Below.mono A6a.out BB.out.size))
      have c6 := Lib.hid (block_alloc w6 (.cells #[.bool t3, .int .u64 p3, .int .u64 q3] 66))
      clear d0 y1
      have hbw := cell_bw
      have k0 := cell_of_block c6.out 0
      have k1 := cell_of_block c6.out 1
      have k2 := cell_of_block c6.out 2
      have z0 := lt_of_block c6.out
      generalize w6.alloc (.cells #[.bool t3, .int .u64 p3, .int .u64 q3] 66) = W6 at *
      have d0 := (B6a.out.cell (p := ⟨b1, o1 + j, none⟩) HB1.out).trans P0.out
      have y1 : b1 < W6.heap.size := Nat.lt_of_lt_of_le HB1.out B6a.out.size
      have x61 := Lib.hid (cardsIn_below h51.out B6a.out)
      have e31 : ∀ W, (Op.equalIn 10000 66 (.agg #[.bool t3, .int .u64 p3, .int .u64 q3]) (.agg #[.bool t1, .int .u64 p1, .int .u64 q1])).run Tryd.prog W = .ok (eqSt ⟨t3, p3, q3⟩ ⟨t1, p1, q1⟩) W := fun W => eq_st7 t3 t1 p3 q3 p1 q1 W
      have OT := Lib.hid (fun h => outS_a (x := ⟨t1, p1, q1⟩) (y := ⟨t2, p2, q2⟩) (z := ⟨t3, p3, q3⟩) h)
      have OF := Lib.hid (fun h => outS_b (x := ⟨t1, p1, q1⟩) (y := ⟨t2, p2, q2⟩) (z := ⟨t3, p3, q3⟩) h)
      cases hf : eqSt ⟨t3, p3, q3⟩ ⟨t1, p1, q1⟩
      · rw [hf] at e31
        rw [OF.out hf] at NY NN
        simp only at NY NN
        clear OT OF hf
        refine region_bw (by kernel_rfl) (by kernel_rfl) ?_
        repeat (go_big_quiet_step (first | (go_at_call 33; exact calls_bw (T1.out _ (cardsIn_below x61.out (below_bw _ _))))))
        refine wpQuiet_nil ?_; intro wq hq; replace hq := below_of_bw hq; obtain ⟨qc, qf, qz⟩ := bcell hq
        have A7 := Lib.hid (A6a.out.trans (Below.mono hq A6a.out.size))
        have B7 := Lib.hid (B6a.out.trans (Below.mono hq B6a.out.size))
        have c7 := Lib.hid (Ab.block hq c6.out)
        clear hbw d0 y1 k0 k1 k2 z0 qc qf qz hq e31
        have k0 := cell_of_block c7.out 0
        have k1 := cell_of_block c7.out 1
        have k2 := cell_of_block c7.out 2
        have z0 := lt_of_block c7.out
        have ON := Lib.hid (ownCards_kept OO.out A7.out)
        have e0 := (B7.out.cell (p := ⟨b1, o1 + j, none⟩) HB1.out).trans P0.out
        have y1 : b1 < wq.heap.size := Nat.lt_of_lt_of_le HB1.out B7.out.size
        have sz := B7.out.size
        cases t3
        · replace NN := Lib.hid (NN rfl)
          clear NY
          go_wp2_with fail
          exact ⟨⟨j + 1, hjl, by rw [Int.natCast_succ], by rw [NN.out]; exact ON.out, B7.out⟩, by (simp [intOf]) <;> omega⟩
        · replace NY := Lib.hid (NY rfl)
          clear NN
          go_upto_region 14 with fail
          go_region_law (refine step_append_lies _ (by rfl) _ _ 24 (by rfl) w5.heap.size 69 i0 (.agg #[.string ByteArray.empty, .int .u64 0, .int .u64 0]) 3 32 Tryd.underlying24 hi hz0 hz1 hz2 rfl (by decide) _ _ _ (by rfl) (World.ownsRow.drew (World.ownsRow.alloc ON.out _)) ⟨wq.heap.size, 0, none⟩ 1 1 [.string s, .int .u64 p3, .int .u64 q3] (by rfl) rfl (fun j u h => new3M wq _ _ _ _ j u h) (fun x hx => by simp at hx; rcases hx with rfl | rfl | rfl <;> rfl) (by omega) (by unfold maxLen; omega) (by omega) (by simp; omega) _ rfl ?_; intro gg cap2 w9 hown hgrow _ _; have P := Lib.hid (own_pushM hown); have G := Lib.hid hgrow; clear hown hgrow)
          all_goals go_wp2
          all_goals
            refine ⟨⟨j + 1, hjl, by rw [Int.natCast_succ], by rw [NY.out]; exact P.out, ?_⟩, by (simp [intOf]) <;> omega⟩
            exact Below.grown (below_new B7.out (.cells #[.string s, .int .u64 p3, .int .u64 q3] 69)).drew G.out (by simp; omega) (fun k hk => ownCards_lt ON.out k hk)
      · rw [hf] at e31
        rw [OT.out hf] at NY NN
        simp only at NY NN
        clear OT OF hf
        refine region_bw (by kernel_rfl) (by kernel_rfl) ?_
        repeat (go_big_quiet_step (first | (go_at_call 33; exact calls_bw (T1.out _ (cardsIn_below x61.out (below_bw _ _))))))
        refine wpQuiet_nil ?_; intro wq hq; replace hq := below_of_bw hq; obtain ⟨qc, qf, qz⟩ := bcell hq
        have A7 := Lib.hid (A6a.out.trans (Below.mono hq A6a.out.size))
        have B7 := Lib.hid (B6a.out.trans (Below.mono hq B6a.out.size))
        have c7 := Lib.hid (Ab.block hq c6.out)
        clear hbw d0 y1 k0 k1 k2 z0 qc qf qz hq e31
        have d0 := (B7.out.cell (p := ⟨b1, o1 + j, none⟩) HB1.out).trans P0.out
        have y1 : b1 < wq.heap.size := Nat.lt_of_lt_of_le HB1.out B7.out.size
        have g6 : wr.heap.size ≤ w6.heap.size := A6.out.size
        have g5 : w5.heap.size ≤ wr.heap.size := BB.out.size
        go_upto_region 13 with (go_at_call 33; refine (T2.out _ (cardsIn_below h52.out B7.out)).mono ?_; rintro e w7 ⟨rfl, hB7⟩; have A8 := Lib.hid (A7.out.trans (Below.mono hB7 A7.out.size)); have c8 := Lib.hid (Ab.block hB7 c7.out); clear d0 y1; have k0 := cell_of_block c8.out; have f0 := free_of_block c8.out; have z0 := lt_of_block c8.out; clear hB7)
        have A9 := Lib.hid (Below.setCell (Below.setCell (Below.setCell A8.out g6 (p := ⟨w6.heap.size, 0, none⟩) (.bool t2)) g6 (p := ⟨w6.heap.size, 1, none⟩) (.int .u64 p2)) g6 (p := ⟨w6.heap.size, 2, none⟩) (.int .u64 q2))
        have c9 := Lib.hid (block_setCell (j := 2) (.int .u64 q2) (block_setCell (j := 1) (.int .u64 p2) (block_setCell (j := 0) (.bool t2) c8.out)))
        clear k0 f0 z0
        generalize (((w7.setCell ⟨w6.heap.size, 0, none⟩ (.bool t2)).setCell ⟨w6.heap.size, 1, none⟩ (.int .u64 p2)).setCell ⟨w6.heap.size, 2, none⟩ (.int .u64 q2)) = W9 at *
        have B9 := Lib.hid (BB.out.trans (Below.mono A9.out g5))
        have k0 := cell_of_block c9.out 0
        have k1 := cell_of_block c9.out 1
        have k2 := cell_of_block c9.out 2
        have z0 := lt_of_block c9.out
        have ON := Lib.hid (ownCards_kept OO.out A9.out)
        have e0 := (B9.out.cell (p := ⟨b1, o1 + j, none⟩) HB1.out).trans P0.out
        have y1 : b1 < W9.heap.size := Nat.lt_of_lt_of_le HB1.out B9.out.size
        have sz := B9.out.size
        cases t2
        · replace NN := Lib.hid (NN rfl)
          clear NY
          go_wp2_with fail
          exact ⟨⟨j + 1, hjl, by rw [Int.natCast_succ], by rw [NN.out]; exact ON.out, B9.out⟩, by (simp [intOf]) <;> omega⟩
        · replace NY := Lib.hid (NY rfl)
          clear NN
          go_upto_region 14 with fail
          go_region_law (refine step_append_lies _ (by rfl) _ _ 24 (by rfl) w5.heap.size 69 i0 (.agg #[.string ByteArray.empty, .int .u64 0, .int .u64 0]) 3 32 Tryd.underlying24 hi hz0 hz1 hz2 rfl (by decide) _ _ _ (by rfl) (World.ownsRow.drew (World.ownsRow.alloc ON.out _)) ⟨W9.heap.size, 0, none⟩ 1 1 [.string s, .int .u64 p2, .int .u64 q2] (by rfl) rfl (fun j u h => new3M W9 _ _ _ _ j u h) (fun x hx => by simp at hx; rcases hx with rfl | rfl | rfl <;> rfl) (by omega) (by unfold maxLen; omega) (by omega) (by simp; omega) _ rfl ?_; intro gg cap2 w9 hown hgrow _ _; have P := Lib.hid (own_pushM hown); have G := Lib.hid hgrow; clear hown hgrow)
          all_goals go_wp2
          all_goals
            refine ⟨⟨j + 1, hjl, by rw [Int.natCast_succ], by rw [NY.out]; exact P.out, ?_⟩, by (simp [intOf]) <;> omega⟩
            exact Below.grown (below_new B9.out (.cells #[.string s, .int .u64 p2, .int .u64 q2] 69)).drew G.out (by simp; omega) (fun k hk => ownCards_lt ON.out k hk)
    · have e : j = ns.length := by omega
      subst e
      have hd : decide ((ns.length : Int) < (ns.length : Int)) = false := by simp
      have FE : ns.length = fs.length := FL.out.symm
      rw [FE] at OO
      have OW := Lib.hid (ownCards_weaken OO.out b5.out.size)
      have BW := Lib.hid (b5.out.trans (Below.mono BB.out b5.out.size))
      have sw := BB.out.size
      have s5 := b5.out.size
      obtain ⟨a8, c8, hv, _⟩ := ownCards_in OO.out
      subst hv
      clear hB FE
      by_cases h8 : (mgL fs fs.length).length > 80
      · have d8 : decide ((80 : Int) < ((mgL fs fs.length).length : Int)) = true := by simp; omega
        have xl := eL.out
        have xk := eK.out
        rw [if_pos h8] at xl xk
        subst xl xk
        clear h8 eL eK
        go_wp2
        go_returns
        exact ⟨_, rfl, ownCards_made rfl (by omega), below_new BW.out _⟩
      · have d8 : decide ((80 : Int) < ((mgL fs fs.length).length : Int)) = false := by simp; omega
        have xl := eL.out
        have xk := eK.out
        rw [if_neg h8] at xl xk
        subst xl xk
        clear h8 eL eK
        go_wp2
        go_returns
        exact ⟨_, rfl, OW.out, BW.out⟩
end Go.Proofs.YtbmjghkdhhcffaaDoor

namespace Go.Proofs.YtbmjghkdhhcffaaDoor
open Go.ChangeShapes Go.WideShapes Go.RowKit

theorem et_g : Tryd.prog.globalNamed "errors.errorType" = some 3 := by kernel_rfl
theorem et_rt : (Tryd.prog.cutTypes.find? (·.1 == "internal/reflectlite.rtype")).map (·.2) = some 210 := by kernel_rfl
theorem et_one : ((List.range Tryd.prog.types.size).filter fun t => Tryd.prog.rowNamed t [101, 114, 114, 111, 114]) = [73] := by kernel_rfl
/-- What the condition gives a walk. -/
theorem et_of_laid {W : World} (h : laidMetH Tryd.prog [("errors.errorType", Rows.laid_errors_errorType)] W) : EtIn W := by
  have h' : laidMet Tryd.prog [] W ∧ handlesMet Tryd.prog [("errors.errorType", Rows.laid_errors_errorType)] W := h
  obtain ⟨name, u, ty, e1, e2, e3, e4, e5⟩ := h'.2 _ (List.mem_singleton.2 rfl)
  have en : name = [101, 114, 114, 111, 114] := (Option.some.inj e1).symm
  subst en
  obtain rfl := Option.some.inj (et_rt.symm.trans e2)
  have hm : ty ∈ (List.range Tryd.prog.types.size).filter fun t => Tryd.prog.rowNamed t [101, 114, 114, 111, 114] := List.mem_filter.2 ⟨List.mem_range.2 e3, e4⟩
  rw [et_one] at hm
  obtain rfl := List.mem_singleton.1 hm
  have hh : typeHandle Tryd.prog 73 = .pointer (some ⟨10, 73, none⟩) := by kernel_rfl
  rw [hh] at e5
  unfold EtIn
  simpa using World.var?_cell et_g e5 0
/-- A world that meets the condition. -/
noncomputable def etWorld (os : Os) : World :=
  let w0 := World.holding Tryd.prog os ⟨#[], #[], []⟩
  { w0 with heap := w0.heap.modify 3 fun
      | .cells _ t frozen => .cells #[.iface 210 (.agg #[.pointer (some ⟨10, 73, none⟩)])] t frozen
      | o => o }
theorem etWorld_met (os : Os) (args : Array Value) : laidMetH Tryd.prog [("errors.errorType", Rows.laid_errors_errorType)] ((etWorld os).forCall (fun _ _ => 0) ⟨#[], args, []⟩).memory :=
  laidMetH_of_parts (laidMet_nil _ _) (by kernel_rfl)
end Go.Proofs.YtbmjghkdhhcffaaDoor
