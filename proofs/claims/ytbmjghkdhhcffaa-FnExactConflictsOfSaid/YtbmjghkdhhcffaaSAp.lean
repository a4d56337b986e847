/- Contract: the model's l07Apply. -/
import Derived.Test.YtbmjghkdhhcffaaApM
import Derived.Test.YtbmjghkdhhcffaaHole
import Derived.Test.YtbmjghkdhhcffaaWith
import Derived.Test.YtbmjghkdhhcffaaWithin
import Derived.Test.YtbmjghkdhhcffaaFloat
import Derived.Deep.AppendLies
import Derived.Deep.RegionLaw
import Derived.Deep.DeepCutAuto
namespace Go.Proofs.Ytbmjghkdhhcffaa
open Go.ChangeShapes Go.WideShapes Go.ChangeAt Go.RowKit

theorem cellsC_flat {w : World} {g o : Nat} {cs : List Cd} (h : CellsC w (some ⟨g, o, none⟩) cs) : ∀ j u, (flatC cs)[j]? = some u → w.cell? ((⟨g, o, none⟩ : Addr).add j) = some u := by
  intro j u hu
  have hj : j < cs.length * 3 := by rw [← flatC_len]; exact (List.getElem?_eq_some_iff.1 hu).1
  obtain ⟨b, off, ha, hb, h0, h1, h2⟩ := h (j / 3) (by omega)
  cases ha
  have g3 := flatC_get cs (j / 3) (by omega)
  have ea : (⟨g, o, none⟩ : Addr).add j = ⟨g, o + j, none⟩ := by unfold Addr.add; split <;> simp_all
  rw [ea]
  rcases (show j % 3 = 0 ∨ j % 3 = 1 ∨ j % 3 = 2 by omega) with e | e | e
  · have : j / 3 * 3 = j := by omega
    rw [this] at h0 g3; rw [g3.1] at hu; rw [← hu]; exact h0
  · have : j / 3 * 3 + 1 = j := by omega
    rw [Nat.add_assoc, this] at h1; rw [this] at g3; rw [g3.2.1] at hu; rw [← hu]; exact h1
  · have : j / 3 * 3 + 2 = j := by omega
    rw [Nat.add_assoc, this] at h2; rw [this] at g3; rw [g3.2.2] at hu; rw [← hu]; exact h2
theorem cellsC_drop {w : World} {g o : Nat} {cs : List Cd} (h : CellsC w (some ⟨g, o, none⟩) cs) (k : Nat) : CellsC w (some ⟨g, o + k * 3, none⟩) (cs.drop k) := fun i hi => by
  rw [List.length_drop] at hi
  obtain ⟨b, off, ha, hb, h0, h1, h2⟩ := h (k + i) (by omega)
  cases ha
  have e : cdAt (cs.drop k) i = cdAt cs (k + i) := by unfold cdAt; rw [List.getD, List.getD, List.getElem?_drop]
  rw [e]
  refine ⟨g, o + k * 3, rfl, hb, ?_, ?_, ?_⟩
  · rw [show o + k * 3 + i * 3 = o + (k + i) * 3 by omega]; exact h0
  · rw [show o + k * 3 + i * 3 + 1 = o + (k + i) * 3 + 1 by omega]; exact h1
  · rw [show o + k * 3 + i * 3 + 2 = o + (k + i) * 3 + 2 by omega]; exact h2
theorem flatC_oneA : ∀ (cs : List Cd), ∀ u ∈ flatC cs, u.oneCell' = true
  | [], u, h => by cases h
  | c :: cs, u, h => by
    simp only [flatC, List.mem_cons] at h
    rcases h with rfl | rfl | rfl | h
    · rfl
    · rfl
    · rfl
    · exact flatC_oneA cs u h
theorem own_joinA {B : Nat} {xs ys : List Cd} {v : Value} {w : World} (h : w.ownsRow B 69 3 v (xs.length + ys.length) (flatC xs ++ flatC ys)) : OwnCards B (xs ++ ys) v w := by unfold OwnCards; rw [flatC_app, List.length_append]; exact h
theorem flatC_take : ∀ (cs : List Cd) (k : Nat), (flatC cs).take (k * 3) = flatC (cs.take k)
  | [], k => by simp [flatC]
  | c :: cs, 0 => rfl
  | c :: cs, k + 1 => by
    rw [show (k + 1) * 3 = k * 3 + 1 + 1 + 1 by omega]
    simp only [flatC, List.take_succ_cons, flatC_take cs k]
/-- The first cards of a row of the call's own. -/
theorem own_takeA {B g n cap k : Nat} {cs : List Cd} {w : World} (h : OwnCards B cs (.slice (some ⟨g, 0, none⟩) n cap) w) (hk : k ≤ cs.length) : OwnCards B (cs.take k) (.slice (some ⟨g, 0, none⟩) k cap) w := by
  obtain ⟨h1, h2⟩ := h
  have hl : (cs.take k).length = k := by rw [List.length_take]; omega
  rcases h2 with ⟨h2, _⟩ | ⟨g', cap', cur, he, hB, hg, hc, hm, hs, ht⟩
  · cases h2
  · cases he
    refine ⟨by rw [flatC_len], .inr ⟨g, cap, cur, by rw [hl], hB, hg, by rw [hl]; omega, hm, hs, ?_⟩⟩
    rw [hl, ← flatC_take, ← ht, List.take_take]
    congr 1
    omega
theorem new3S (w : World) (x0 x1 x2 : Value) (t : TypeId) : ∀ j u, [x0, x1, x2][j]? = some u → (w.alloc (.cells #[x0, x1, x2] t)).drew.cell? ((⟨w.heap.size, 0, none⟩ : Addr).add j) = some u := by
  intro j u h
  rw [World.cell?_drew]
  match j, h with
  | 0, h => simp at h; subst h; simp [Addr.add]
  | 1, h => simp at h; subst h; simp [Addr.add]
  | 2, h => simp at h; subst h; simp [Addr.add]
/-- An edit that lies in memory. -/
def EdP (w : World) (g o : Nat) (k : Int) (s : ByteArray) (h a b : Int) : Prop := w.cell? ⟨g, o, none⟩ = some (.int .i8 k) ∧ w.cell? ⟨g, o + 1, none⟩ = some (.string s) ∧ w.cell? ⟨g, o + 2, none⟩ = some (.int .i16 h) ∧ w.cell? ⟨g, o + 3, none⟩ = some (.int .u64 a) ∧ w.cell? ⟨g, o + 4, none⟩ = some (.int .u64 b)
theorem EdP.lt {w : World} {g o : Nat} {k : Int} {s : ByteArray} {h a b : Int} (x : EdP w g o k s h a b) : g < w.heap.size := World.block_lt_of_cell? _ _ x.1
theorem EdP.below {w W : World} {g o : Nat} {k : Int} {s : ByteArray} {h a b : Int} (x : EdP w g o k s h a b) (hb : Below w.heap.size w W) : EdP W g o k s h a b := by
  have l := x.lt
  exact ⟨(hb.cell (p := ⟨g, o, none⟩) l).trans x.1, (hb.cell (p := ⟨g, o + 1, none⟩) l).trans x.2.1, (hb.cell (p := ⟨g, o + 2, none⟩) l).trans x.2.2.1, (hb.cell (p := ⟨g, o + 3, none⟩) l).trans x.2.2.2.1, (hb.cell (p := ⟨g, o + 4, none⟩) l).trans x.2.2.2.2⟩
/-- What l07Apply answers. -/
def SaR (xs : List Cd) (k : Int) (w : World) (e : Ending) (w' : World) : Prop := ∃ g c, e = .returned (.tuple #[.slice (some ⟨g, 0, none⟩) xs.length c, .int .i64 k]) ∧ OwnCards w.heap.size xs (.slice (some ⟨g, 0, none⟩) xs.length c) w' ∧ Below w.heap.size w w'
theorem cardsIn_lt {w : World} {g : Nat} {cs : List Cd} (h : CardsIn w (some ⟨g, 0, none⟩) cs) (hn : 0 < cs.length) : g < w.heap.size := by
  obtain ⟨_, b, o, he, hl, _⟩ := h 0 hn
  cases he
  exact hl
theorem sa_none {w W : World} (h : Below w.heap.size w W) : OwnCards w.heap.size [] (.slice (some ⟨W.heap.size, 0, none⟩) 0 0) (W.alloc (.cells #[] 69)) := World.ownsRow_made W #[] 0 h.size (Nat.zero_le _) rfl
theorem own0A {B : Nat} {cs : List Cd} {v : Value} {w : World} (h : w.ownsRow B 69 3 v (0 + cs.length) ([] ++ flatC cs)) : OwnCards B cs v w := by rw [Nat.zero_add, List.nil_append] at h; exact h

theorem saR_of {xs : List Cd} {n g c : Nat} {k : Int} {w w' : World} {e : Ending} (hn : xs.length = n) (he : e = .returned (.tuple #[.slice (some ⟨g, 0, none⟩) n c, .int .i64 k])) (hO : OwnCards w.heap.size xs (.slice (some ⟨g, 0, none⟩) n c) w') (hB : Below w.heap.size w w') : SaR xs k w e w' := by
  subst hn
  exact ⟨g, c, he, hO, hB⟩
theorem below_drewA {B : Nat} {w W : World} (h : Below B w W) : Below B w W.drew := ⟨h.os, h.tape, h.output, h.size, h.block⟩
theorem own_formA {B : Nat} {cs : List Cd} {v : Value} {w : World} (h : OwnCards B cs v w) (hn : 0 < cs.length) : ∃ g cap, v = .slice (some ⟨g, 0, none⟩) cs.length cap ∧ B ≤ g ∧ cs.length ≤ cap := by
  rcases h.2 with ⟨_, h0⟩ | ⟨g, cap, cur, hv, hb, _, hc, _⟩
  · omega
  · exact ⟨g, cap, hv, hb, hc⟩
theorem own_form0 {B n : Nat} {xs : List Value} {v : Value} {w : World} (h : w.ownsRow B 69 3 v n xs) (hb : ∃ g, v.ownBlock = some g) : ∃ g cap, v = .slice (some ⟨g, 0, none⟩) n cap := by
  obtain ⟨g0, hb⟩ := hb
  rcases h.2 with ⟨rfl, _⟩ | ⟨g, cap, cur, hv, _⟩
  · cases hb
  · exact ⟨g, cap, hv⟩
/-- An append as the last operation of a region, of nothing too. -/
theorem yld_append {P : Program} (w : World) {o : Oper} {a : Act} {R : Value → World → Prop} (s x : Operand) (t : TypeId)
    (ho : o.op = .call { callee := .builtin .append, args := #[s, x], argTypes := #[t, t] })
    (base : Nat) (e : TypeId) (i : TypeInfo) (z : Value) (size bytes : Nat) (ht : P.underlying t = some (.slice e)) (hi : P.info? e = some i) (hz : i.zero = some z)
    (hsize : i.size = size) (hby : i.bytes = bytes) (hzs : z.cells.size = size) (hsz : 0 < size)
    (v : Value) (n : Nat) (xs : List Value) (hs : a.eval s = v) (hown : w.ownsRow base e size v n xs)
    (ad : Addr) (m c : Nat) (news : List Value) (hx : a.eval x = .slice (some ad) m c) (hl : news.length = m * size) (hnews : ∀ j u, news[j]? = some u → w.cell? (ad.add j) = some u) (h1 : ∀ u ∈ news, u.oneCell' = true)
    (h63 : n + m ≤ maxLen) (hbytes : (n + m) * bytes ≤ 140737488355328) (hbase : base ≤ w.heap.size)
    (h : ∀ v' w', w'.ownsRow base e size v' (n + m) (xs ++ news) → w.grownBy w' v.ownBlock → (v'.ownBlock = v.ownBlock ∨ v'.ownBlock = some w.heap.size) → R v' w') : Yld P R w ((execOp a.eval o).run P w) := by
  obtain ⟨v', w', hr, h2, h3, _, h5⟩ := run_append_own_at (P := P) w base t o.type e i z size bytes ht hi hz hsize hby hzs hsz v n xs hown ad m c news hl hnews h1 h63 hbytes hbase
  unfold execOp
  simp only [ho, resolve, invoke, builtin, Sem.run_bind, Sem.run_pure, Result.andThen_ok, List.map_toArray, List.map_cons, List.map_nil, hs, hx, hr]
  exact h v' w' h2 h3 h5
theorem flatC_set2 : ∀ (cs : List Cd) (i : Nat) (a b : Int), ((flatC cs).set (i * 3 + 1) (.int .u64 a)).set (i * 3 + 2) (.int .u64 b) = flatC (cs.set i ⟨(cdAt cs i).s, a, b⟩)
  | [], i, a, b => rfl
  | d :: cs, 0, a, b => rfl
  | d :: cs, i + 1, a, b => by
    rw [show (i + 1) * 3 = i * 3 + 1 + 1 + 1 by omega]
    have := flatC_set2 cs i a b
    simp only [flatC, List.set_cons_succ, this]
    rfl












end Go.Proofs.Ytbmjghkdhhcffaa
