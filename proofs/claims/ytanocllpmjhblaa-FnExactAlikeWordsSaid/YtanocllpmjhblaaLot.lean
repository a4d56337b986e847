/- Slices of slices of texts: opened, measured, copied, compared; are they a lot of lists of words. -/
import Derived.Test.YtanocllpmjhblaaStrL
import Derived.Test.YtanocllpmjhblaaWords
import Derived.Test.YtanocllpmjhblaaQuiet
import Derived.Deep.Slices
import Derived.Deep.RegionHeld
namespace Go.Proofs.Ytanocllpmjhblaa
open Go.ChangeShapes Go.WideShapes Go.ChangeAt Go.RowKit

def lsAt (ls : List (List ByteArray)) (i : Nat) : List ByteArray := ls.getD i []
theorem lsAt_map (f : Nat → List ByteArray) (n i : Nat) (h : i < n) : lsAt ((List.range n).map f) i = f i := by
  unfold lsAt; simp [List.getD, h]
/-- The lists of a slice lie in memory. -/
def LotIn (w : World) (a : Option Addr) (ls : List (List ByteArray)) : Prop := ∀ i, i < ls.length → ∃ b off sa sc, a = some ⟨b, off, none⟩ ∧ b < w.heap.size ∧
  w.cell? ⟨b, off + i, none⟩ = some (.slice sa (lsAt ls i).length sc) ∧ StrsIn w sa (lsAt ls i) ∧ Fit (lsAt ls i) ∧ (lsAt ls i).length ≤ maxLen
theorem lotIn_below {w w' : World} {a : Option Addr} {ls : List (List ByteArray)} (h : LotIn w a ls) (hb : Below w.heap.size w w') : LotIn w' a ls := fun i hi => by
  obtain ⟨b, off, sa, sc, ha, hlt, hc, hs, hf⟩ := h i hi
  exact ⟨b, off, sa, sc, ha, Nat.lt_of_lt_of_le hlt hb.size, (hb.cell hlt).trans hc, strsIn_below hs hb, hf⟩
theorem strsIn_set {w : World} {a : Option Addr} {zs : List ByteArray} {G j : Nat} {v : Value} (h : StrsIn w a zs) (hne : ∀ b off, a = some ⟨b, off, none⟩ → G ≠ b) : StrsIn (w.setCell ⟨G, j, none⟩ v) a zs := fun i hi => by
  obtain ⟨b, off, ha, hlt, hc⟩ := h i hi
  exact ⟨b, off, ha, by rw [World.size_setCell]; exact hlt, (World.cell?_setCell_far w ⟨G, j, none⟩ ⟨b, off + i, none⟩ v (hne b off ha)).trans hc⟩

theorem open_lot {H : Type} {enc : TypeId × Value → H} {P : Program} {W : World} {t e u : TypeId} {v : Value} {d : DataW H} {p : List MemPlace} {r : Reach} {b : Nat} (ht : P.underlying t = some (.slice e)) (he : P.underlying e = some (.slice u)) (hu : P.underlying u = some .string) (ce : P.cellsOf e = 1) (cu : P.cellsOf u = 1)
    (hv : Value.okWide P W r b t v) (h : DataW.Trod enc P W 0 (fun _ => true) true t v d p) : ∃ a ls cap, v = .slice a ls.length cap ∧ LotIn W a ls ∧ ls.length ≤ maxLen := by
  obtain ⟨a0, len, cap, rfl⟩ := okWide_slice ht hv
  obtain ⟨fuel, hf⟩ := h
  rcases Go.Deep.open_slice1 ht ce hf with ⟨hcs, _⟩ | ⟨a, len', cap', m, n, V, D, Pl, hcs, _, hl, hcm, hm, _, hi⟩
  · simp [Value.cells] at hcs
    obtain ⟨rfl, rfl, rfl⟩ := hcs
    exact ⟨none, [], 0, rfl, fun i hi => by simp at hi, by simp⟩
  · simp [Value.cells] at hcs
    obtain ⟨rfl, rfl, rfl⟩ := hcs
    simp at hm
    subst hm
    have key : ∀ i, i < len → ∃ zs : List ByteArray, ∃ sa sc, W.cell? (a.add i) = some (.slice sa zs.length sc) ∧ StrsIn W sa zs ∧ Fit zs ∧ zs.length ≤ maxLen := by
      intro i hi'
      obtain ⟨hc, hd⟩ := hi i (by omega)
      rcases open_strings he hu cu hd with ⟨hcs, _⟩ | ⟨sa, l, c, ss, hcs, _, hl2, hm2, hz2, _, hcell, hsz⟩
      · simp at hcs
        rw [hcs] at hc
        exact ⟨[], none, 0, hc, fun i hi => by simp at hi, fun i hi => by simp at hi, by simp⟩
      · simp at hcs hz2
        rw [hcs] at hc
        have hd2 : ∀ j, j < l → (ss.take l).getD j ⟨#[]⟩ = ss.getD j ⟨#[]⟩ := fun j hj => by simp [List.getD, hj]
        refine ⟨ss.take l, some sa, c, by rw [hc, List.length_take, Nat.min_eq_left (by omega)], fun j hj => ?_, fun j hj => ?_, by rw [List.length_take]; omega⟩
        · rw [List.length_take] at hj
          obtain ⟨b, off, rfl, hcc⟩ := strs_at hcell (by omega)
          have h2 := hcc j (by omega)
          refine ⟨b, off, rfl, World.block_lt_of_cell? _ _ h2, ?_⟩
          rw [h2, hd2 j (by omega)]
          rfl
        · rw [List.length_take] at hj
          have hj2 : j < ss.length := by omega
          rw [hd2 j (by omega), show ss.getD j ⟨#[]⟩ = ss[j] by simp [List.getD, hj2]]
          exact hsz _ (List.getElem_mem hj2)
    obtain ⟨f, hf2⟩ := Go.Deep.choose_lt key
    refine ⟨some a, (List.range len).map f, m, by simp, fun i hi' => ?_, by simp; omega⟩
    simp at hi'
    rw [lsAt_map f len i hi']
    obtain ⟨sa, sc, q0, q1, q2, q3⟩ := hf2 i hi'
    obtain ⟨b, off, spot⟩ := a
    have hspot : spot = none := by
      obtain ⟨sa0, sc0, z0, _⟩ := hf2 0 (by omega)
      simpa [Addr.add] using World.cell?_spot z0
    subst hspot
    exact ⟨b, off, sa, sc, rfl, by have h := World.block_lt_of_cell? _ _ q0; rw [Go.WideShapes.add_plain] at h; exact h, by rw [← Go.WideShapes.add_plain]; exact q0, q1, q2, q3⟩

/-! ### Measured -/
def LotSmall (ls : List (List ByteArray)) : Prop := ls.length ≤ 1048576 ∧ ∀ i, i < ls.length → (lsAt ls i).length ≤ 1048576
def SzLot (ls : List (List ByteArray)) (w : World) (e : Ending) (w' : World) : Prop := ∃ z : Int, e = .returned (.int .i64 z) ∧ -1 ≤ z ∧ z ≤ 1048576 ∧ (0 ≤ z → LotSmall ls) ∧ w = w'
def LoTo (ls : List (List ByteArray)) (n : Nat) : Prop := ∀ i, i < n → (lsAt ls i).length ≤ 1048576
theorem loTo_next {ls : List (List ByteArray)} {n : Nat} (h : LoTo ls n) (k : (lsAt ls n).length ≤ 1048576) : LoTo ls (n + 1) := fun i hi => by
  by_cases e : i = n
  · subst e; exact k
  · exact h i (by omega)


/-! ### Compared -/

/-! ### Copied -/
def RowL (w : World) (G : Nat) (ls : List (List ByteArray)) (k : Nat) (xs : List Value) : Prop := xs.length = ls.length ∧ ∀ i, i < ls.length →
  (i < k → ∃ g, xs[i]? = some (.slice (some ⟨g, 0, none⟩) (lsAt ls i).length (lsAt ls i).length) ∧ G < g ∧ StrsIn w (some ⟨g, 0, none⟩) (lsAt ls i)) ∧ (¬ i < k → xs[i]? = some (.slice none 0 0))
theorem rowL_below {w w' : World} {G : Nat} {ls : List (List ByteArray)} {k : Nat} {xs : List Value} (h : RowL w G ls k xs) (hb : Below w.heap.size w w') : RowL w' G ls k xs := by
  refine ⟨h.1, fun i hi => ⟨fun hk => ?_, (h.2 i hi).2⟩⟩
  obtain ⟨g, h1, h2, h3⟩ := (h.2 i hi).1 hk
  exact ⟨g, h1, h2, strsIn_below h3 hb⟩
theorem rowL_next {w : World} {G g : Nat} {ls : List (List ByteArray)} {k : Nat} {xs : List Value} (h : RowL w G ls k xs) (hk : k < ls.length) (hg : G < g) (hs : StrsIn w (some ⟨g, 0, none⟩) (lsAt ls k)) :
    RowL (w.setCell ⟨G, k, none⟩ (.slice (some ⟨g, 0, none⟩) (lsAt ls k).length (lsAt ls k).length)) G ls (k + 1) (xs.set k (.slice (some ⟨g, 0, none⟩) (lsAt ls k).length (lsAt ls k).length)) := by
  refine ⟨by rw [List.length_set]; exact h.1, fun i hi => ⟨fun hik => ?_, fun hik => ?_⟩⟩
  · rw [List.getElem?_set]
    by_cases e : k = i
    · subst e
      rw [if_pos rfl, if_pos (by rw [h.1]; exact hk)]
      exact ⟨g, rfl, hg, strsIn_set hs fun b off hb => by injection hb with hb; injection hb with hb; omega⟩
    · rw [if_neg e]
      obtain ⟨g', h1, h2, h3⟩ := (h.2 i hi).1 (by omega)
      exact ⟨g', h1, h2, strsIn_set h3 fun b off hb => by injection hb with hb; injection hb with hb; omega⟩
  · rw [List.getElem?_set, if_neg (by omega)]
    exact (h.2 i hi).2 (by omega)

theorem info_strs : (Try.prog.info? 25).map (fun i => (i.zero, i.size, i.bytes)) = some (some (.slice none 0 0), 1, 24) := by kernel_rfl

def NewL (ls : List (List ByteArray)) (w : World) (e : Ending) (w' : World) : Prop := ∃ a, e = .returned (.slice a ls.length ls.length) ∧ LotIn w' a ls ∧ Below w.heap.size w w'
theorem ownsRow_belowL {w w' : World} {B e size n : Nat} {v : Value} {xs : List Value} (h : w.ownsRow B e size v n xs) (hb : Below w.heap.size w w') : w'.ownsRow B e size v n xs := by
  obtain ⟨h1, h2⟩ := h
  refine ⟨h1, ?_⟩
  rcases h2 with hn | ⟨g, cap, cur, rfl, hB, hg, rest⟩
  · exact .inl hn
  · exact .inr ⟨g, cap, cur, rfl, hB, (hb.block g (Array.getElem?_eq_some_iff.1 hg).1).trans hg, rest⟩

end Go.Proofs.Ytanocllpmjhblaa
