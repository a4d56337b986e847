/- The first common entry of two paths, in plain words. -/
import Derived.Test.YtcbcggnpbjcdfaaDoorLeadsI
import Derived.Test.YtcbcggnpbjcdfaaDoorEMap
import Derived.Test.YtcbcggnpbjcdfaaDoorRngA
import Derived.Test.YtcbcggnpbjcdfaaDoorPathX
import Derived.Test.YtcbcggnpbjcdfaaDoorFloat
namespace Go.Proofs.YtcbcggnpbjcdfaaDoor
open Go.ChangeShapes Go.WideShapes Go.ChangeAt Go.RowKit

def hitB (cs : List Et) (pi pk : Int) (m : Nat) : Prop := up cs m pi ∈ segI cs pk (plen cs pk)
def CBR (cs : List Et) (pi pk : Int) (v c : Int) : Prop :=
  (∃ m, m < plen cs pi ∧ hitB cs pi pk m ∧ (∀ j, j < m → ¬ hitB cs pi pk j) ∧ v = up cs m pi ∧ c = 0) ∨ ((∀ m, m < plen cs pi → ¬ hitB cs pi pk m) ∧ v = 0 ∧ c = 6)
theorem cbr_one {cs : List Et} {pi pk v c v' c' : Int} (h : CBR cs pi pk v c) (h' : CBR cs pi pk v' c') : v = v' ∧ c = c' := by
  rcases h with ⟨m, h1, h2, h3, rfl, rfl⟩ | ⟨h1, rfl, rfl⟩ <;> rcases h' with ⟨m', k1, k2, k3, rfl, rfl⟩ | ⟨k1, rfl, rfl⟩
  · have e : m = m' := by
      rcases Nat.lt_trichotomy m m' with q | q | q
      · exact absurd h2 (k3 m q)
      · exact q
      · exact absurd k2 (h3 m' q)
    rw [e]; exact ⟨rfl, rfl⟩
  · exact absurd h2 (k1 m h1)
  · exact absurd k2 (h1 m' k1)
  · exact ⟨rfl, rfl⟩
theorem cbr_some (cs : List Et) (pi pk : Int) : ∃ v c, CBR cs pi pk v c := by
  by_cases h : ∃ m, m < plen cs pi ∧ hitB cs pi pk m
  · obtain ⟨⟨h1, h2⟩, h3⟩ := leastOf_spec h
    exact ⟨_, _, .inl ⟨leastOf _, h1, h2, fun j hj hh => absurd (h3 j ⟨Nat.lt_trans hj h1, hh⟩) (by omega), rfl, rfl⟩⟩
  · exact ⟨_, _, .inr ⟨fun m hm hh => h ⟨m, hm, hh⟩, rfl, rfl⟩⟩
theorem eTo_le {cs : List Et} {n j : Nat} (h : eTo cs n = true) (hj : j < n) : eTo cs (j + 1) = true := by
  cases e : eTo cs (j + 1)
  · rw [eTo_no e n hj] at h; cases h
  · rfl
theorem ent_lt {cs : List Et} {n i j : Nat} (h : eTo cs n = true) (hij : i < j) (hj : j < n) (e : etAt cs i = etAt cs j) : False := by
  have h1 := eTo_le h hj
  have h2 : hasN (enTo cs j) (etAt cs j).s = true := ehasN_mono (k := i) (by rw [e, ebytes_beq]; simp) j hij
  rw [eTo_twice h2] at h1
  cases h1
theorem ent_inj {cs : List Et} {n i j : Nat} (h : eTo cs n = true) (hi : i < n) (hj : j < n) (e : etAt cs i = etAt cs j) : i = j := by
  rcases Nat.lt_trichotomy i j with q | q | q
  · exact (ent_lt h q hj e).elim
  · exact q
  · exact (ent_lt h q hi e.symm).elim
theorem set_hit {cs : List Et} {p : Int} {m q : Nat} (hT : eTo cs cs.length = true) (hp : pref cs p = true) (hm : There cs p m) (hq : q < cs.length) :
    hasE ((seg cs p m).map (etAt cs)) (etAt cs q) = decide ((q : Int) ∈ segI cs p m) := by
  have key : etAt cs q ∈ (seg cs p m).map (etAt cs) ↔ (q : Int) ∈ segI cs p m := by
    unfold seg segI
    constructor
    · intro h
      obtain ⟨r, hr, e⟩ := List.mem_map.1 h
      obtain ⟨k, hk, rfl⟩ := List.mem_map.1 hr
      have hp2 := pref_iff.1 ((up_pref hT hp k).resolve_left (hm k (List.mem_range.1 hk)))
      have := ent_inj hT (by omega) hq e
      exact List.mem_map.2 ⟨k, hk, by omega⟩
    · intro h
      obtain ⟨k, hk, e⟩ := List.mem_map.1 h
      exact List.mem_map.2 ⟨q, List.mem_map.2 ⟨k, hk, by rw [e]; simp⟩, rfl⟩
  by_cases h : (q : Int) ∈ segI cs p m
  · rw [hasE_yes (key.2 h), decide_eq_true h]
  · rw [hasE_no fun k => h (key.1 k), decide_eq_false h]

/-- The closure's boxes: two results, the map, and where it is told. -/
def CBx (w W : World) : Prop :=
  W.cell? ⟨w.heap.size, 0, none⟩ = some (.int .i64 0) ∧ W.frozen? ⟨w.heap.size, 0, none⟩ = false ∧ W.cell? ⟨w.heap.size + 1, 0, none⟩ = some (.int .i64 0) ∧ W.frozen? ⟨w.heap.size + 1, 0, none⟩ = false ∧ W.cell? ⟨w.heap.size + 1 + 1 + 1, 0, none⟩ = some (.map (some (w.heap.size + 1 + 1)))
theorem CBx.kept {w A B : World} {b : Nat} (h : CBx w A) (k : Below b A B) (hb : w.heap.size + 4 ≤ b) (_hA : b ≤ A.heap.size) : CBx w B := by
  obtain ⟨c0, f0, c1, f1, c3⟩ := h
  exact ⟨(k.cell (p := ⟨w.heap.size, 0, none⟩) (by simp; omega)).trans c0, (k.frozen (p := ⟨w.heap.size, 0, none⟩) (by simp; omega)).trans f0, (k.cell (p := ⟨w.heap.size + 1, 0, none⟩) (by simp; omega)).trans c1, (k.frozen (p := ⟨w.heap.size + 1, 0, none⟩) (by simp; omega)).trans f1, (k.cell (p := ⟨w.heap.size + 1 + 1 + 1, 0, none⟩) (by simp; omega)).trans c3⟩
theorem CBx.grown {w A B : World} (h : CBx w A) (hg : A.grownBy B (some (w.heap.size + 1 + 1))) : CBx w B := by
  obtain ⟨c0, f0, c1, f1, c3⟩ := h
  have l0 := World.block_lt_of_cell? A _ c0
  have l1 := World.block_lt_of_cell? A _ c1
  exact ⟨hg.cell c0 (by simp <;> omega), (World.frozen?_of_block (hg.block _ l0 (by simp <;> omega))).trans f0, hg.cell c1 (by simp <;> omega), (World.frozen?_of_block (hg.block _ l1 (by simp <;> omega))).trans f1, hg.cell c3 (by simp <;> omega)⟩
theorem blocks4 (w : World) (T : TypeId) :
    CBx w ((((w.alloc (.cells #[.int .i64 0] 2)).alloc (.cells #[.int .i64 0] 2)).alloc (.map #[] 0)).alloc (.cells #[.map (some (w.heap.size + 1 + 1))] T)) ∧
    EntSet ((((w.alloc (.cells #[.int .i64 0] 2)).alloc (.cells #[.int .i64 0] 2)).alloc (.map #[] 0)).alloc (.cells #[.map (some (w.heap.size + 1 + 1))] T)) (w.heap.size + 1 + 1) [] := by
  have a1 := World.alloc_heap_new w (.cells #[.int .i64 0] 2)
  have a2 := World.alloc_heap_new (w.alloc (.cells #[.int .i64 0] 2)) (.cells #[.int .i64 0] 2)
  have a4 := World.alloc_heap_new (((w.alloc (.cells #[.int .i64 0] 2)).alloc (.cells #[.int .i64 0] 2)).alloc (.map #[] 0)) (.cells #[.map (some (w.heap.size + 1 + 1))] T)
  have e3 := entSet_made ((w.alloc (.cells #[.int .i64 0] 2)).alloc (.cells #[.int .i64 0] 2))
  simp only [World.size_alloc] at a2 a4 e3
  have b1 := (Below.heap_alloc (w.alloc (.cells #[.int .i64 0] 2)) (.cells #[.int .i64 0] 2) w.heap.size (by simp)).trans a1
  have d1 := (Below.heap_alloc _ (.map #[] 0) w.heap.size (by simp; omega)).trans b1
  have g1 := (Below.heap_alloc _ (.cells #[.map (some (w.heap.size + 1 + 1))] T) w.heap.size (by simp; omega)).trans d1
  have d2 := (Below.heap_alloc _ (.map #[] 0) (w.heap.size + 1) (by simp)).trans a2
  have g2 := (Below.heap_alloc _ (.cells #[.map (some (w.heap.size + 1 + 1))] T) (w.heap.size + 1) (by simp)).trans d2
  exact ⟨⟨cell_of_block g1 0, free_of_block g1 0, cell_of_block g2 0, free_of_block g2 0, cell_of_block a4 0⟩, e3.kept (Below.heap_alloc _ _ _ (by simp))⟩
end Go.Proofs.YtcbcggnpbjcdfaaDoor
