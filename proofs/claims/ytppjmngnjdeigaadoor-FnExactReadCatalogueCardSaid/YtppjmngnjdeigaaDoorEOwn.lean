/- Contracts: a copy of a catalogue, the program's (slices.Clone) and the model's; a copy with one entry more. -/
import Derived.Test.YtppjmngnjdeigaaDoorEMarkC
import Derived.Test.YtppjmngnjdeigaaDoorAtE
import Derived.Test.YtppjmngnjdeigaaDoorOwns
import Derived.Laws.MakeOwn
import Derived.Lib.LazyBuf
namespace Go.Proofs.YtppjmngnjdeigaaDoor
open Go.ChangeShapes Go.WideShapes Go.ChangeAt Go.RowKit

theorem flatE_one : ∀ (cs : List Et), ∀ u ∈ flatE cs, u.oneCell' = true
  | [], u, h => by cases h
  | c :: cs, u, h => by
    simp only [flatE, List.mem_cons] at h
    rcases h with rfl | rfl | rfl | h
    · rfl
    · rfl
    · rfl
    · exact flatE_one cs u h
theorem new3E (w : World) (x y z : Value) (t : TypeId) : ∀ j u, [x, y, z][j]? = some u → (w.alloc (.cells #[x, y, z] t)).cell? ((⟨w.heap.size, 0, none⟩ : Addr).add j) = some u := by
  intro j u h
  match j, h with
  | 0, h => simp at h; subst h; simp [Addr.add]
  | 1, h => simp at h; subst h; simp [Addr.add]
  | 2, h => simp at h; subst h; simp [Addr.add]
theorem flatE_cell {w : World} {x : Addr} {cs : List Et} (h : EntsIn w (some x) cs) : ∀ j u, (flatE cs)[j]? = some u → w.cell? (x.add j) = some u ∧ x.block < w.heap.size := by
  intro j u hj
  have hl : j < cs.length * 3 := by have := (List.getElem?_eq_some_iff.1 hj).1; rwa [flatE_len] at this
  obtain ⟨_, b, o, he, hlt, h0, h1, h2⟩ := h (j / 3) (by omega)
  cases he
  have g := flatE_get cs (j / 3) (by omega)
  rw [Go.WideShapes.add_plain]
  rcases (show j % 3 = 0 ∨ j % 3 = 1 ∨ j % 3 = 2 by omega) with e | e | e
  · rw [show j = j / 3 * 3 by omega, g.1] at hj
    cases hj
    exact ⟨by rw [show o + j = o + j / 3 * 3 by omega]; exact h0, hlt⟩
  · rw [show j = j / 3 * 3 + 1 by omega, g.2.1] at hj
    cases hj
    exact ⟨by rw [show o + j = o + j / 3 * 3 + 1 by omega]; exact h1, hlt⟩
  · rw [show j = j / 3 * 3 + 2 by omega, g.2.2] at hj
    cases hj
    exact ⟨by rw [show o + j = o + j / 3 * 3 + 2 by omega]; exact h2, hlt⟩
theorem ents_nil {w : World} {cs : List Et} (h : EntsIn w none cs) : cs = [] := by
  cases cs with
  | nil => rfl
  | cons c cs => obtain ⟨_, b, o, he, _⟩ := h 0 (by simp); cases he
theorem flatE_past {w : World} {ad : Option Addr} {cs : List Et} (h : EntsIn w ad cs) (x : Addr) (hx : ad = some x ∨ cs = []) (o : Obj) : ∀ j u, (flatE cs)[j]? = some u → (w.alloc o).cell? (x.add j) = some u := by
  intro j u hj
  rcases hx with rfl | rfl
  · obtain ⟨hc, hl⟩ := flatE_cell h j u hj
    refine Lib.cell?_alloc_some _ hc
  · simp [flatE] at hj
/-- A row of entries of the call's own. -/
def EListR (cs : List Et) (w : World) (e : Ending) (w' : World) : Prop := ∃ v, e = .returned v ∧ OwnEnts w.heap.size cs v w' ∧ Below w.heap.size w w'
theorem ownE_nil (w : World) (B : Nat) : OwnEnts B [] (.slice none 0 0) w := World.ownsRow_nil w B _ 3
theorem ownE_made {w : World} {n B : Nat} (hn : n = w.heap.size) (hB : B ≤ w.heap.size) : OwnEnts B [] (.slice (some ⟨n, 0, none⟩) 0 0) (w.alloc (.cells #[] 81)) := by
  subst hn; exact World.ownsRow_made w #[] 0 hB (Nat.zero_le _) rfl
theorem ownE_lt {B : Nat} {cs : List Et} {v : Value} {w : World} (h : OwnEnts B cs v w) : ∀ j, v.ownBlock = some j → B ≤ j := fun j hj => (World.ownsRow.lt h j hj).1
theorem ownE_all {B : Nat} {cs : List Et} {v : Value} {w : World} (h : w.ownsRow B 81 3 v (0 + cs.length) ([] ++ flatE cs)) : OwnEnts B cs v w := by unfold OwnEnts; simpa using h
theorem ownE_push {B : Nat} {cs : List Et} {s : ByteArray} {a b : Int} {v : Value} {w : World} (h : w.ownsRow B 81 3 v (cs.length + 1) (flatE cs ++ [.string s, .int .i64 a, .int .i64 b])) : OwnEnts B (cs ++ [⟨s, a, b⟩]) v w := by
  unfold OwnEnts; rw [flatE_app, List.length_append]; exact h


end Go.Proofs.YtppjmngnjdeigaaDoor
