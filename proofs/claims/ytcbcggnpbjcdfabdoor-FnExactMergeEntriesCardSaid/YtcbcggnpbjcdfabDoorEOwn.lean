/- Contracts: a copy of a catalogue, the program's (slices.Clone) and the model's; a copy with one entry more. -/
import Derived.Test.YtcbcggnpbjcdfabDoorEMarkC
import Derived.Test.YtcbcggnpbjcdfabDoorAtE
import Derived.Test.YtcbcggnpbjcdfabDoorOwns
import Derived.Laws.MakeOwn
import Derived.Lib.LazyBuf
namespace Go.Proofs.YtcbcggnpbjcdfabDoor
open Go.ChangeShapes Go.WideShapes Go.ChangeAt Go.RowKit

theorem flatE_one : ∀ (cs : List Et), ∀ u ∈ flatE cs, u.oneCell' = true
  | [], u, h => by cases h
  | c :: cs, u, h => by
    simp only [flatE, List.mem_cons] at h
    rcases h with rfl | rfl | rfl | h
    · rfl
    · rfl
    · rfl
    · exact flatE_one cs u h
theorem new3E (w : World) (x y z : Value) (t : TypeId) : ∀ j u, [x, y, z][j]? = some u → (w.alloc (.cells #[x, y, z] t)).cell? ((⟨w.heap.size, 0, none⟩ : Addr).add j) = some u := by
  intro j u h
  match j, h with
  | 0, h => simp at h; subst h; simp [Addr.add]
  | 1, h => simp at h; subst h; simp [Addr.add]
  | 2, h => simp at h; subst h; simp [Addr.add]
theorem flatE_cell {w : World} {x : Addr} {cs : List Et} (h : EntsIn w (some x) cs) : ∀ j u, (flatE cs)[j]? = some u → w.cell? (x.add j) = some u ∧ x.block < w.heap.size := by
  intro j u hj
  have hl : j < cs.length * 3 := by have := (List.getElem?_eq_some_iff.1 hj).1; rwa [flatE_len] at this
  obtain ⟨_, b, o, he, hlt, h0, h1, h2⟩ := h (j / 3) (by omega)
  cases he
  have g := flatE_get cs (j / 3) (by omega)
  rw [Go.WideShapes.add_plain]
  rcases (show j % 3 = 0 ∨ j % 3 = 1 ∨ j % 3 = 2 by omega) with e | e | e
  · rw [show j = j / 3 * 3 by omega, g.1] at hj
    cases hj
    exact ⟨by rw [show o + j = o + j / 3 * 3 by omega]; exact h0, hlt⟩
  · rw [show j = j / 3 * 3 + 1 by omega, g.2.1] at hj
    cases hj
    exact ⟨by rw [show o + j = o + j / 3 * 3 + 1 by omega]; exact h1, hlt⟩
  · rw [show j = j / 3 * 3 + 2 by omega, g.2.2] at hj
    cases hj
    exact ⟨by rw [show o + j = o + j / 3 * 3 + 2 by omega]; exact h2, hlt⟩
theorem ents_nil {w : World} {cs : List Et} (h : EntsIn w none cs) : cs = [] := by
  cases cs with
  | nil => rfl
  | cons c cs => obtain ⟨_, b, o, he, _⟩ := h 0 (by simp); cases he
theorem flatE_past {w : World} {ad : Option Addr} {cs : List Et} (h : EntsIn w ad cs) (x : Addr) (hx : ad = some x ∨ cs = []) (o : Obj) : ∀ j u, (flatE cs)[j]? = some u → (w.alloc o).cell? (x.add j) = some u := by
  intro j u hj
  rcases hx with rfl | rfl
  · obtain ⟨hc, hl⟩ := flatE_cell h j u hj
    refine Lib.cell?_alloc_some _ hc
  · simp [flatE] at hj
/-- A row of entries of the call's own. -/
def EListR (cs : List Et) (w : World) (e : Ending) (w' : World) : Prop := ∃ v, e = .returned v ∧ OwnEnts w.heap.size cs v w' ∧ Below w.heap.size w w'
theorem ownE_nil (w : World) (B : Nat) : OwnEnts B [] (.slice none 0 0) w := World.ownsRow_nil w B _ 3
theorem ownE_made {w : World} {n B : Nat} (hn : n = w.heap.size) (hB : B ≤ w.heap.size) : OwnEnts B [] (.slice (some ⟨n, 0, none⟩) 0 0) (w.alloc (.cells #[] 63)) := by
  subst hn; exact World.ownsRow_made w #[] 0 hB (Nat.zero_le _) rfl
theorem ownE_lt {B : Nat} {cs : List Et} {v : Value} {w : World} (h : OwnEnts B cs v w) : ∀ j, v.ownBlock = some j → B ≤ j := fun j hj => (World.ownsRow.lt h j hj).1
theorem ownE_all {B : Nat} {cs : List Et} {v : Value} {w : World} (h : w.ownsRow B 63 3 v (0 + cs.length) ([] ++ flatE cs)) : OwnEnts B cs v w := by unfold OwnEnts; simpa using h
theorem ownE_push {B : Nat} {cs : List Et} {s : ByteArray} {a b : Int} {v : Value} {w : World} (h : w.ownsRow B 63 3 v (cs.length + 1) (flatE cs ++ [.string s, .int .i64 a, .int .i64 b])) : OwnEnts B (cs ++ [⟨s, a, b⟩]) v w := by
  unfold OwnEnts; rw [flatE_app, List.length_append]; exact h

set_option maxRecDepth 100000 in
set_option maxHeartbeats 1600000 in
theorem iClone_any (ad : Option Addr) (cs : List Et) (c : Nat) (w : World) (hc : EntsIn w ad cs) (hn : cs.length ≤ 1048576) :
    Calls Tryd.prog 65 #[.slice ad cs.length c] w (EListR cs w) := by
  obtain ⟨i0, hi, hz0, hz1, hz2⟩ := info_parts info_entry
  have q : ∀ (w : World) (a : Option Addr) (n c : Nat), (binOp .eql 73 (.slice a n c) (.slice none 0 0)).run Tryd.prog w = .ok (.bool a.isNone) w := fun w a n c => Lib.run_eql_slice_nil w _ _ a n c 0 0 Tryd.underlying73
  cases ad with
  | none =>
    have e := ents_nil hc
    subst e
    go_enter Tryd.func65, Tryd.ntmps65
    go_wp2
    go_ret
    exact ⟨_, rfl, ownE_nil _ _, Below.refl _ _⟩
  | some x =>
    have F := Lib.hid (flatE_past hc x (.inl rfl) (.cells #[] 63))
    clear hc
    go_enter Tryd.func65, Tryd.ntmps65
    go_wp2_with (at_builtin; go_loud (refine wpList_append_own _ rfl _ _ 73 rfl w.heap.size 63 i0 (.agg #[.string ByteArray.empty, .int .i64 0, .int .i64 0]) 3 32 Tryd.underlying73 hi hz0 hz1 hz2 rfl (by decide) _ _ _ rfl (World.ownsRow_made w #[] 0 (Nat.le_refl _) (Nat.zero_le _) rfl) x cs.length c (flatE cs) rfl (flatE_len cs) F.out (flatE_one cs) (by unfold maxLen; omega) (by omega) (by simp) ?_; intro v' w1 hown hgrow _; have P := Lib.hid (ownE_all hown); have G := Lib.hid (Below.grown ((Below.refl w.heap.size w).alloc (Nat.le_refl _) _) hgrow (by simp) (ownE_lt (ownE_made rfl (Nat.le_refl w.heap.size)))); clear hown hgrow))
    go_ret
    exact ⟨_, rfl, P.out, G.out⟩

set_option maxRecDepth 100000 in
set_option maxHeartbeats 1600000 in
theorem sCopy_any (ad : Option Addr) (cs : List Et) (c : Nat) (w : World) (hc : EntsIn w ad cs) (hn : cs.length ≤ 1048576) :
    Calls Tryd.prog 59 #[.slice ad cs.length c] w (EListR cs w) := by
  obtain ⟨i0, hi, hz0, hz1, hz2⟩ := info_parts info_entry
  cases ad with
  | none =>
    have e := ents_nil hc
    subst e
    go_enter Tryd.func59, Tryd.ntmps59
    go_wp2
    go_ret
    exact ⟨_, rfl, ownE_made rfl (Nat.le_refl _), below_new (Below.refl _ _) _⟩
  | some x =>
    have F := Lib.hid (flatE_past hc x (.inl rfl) (.cells #[] 63))
    clear hc
    go_enter Tryd.func59, Tryd.ntmps59
    go_wp2_with (at_builtin; go_loud (refine wpList_append_own _ rfl _ _ 24 rfl w.heap.size 63 i0 (.agg #[.string ByteArray.empty, .int .i64 0, .int .i64 0]) 3 32 Tryd.underlying24 hi hz0 hz1 hz2 rfl (by decide) _ _ _ rfl (World.ownsRow_made w #[] 0 (Nat.le_refl _) (Nat.zero_le _) rfl) x cs.length c (flatE cs) rfl (flatE_len cs) F.out (flatE_one cs) (by unfold maxLen; omega) (by omega) (by simp) ?_; intro v' w1 hown hgrow _; have P := Lib.hid (ownE_all hown); have G := Lib.hid (Below.grown ((Below.refl w.heap.size w).alloc (Nat.le_refl _) _) hgrow (by simp) (ownE_lt (ownE_made rfl (Nat.le_refl w.heap.size)))); clear hown hgrow))
    go_ret
    exact ⟨_, rfl, P.out, G.out⟩
end Go.Proofs.YtcbcggnpbjcdfabDoor
