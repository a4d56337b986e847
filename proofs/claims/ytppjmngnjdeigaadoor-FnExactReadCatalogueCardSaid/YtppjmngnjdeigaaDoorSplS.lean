/- Contracts: a text split at a byte, the model's loop. -/
import Derived.Test.YtppjmngnjdeigaaDoorSpl
import Derived.Test.YtppjmngnjdeigaaDoorStrL
import Derived.Laws.MakeOwn
import Derived.Laws.DeepStrings4
namespace Go.Proofs.YtppjmngnjdeigaaDoor
open Go.ChangeShapes Go.WideShapes Go.ChangeAt Go.RowKit

/-- The slice's texts are these, in a row of the call's own from block B on. -/
def OwnStrs (B : Nat) (ps : List ByteArray) (v : Value) (w : World) : Prop := w.ownsRow B 9 1 v ps.length (ps.map Value.string)
theorem ownStrs_in {B : Nat} {ps : List ByteArray} {v : Value} {w : World} (h : OwnStrs B ps v w) : ∃ a c, v = .slice a ps.length c ∧ StrsIn w a ps := by
  have h0 := h
  obtain ⟨_, h2⟩ := h
  rcases h2 with ⟨rfl, hn⟩ | ⟨g, cap, cur, rfl, hb, hg, _⟩
  · exact ⟨none, 0, by rw [hn], fun i hi => by omega⟩
  · refine ⟨_, cap, rfl, fun i hi => ⟨g, 0, rfl, (Array.getElem?_eq_some_iff.1 hg).1, ?_⟩⟩
    have := World.ownsRow.cellAt h0 i (by omega)
    rw [Nat.zero_add, this, List.getElem?_map, List.getElem?_eq_getElem hi]
    simp [List.getD, hi]
theorem ownStrs_kept {B : Nat} {ps : List ByteArray} {v : Value} {w w' : World} (h : OwnStrs B ps v w) (hb : Below w.heap.size w w') : OwnStrs B ps v w' := by
  obtain ⟨h1, h2⟩ := h
  refine ⟨h1, ?_⟩
  rcases h2 with hn | ⟨g, cap, cur, rfl, hB, hg, rest⟩
  · exact .inl hn
  · exact .inr ⟨g, cap, cur, rfl, hB, (hb.block g (Array.getElem?_eq_some_iff.1 hg).1).trans hg, rest⟩
theorem ownStrs_none {w : World} {n B : Nat} (hn : n = w.heap.size) (hB : B ≤ w.heap.size) : OwnStrs B [] (.slice (some ⟨n, 0, none⟩) 0 0) (w.alloc (.cells #[] 9)) := by
  subst hn; exact World.ownsRow_made w #[] 0 hB (Nat.zero_le _) rfl
theorem ownStrs_push {B : Nat} {ps : List ByteArray} {x : ByteArray} {v : Value} {w : World} (h : w.ownsRow B 9 1 v (ps.length + 1) (ps.map Value.string ++ [.string x])) : OwnStrs B (ps ++ [x]) v w := by unfold OwnStrs; simpa using h
theorem ownStrs_lt {B : Nat} {ps : List ByteArray} {v : Value} {w : World} (h : OwnStrs B ps v w) : ∀ j, v.ownBlock = some j → B ≤ j := fun j hj => (World.ownsRow.lt h j hj).1
theorem one_newS (w : World) (x : Value) (t : TypeId) : ∀ j u, [x][j]? = some u → (w.alloc (.cells #[x] t)).cell? ((⟨w.heap.size, 0, none⟩ : Addr).add j) = some u := by
  intro j u h
  cases j with
  | zero => simp at h; subst h; simp [Addr.add]
  | succ => simp at h

/-- A new slice of texts. -/
def StrsR (ps : List ByteArray) (w : World) (e : Ending) (w' : World) : Prop := ∃ v, e = .returned v ∧ OwnStrs w.heap.size ps v w' ∧ Below w.heap.size w w'

set_option maxRecDepth 100000 in
set_option maxHeartbeats 1600000 in
theorem sSplitAt_any (s : ByteArray) (c : UInt8) (hs : s.size ≤ 4000000) (w : World) :
    Calls Tryd.prog 24 #[.string s, .int .u8 c.toNat] w (StrsR (pieces c s) w) := by
  obtain ⟨i0, hi, hz0, hz1, hz2⟩ := info_parts info_str
  go_enter Tryd.func24, Tryd.ntmps24
  go_wp2
  go_loopw [5, 6, 7] (fun v b i wr => ∃ (done : List ByteArray) (k j : Nat), SplAt c s done k j ∧ i = .int .i64 j ∧ b = .int .i64 k ∧ OwnStrs w.heap.size done v wr ∧ Below w.heap.size w wr) (fun _ _ i _ => s.size - (intOf i).toNat)
  case atStart => exact ⟨[], 0, 0, splAt_start c s, rfl, rfl, ownStrs_none rfl (Nat.le_refl _), below_new (Below.refl _ _) _⟩
  case round =>
    obtain ⟨done, k, j, hS, rfl, rfl, O, hB⟩ := hrel
    have OO := Lib.hid O
    have BB := Lib.hid hB
    have SP := Lib.hid hS
    have hk := hS.le
    have hj := hS.lt
    have hn := hS.len
    have hz := hB.size
    clear O hB hS
    by_cases hjl : j < s.size
    · have hd : decide ((j : Int) < (s.size : Int)) = true := by simpa using hjl
      by_cases hc : s[j] = c
      · have hx : ((s[j].toNat : Int) == (c.toNat : Int)) = true := by rw [hc]; simp
        have N := Lib.hid (splAt_hit SP.out hjl hc)
        go_wp2_with (at_builtin; refine wpList_append_own _ rfl _ _ 49 rfl w.heap.size 9 i0 (.string ⟨#[]⟩) 1 16 Tryd.underlying49 hi hz0 hz1 hz2 rfl (by decide) _ _ _ rfl (OO.out.alloc _) ⟨wr.heap.size, 0, none⟩ 1 1 [.string (s.extract k j)] rfl rfl (one_newS _ _ _) (fun x hx => by simp at hx; subst hx; rfl) (by unfold maxLen; omega) (by omega) (by simp; omega) ?_; intro v' w2 hown hgrow _; have P := Lib.hid (ownStrs_push hown); have G := Lib.hid hgrow; clear hown hgrow)
        exact ⟨⟨_, j + 1, j + 1, N.out, by rw [Int.natCast_succ], by rw [Int.natCast_succ], P.out, Below.grown (BB.out.alloc hz _) G.out (by simp; omega) (ownStrs_lt OO.out)⟩, by (simp [intOf]) <;> omega⟩
      · have hx : ((s[j].toNat : Int) == (c.toNat : Int)) = false := by
          rw [beq_eq_false_iff_ne]
          intro h
          exact hc (UInt8.toNat_inj.1 (by exact_mod_cast h))
        have N := Lib.hid (splAt_miss SP.out hjl hc)
        go_wp2
        exact ⟨⟨_, k, j + 1, N.out, by rw [Int.natCast_succ], rfl, OO.out, BB.out⟩, by (simp [intOf]) <;> omega⟩
    · have e : j = s.size := by omega
      subst e
      have hd : decide ((s.size : Int) < (s.size : Int)) = false := by simp
      have N := Lib.hid (splAt_end SP.out)
      go_wp2_with (at_builtin; refine wpList_append_own _ rfl _ _ 49 rfl w.heap.size 9 i0 (.string ⟨#[]⟩) 1 16 Tryd.underlying49 hi hz0 hz1 hz2 rfl (by decide) _ _ _ rfl (OO.out.alloc _) ⟨wr.heap.size, 0, none⟩ 1 1 [.string (s.extract k s.size)] rfl rfl (one_newS _ _ _) (fun x hx => by simp at hx; subst hx; rfl) (by unfold maxLen; omega) (by omega) (by simp; omega) ?_; intro v' w2 hown hgrow _; have P := Lib.hid (ownStrs_push hown); have G := Lib.hid hgrow; clear hown hgrow)
      go_ret
      exact ⟨_, rfl, by rw [← N.out]; exact P.out, Below.grown (BB.out.alloc hz _) G.out (by simp; omega) (ownStrs_lt OO.out)⟩
end Go.Proofs.YtppjmngnjdeigaaDoor
