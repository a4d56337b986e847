/- What UndoEdits answers; the model's contract. -/
import Derived.Test.YtpgonfeobfefaaaEdU
namespace Go.Proofs.Ytpgonfeobfefaaa
open Go.ChangeShapes Go.WideShapes Go.ChangeAt Go.RowKit

/-- The kind of the edit that undoes one of a kind. -/
def unK (k : Int) : Int := if k = 1 then 2 else if k = 2 then 1 else if k = 3 then 4 else 3
/-- The edit that undoes one. -/
def unE (x : Ed) : Ed := ⟨unK x.k, x.s, x.h, x.a, x.b⟩
/-- Those that undo the last j of them, the last one first. -/
def unL (cs : List Ed) : Nat → List Ed
  | 0 => []
  | j + 1 => unL cs j ++ [unE (edAt cs (cs.length - 1 - j))]
theorem unL_len (cs : List Ed) : ∀ j, (unL cs j).length = j
  | 0 => rfl
  | j + 1 => by unfold unL; rw [List.length_append, unL_len cs j]; rfl
theorem edOk_kind {x : Ed} (h : edOk x = true) : x.k = 1 ∨ x.k = 2 ∨ x.k = 3 ∨ x.k = 4 := by
  by_cases e : x.k = 1 ∨ x.k = 2 ∨ x.k = 3 ∨ x.k = 4
  · exact e
  · rw [edOk_none e] at h; cases h
theorem unE_fits {x : Ed} (h : x.fits) : (unE x).fits := by
  refine ⟨?_, h.2.1, h.2.2.1, h.2.2.2.1, h.2.2.2.2⟩
  show I8 (unK x.k)
  unfold unK
  repeat (split; · exact ⟨by decide, by decide⟩)
  exact ⟨by decide, by decide⟩
/-- What it answers. -/
def unA (cs : List Ed) : List Ed := if edsC cs = 0 then unL cs cs.length else []
theorem unA_no {cs : List Ed} (h : edsC cs ≠ 0) : unA cs = [] := if_neg h
theorem unA_yes {cs : List Ed} (h : edsC cs = 0) : unA cs = unL cs cs.length := if_pos h
theorem unA_len (cs : List Ed) : (unA cs).length ≤ 200 := by
  unfold unA
  split
  · rename_i h
    rw [unL_len]
    unfold edsC at h
    split at h
    · split at h
      · assumption
      · cases h
    · cases h
  · exact Nat.zero_le _
/-- Edits of the call's own, and a code. -/
def UnR (xs : List Ed) (k : Int) (w : World) (e : Ending) (w' : World) : Prop := ∃ v, e = .returned (.tuple #[v, .int .i64 k]) ∧ OwnEdits w.heap.size xs v w' ∧ Below w.heap.size w w'
theorem new5u (w : World) (x0 x1 x2 x3 x4 : Value) (t : TypeId) : ∀ j u, [x0, x1, x2, x3, x4][j]? = some u → (w.alloc (.cells #[x0, x1, x2, x3, x4] t)).cell? ((⟨w.heap.size, 0, none⟩ : Addr).add j) = some u := by
  intro j u h
  match j, h with
  | 0, h => simp at h; subst h; simp [Addr.add]
  | 1, h => simp at h; subst h; simp [Addr.add]
  | 2, h => simp at h; subst h; simp [Addr.add]
  | 3, h => simp at h; subst h; simp [Addr.add]
  | 4, h => simp at h; subst h; simp [Addr.add]

set_option maxRecDepth 100000 in
set_option maxHeartbeats 3200000 in
theorem sUndo_any (ad : Option Addr) (cs : List Ed) (c : Nat) (w : World) (hc : EditsIn w ad cs) (hn : cs.length ≤ 1048576) :
    Calls Try.prog 9 #[.slice ad cs.length c] w (UnR (unA cs) (edsC cs) w) := by
  obtain ⟨i0, hi, hz0, hz1, hz2⟩ := info_parts info_ed
  have C := Lib.hid hc
  have V := Lib.hid (sChk_any ad cs c w hc hn)
  clear hc
  cases ht : edTil cs cs.length
  · rw [ht] at V
    have e1 := edsC_1 ht
    rw [unA_no (by rw [e1]; decide), e1]
    clear e1 ht
    go_enter Try.func9, Try.ntmps9
    go_wp2_with (go_at_call 49; refine V.out.mono ?_; rintro e w1 ⟨rfl, hB⟩; have b1 := Lib.hid hB; clear hB)
    go_returns
    exact ⟨_, rfl, ownEdits_made rfl b1.out.size, below_new b1.out _⟩
  rw [ht] at V
  by_cases hl : cs.length ≤ 200
  · have e1 := edsC_0 ht hl
    rw [unA_yes e1, e1]
    have KI := Lib.hid fun j (hj : j < cs.length) => edOk_kind (edTil_at ht hj)
    have dl : decide ((200 : Int) < (cs.length : Int)) = false := by simp; omega
    have d3 : IntKind.i64.wrap ((cs.length : Int) - 1) = (cs.length : Int) - 1 := IntWalk.i64_in _ (by omega)
    clear e1 ht
    go_enter Try.func9, Try.ntmps9
    go_wp2_with (go_at_call 49; refine V.out.mono ?_; rintro e w1 ⟨rfl, hB⟩; have b1 := Lib.hid hB; clear hB)
    have M0 := Lib.hid (ownEdits_made (w := w1) rfl b1.out.size)
    have B0 := Lib.hid (below_new b1.out (.cells #[] 86))
    go_loopw [4, 5] (fun v i wr => ∃ j : Nat, j ≤ cs.length ∧ i = .int .i64 ((cs.length : Int) - 1 - (j : Int)) ∧ OwnEdits w.heap.size (unL cs j) v wr ∧ Below w.heap.size w wr) (fun _ i _ => (intOf i + 1).toNat)
    case atStart => exact ⟨0, Nat.zero_le _, by simp, M0.out, B0.out⟩
    case round =>
      obtain ⟨j, hj, rfl, hO, hB⟩ := hrel
      have OO := Lib.hid hO
      have BB := Lib.hid hB
      clear hO hB d3
      by_cases hjl : j < cs.length
      · obtain ⟨m, hm⟩ : ∃ m : Nat, cs.length - 1 - j = m := ⟨_, rfl⟩
        have hz : (cs.length : Int) - 1 - (j : Int) = (m : Int) := by omega
        have hz2' : (m : Int) - 1 = (cs.length : Int) - 1 - ((j + 1 : Nat) : Int) := by omega
        have hml : m < cs.length := by omega
        rw [hz]
        have hd : decide (0 ≤ (m : Int)) = true := by simp
        obtain ⟨hf, b1', o1, rfl, hb1, p0, p1, p2, p3, p4⟩ := C.out m hml
        have d0 := (BB.out.cell (p := ⟨b1', o1 + m * 5, none⟩) hb1).trans p0
        have d1 := (BB.out.cell (p := ⟨b1', o1 + m * 5 + 1, none⟩) hb1).trans p1
        have d2 := (BB.out.cell (p := ⟨b1', o1 + m * 5 + 2, none⟩) hb1).trans p2
        have d3 := (BB.out.cell (p := ⟨b1', o1 + m * 5 + 3, none⟩) hb1).trans p3
        have d4 := (BB.out.cell (p := ⟨b1', o1 + m * 5 + 4, none⟩) hb1).trans p4
        have i1 : (0 : Int) ≤ (m : Int) := by omega
        have i2 : (m : Int) < (cs.length : Int) := by omega
        have x1 : IntKind.i64.wrap ((m : Int) - 1) = (m : Int) - 1 := IntWalk.i64_in _ (by omega)
        have NX := Lib.hid (show unL cs (j + 1) = unL cs j ++ [unE (edAt cs m)] by rw [← hm]; rfl)
        have ki := KI.out m hml
        have ln := unL_len cs j
        have LL := Lib.hid ln
        have S0 := BB.out.size
        clear p0 p1 p2 p3 p4 hf hz hm
        generalize unL cs j = es at *
        generalize edAt cs m = x at *
        obtain ⟨k, s, h, a, b⟩ := x
        simp only at d0 d1 d2 d3 d4 NX ki
        rcases ki with rfl | rfl | rfl | rfl
        · clear ln
          go_wp2_with (at_builtin; refine wpList_append_lies _ rfl _ _ 24 rfl w.heap.size 86 i0 (.agg #[.int .i8 0, .string ByteArray.empty, .int .i16 0, .int .u64 0, .int .u64 0]) 5 48 Try.underlying24 hi hz0 hz1 hz2 rfl (by decide) _ _ _ rfl (World.ownsRow.alloc (World.ownsRow.alloc OO.out _) _) ⟨wr.heap.size + 1, 0, none⟩ 1 1 [.int .i8 2, .string s, .int .i16 h, .int .u64 a, .int .u64 b] rfl rfl (by have hh := new5u (wr.alloc (.cells #[.int .i8 2, .string s, .int .i16 h, .int .u64 a, .int .u64 b] 86)) (.int .i8 2) (.string s) (.int .i16 h) (.int .u64 a) (.int .u64 b) 86; simpa using hh) (fun x hx => by simp at hx; rcases hx with rfl | rfl | rfl | rfl | rfl <;> rfl) (by omega) (by have := LL.out; unfold maxLen; omega) (by have := LL.out; omega) (by simp; omega) _ rfl ?_; intro gg cap2 w5 hown hgrow _ _; have P := Lib.hid (ownEdits_push hown); have G := Lib.hid hgrow; clear hown hgrow)
          refine ⟨⟨j + 1, hjl, by rw [Int.natCast_succ], by rw [NX.out]; exact P.out, ?_⟩, by (simp [intOf]) <;> omega⟩
          exact Below.grown (below_new (below_new BB.out _) _) G.out (by simp; omega) (fun k hk => ownEdits_lt OO.out k hk)
        · clear ln
          go_wp2_with (at_builtin; refine wpList_append_lies _ rfl _ _ 24 rfl w.heap.size 86 i0 (.agg #[.int .i8 0, .string ByteArray.empty, .int .i16 0, .int .u64 0, .int .u64 0]) 5 48 Try.underlying24 hi hz0 hz1 hz2 rfl (by decide) _ _ _ rfl (World.ownsRow.alloc (World.ownsRow.alloc OO.out _) _) ⟨wr.heap.size + 1, 0, none⟩ 1 1 [.int .i8 1, .string s, .int .i16 h, .int .u64 a, .int .u64 b] rfl rfl (by have hh := new5u (wr.alloc (.cells #[.int .i8 1, .string s, .int .i16 h, .int .u64 a, .int .u64 b] 86)) (.int .i8 1) (.string s) (.int .i16 h) (.int .u64 a) (.int .u64 b) 86; simpa using hh) (fun x hx => by simp at hx; rcases hx with rfl | rfl | rfl | rfl | rfl <;> rfl) (by omega) (by have := LL.out; unfold maxLen; omega) (by have := LL.out; omega) (by simp; omega) _ rfl ?_; intro gg cap2 w5 hown hgrow _ _; have P := Lib.hid (ownEdits_push hown); have G := Lib.hid hgrow; clear hown hgrow)
          refine ⟨⟨j + 1, hjl, by rw [Int.natCast_succ], by rw [NX.out]; exact P.out, ?_⟩, by (simp [intOf]) <;> omega⟩
          exact Below.grown (below_new (below_new BB.out _) _) G.out (by simp; omega) (fun k hk => ownEdits_lt OO.out k hk)
        · clear ln
          go_wp2_with (at_builtin; refine wpList_append_lies _ rfl _ _ 24 rfl w.heap.size 86 i0 (.agg #[.int .i8 0, .string ByteArray.empty, .int .i16 0, .int .u64 0, .int .u64 0]) 5 48 Try.underlying24 hi hz0 hz1 hz2 rfl (by decide) _ _ _ rfl (World.ownsRow.alloc (World.ownsRow.alloc OO.out _) _) ⟨wr.heap.size + 1, 0, none⟩ 1 1 [.int .i8 4, .string s, .int .i16 h, .int .u64 a, .int .u64 b] rfl rfl (by have hh := new5u (wr.alloc (.cells #[.int .i8 4, .string s, .int .i16 h, .int .u64 a, .int .u64 b] 86)) (.int .i8 4) (.string s) (.int .i16 h) (.int .u64 a) (.int .u64 b) 86; simpa using hh) (fun x hx => by simp at hx; rcases hx with rfl | rfl | rfl | rfl | rfl <;> rfl) (by omega) (by have := LL.out; unfold maxLen; omega) (by have := LL.out; omega) (by simp; omega) _ rfl ?_; intro gg cap2 w5 hown hgrow _ _; have P := Lib.hid (ownEdits_push hown); have G := Lib.hid hgrow; clear hown hgrow)
          refine ⟨⟨j + 1, hjl, by rw [Int.natCast_succ], by rw [NX.out]; exact P.out, ?_⟩, by (simp [intOf]) <;> omega⟩
          exact Below.grown (below_new (below_new BB.out _) _) G.out (by simp; omega) (fun k hk => ownEdits_lt OO.out k hk)
        · clear ln
          go_wp2_with (at_builtin; refine wpList_append_lies _ rfl _ _ 24 rfl w.heap.size 86 i0 (.agg #[.int .i8 0, .string ByteArray.empty, .int .i16 0, .int .u64 0, .int .u64 0]) 5 48 Try.underlying24 hi hz0 hz1 hz2 rfl (by decide) _ _ _ rfl (World.ownsRow.alloc (World.ownsRow.alloc OO.out _) _) ⟨wr.heap.size + 1, 0, none⟩ 1 1 [.int .i8 3, .string s, .int .i16 h, .int .u64 a, .int .u64 b] rfl rfl (by have hh := new5u (wr.alloc (.cells #[.int .i8 3, .string s, .int .i16 h, .int .u64 a, .int .u64 b] 86)) (.int .i8 3) (.string s) (.int .i16 h) (.int .u64 a) (.int .u64 b) 86; simpa using hh) (fun x hx => by simp at hx; rcases hx with rfl | rfl | rfl | rfl | rfl <;> rfl) (by omega) (by have := LL.out; unfold maxLen; omega) (by have := LL.out; omega) (by simp; omega) _ rfl ?_; intro gg cap2 w5 hown hgrow _ _; have P := Lib.hid (ownEdits_push hown); have G := Lib.hid hgrow; clear hown hgrow)
          refine ⟨⟨j + 1, hjl, by rw [Int.natCast_succ], by rw [NX.out]; exact P.out, ?_⟩, by (simp [intOf]) <;> omega⟩
          exact Below.grown (below_new (below_new BB.out _) _) G.out (by simp; omega) (fun k hk => ownEdits_lt OO.out k hk)
      · have e : j = cs.length := by omega
        subst e
        have hd : decide (0 ≤ (cs.length : Int) - 1 - (cs.length : Int)) = false := by simp; omega
        go_wp2
        go_returns
        exact ⟨_, rfl, OO.out, BB.out⟩
  · have e1 := edsC_3 ht hl
    rw [unA_no (by rw [e1]; decide), e1]
    have dl : decide ((200 : Int) < (cs.length : Int)) = true := by simp; omega
    clear e1 ht
    go_enter Try.func9, Try.ntmps9
    go_wp2_with (go_at_call 49; refine V.out.mono ?_; rintro e w1 ⟨rfl, hB⟩; have b1 := Lib.hid hB; clear hB)
    go_returns
    exact ⟨_, rfl, ownEdits_made rfl b1.out.size, below_new b1.out _⟩
end Go.Proofs.Ytpgonfeobfefaaa
