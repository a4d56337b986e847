/- Contracts of the laws' own functions on slices of cards: carried over. -/
import Derived.Test.YtllhglakihfjmaaDoorDeck2
namespace Go.Proofs.YtllhglakihfjmaaDoor
open Go.ChangeShapes Go.WideShapes Go.ChangeAt Go.RowKit

def cell3 (c : Cd) (r : Nat) : Value := if r = 0 then .string c.s else if r = 1 then .int .u64 c.a else .int .u64 c.b
/-- k cards carried over, empty ones behind. -/
def rowC (cs : List Cd) (k : Nat) : List Value := (List.range (cs.length * 3)).map fun i => cell3 (if i / 3 < k then cdAt cs (i / 3) else default) (i % 3)
theorem rowC_len (cs : List Cd) (k : Nat) : (rowC cs k).length = cs.length * 3 := by unfold rowC; simp
theorem rowC_get (cs : List Cd) (k i : Nat) (h : i < cs.length * 3) : (rowC cs k)[i]? = some (cell3 (if i / 3 < k then cdAt cs (i / 3) else default) (i % 3)) := by
  unfold rowC; rw [List.getElem?_map, List.getElem?_range h]; rfl
theorem rowC_next (cs : List Cd) (k : Nat) (h : k < cs.length) :
    (((rowC cs k).set (k * 3) (.string (cdAt cs k).s)).set (k * 3 + 1) (.int .u64 (cdAt cs k).a)).set (k * 3 + 2) (.int .u64 (cdAt cs k).b) = rowC cs (k + 1) := by
  apply List.ext_getElem?
  intro i
  rw [List.getElem?_set, List.getElem?_set, List.getElem?_set]
  simp only [List.length_set, rowC_len]
  by_cases hi : i < cs.length * 3
  · rw [rowC_get cs (k + 1) i hi]
    by_cases e2 : k * 3 + 2 = i
    · subst e2
      rw [if_pos rfl, if_pos hi, show (k * 3 + 2) / 3 = k by omega, show (k * 3 + 2) % 3 = 2 by omega, if_pos (Nat.lt_succ_self k)]; rfl
    · rw [if_neg e2]
      by_cases e1 : k * 3 + 1 = i
      · subst e1
        rw [if_pos rfl, if_pos hi, show (k * 3 + 1) / 3 = k by omega, show (k * 3 + 1) % 3 = 1 by omega, if_pos (Nat.lt_succ_self k)]; rfl
      · rw [if_neg e1]
        by_cases e0 : k * 3 = i
        · subst e0
          rw [if_pos rfl, if_pos hi, show k * 3 / 3 = k by omega, show k * 3 % 3 = 0 by omega, if_pos (Nat.lt_succ_self k)]; rfl
        · rw [if_neg e0, rowC_get cs k i hi]
          by_cases c : i / 3 < k
          · rw [if_pos c, if_pos (by omega)]
          · rw [if_neg c, if_neg (by omega)]
  · rw [List.getElem?_eq_none (by rw [rowC_len]; omega), List.getElem?_eq_none (by rw [rowC_len]; omega)]
    repeat (split; · first | omega | rfl)
    first | rfl | (split <;> first | omega | rfl)

theorem rowC_zero (cs : List Cd) : (madeCells #[.string ByteArray.empty, .int .u64 0, .int .u64 0] (cs.length * 3)).toList = rowC cs 0 := by
  apply List.ext_getElem?
  intro i
  by_cases hi : i < cs.length * 3
  · rw [rowC_get cs 0 i hi, if_neg (Nat.not_lt_zero _)]
    have h3 : i % 3 = 0 ∨ i % 3 = 1 ∨ i % 3 = 2 := by omega
    rcases h3 with h | h | h <;> simp [madeCells, hi, h, cell3] <;> rfl
  · rw [List.getElem?_eq_none (by simp [madeCells]; omega), List.getElem?_eq_none (by rw [rowC_len]; omega)]

theorem info_card : (Tryd.prog.info? 30).map (fun i => (i.zero, i.size, i.bytes)) = some (some (.agg #[.string ByteArray.empty, .int .u64 0, .int .u64 0]), 3, 32) := by kernel_rfl

theorem ownsRow_below {w w' : World} {B e size n : Nat} {v : Value} {xs : List Value} (h : w.ownsRow B e size v n xs) (hb : Below w.heap.size w w') : w'.ownsRow B e size v n xs := by
  obtain ⟨h1, h2⟩ := h
  refine ⟨h1, ?_⟩
  rcases h2 with hn | ⟨g, cap, cur, rfl, hB, hg, rest⟩
  · exact .inl hn
  · exact .inr ⟨g, cap, cur, rfl, hB, (hb.block g (Array.getElem?_eq_some_iff.1 hg).1).trans hg, rest⟩

def NewC (cs : List Cd) (w : World) (e : Ending) (w' : World) : Prop := ∃ v, e = .returned v ∧ NewCards w.heap.size cs v w' ∧ Below w.heap.size w w'

set_option maxHeartbeats 1600000 in
theorem toCardS_any (ad : Option Addr) (cs : List Cd) (c : Nat) (w : World) (hc : CardsIn w ad cs) (hn : cs.length ≤ 1048576) :
    Calls Tryd.prog 23 #[.slice ad cs.length c] w (NewC cs w) := by
  obtain ⟨i0, hi, hz0, hz1, hz2⟩ := info_parts info_card
  have C := Lib.hid hc
  clear hc
  go_enter Tryd.func23, Tryd.ntmps23
  go_wp2_with (at_make; refine wpList_make_full _ rfl _ _ 50 rfl w.heap.size 30 i0 (.agg #[.string ByteArray.empty, .int .u64 0, .int .u64 0]) 3 Tryd.underlying50 hi hz0 hz1 _ _ _ _ cs.length rfl rfl rfl rfl (by rw [hz2]; omega) (by unfold maxLen; omega) (Nat.le_refl _) ?_; intro w1 hown hgrow; have M := Lib.hid hown; have G := Lib.hid hgrow; clear hown hgrow)
  have O : w1.ownsRow w.heap.size 30 3 (.slice (some ⟨w.heap.size, 0, none⟩) cs.length cs.length) cs.length (rowC cs 0) := by rw [← rowC_zero]; exact M.out
  have B1 := Lib.hid (Below.grown (Below.refl w.heap.size w) G.out (Nat.le_refl _) (fun j hj => by cases hj))
  have OO := Lib.hid O
  clear M G O hi hz0 hz1 hz2
  go_loopw [4] (fun i wr => ∃ k : Nat, k ≤ cs.length ∧ i = .int .i64 k ∧ wr.ownsRow w.heap.size 30 3 (.slice (some ⟨w.heap.size, 0, none⟩) cs.length cs.length) cs.length (rowC cs k) ∧ Below w.heap.size w wr) (fun i _ => cs.length - (intOf i).toNat)
  case atStart => exact ⟨0, Nat.zero_le _, rfl, OO.out, B1.out⟩
  case round =>
    obtain ⟨k, hk, rfl, O2, hB⟩ := hrel
    have O3 := Lib.hid O2
    have BB := Lib.hid hB
    have gl := (O2.lt w.heap.size rfl).2
    by_cases hkl : k < cs.length
    · have hd : decide ((k : Int) < (cs.length : Int)) = true := by simpa using hkl
      obtain ⟨_, b1, o1, rfl, hb1, p0, p1, p2⟩ := C.out k hkl
      have d0 := (hB.cell (p := ⟨b1, o1 + k * 3, none⟩) hb1).trans p0
      have d1 := (hB.cell (p := ⟨b1, o1 + k * 3 + 1, none⟩) hb1).trans p1
      have d2 := (hB.cell (p := ⟨b1, o1 + k * 3 + 2, none⟩) hb1).trans p2
      have nx := Lib.hid (rowC_next cs k hkl)
      have i1 : (0 : Int) ≤ (k : Int) := by omega
      have i2 : (k : Int) < (cs.length : Int) := by omega
      have r0 := O2.cellAt (k * 3) (by omega)
      have r1 := O2.cellAt (k * 3 + 1) (by omega)
      have r2 := O2.cellAt (k * 3 + 2) (by omega)
      rw [rowC_get cs k _ (by omega)] at r0 r1 r2
      have fz := fun j => O2.frozenAt j
      generalize cdAt cs k = x at *
      obtain ⟨s, a, b⟩ := x
      simp only at d0 d1 d2
      have K := Lib.hid fun W => toCard_b s a b W
      have R0 := Lib.hid r0
      have R1 := Lib.hid r1
      have R2 := Lib.hid r2
      have FZ := Lib.hid fz
      clear hB p0 p1 p2 O2 r0 r1 r2 fz
      go_wp2_with (go_at_call 11; refine (K.out _).mono ?_; rintro e w2 ⟨rfl, hB2⟩; have t0 := (hB2.cell (p := ⟨w.heap.size, k * 3, none⟩) gl).trans R0.out; have t1 := (hB2.cell (p := ⟨w.heap.size, k * 3 + 1, none⟩) gl).trans R1.out; have t2 := (hB2.cell (p := ⟨w.heap.size, k * 3 + 2, none⟩) gl).trans R2.out; have u : ∀ j, w2.frozen? ⟨w.heap.size, j, none⟩ = false := (fun j => (hB2.frozen (p := ⟨w.heap.size, j, none⟩) gl).trans (FZ.out j)); have O4 := Lib.hid (ownsRow_below O3.out hB2); have B2 := Lib.hid (below_next BB.out hB2); clear hB2)
      have s0 := O4.out.stored (k * 3) (.string s)
      have s1 := s0.1.stored (k * 3 + 1) (.int .u64 a)
      have s2 := s1.1.stored (k * 3 + 2) (.int .u64 b)
      have o := s2.1
      have n := nx.out
      rw [n] at o
      exact ⟨⟨k + 1, hkl, by rw [Int.natCast_succ], o, ((B2.out.setCell (Nat.le_refl _) _).setCell (Nat.le_refl _) _).setCell (Nat.le_refl _) _⟩, by (simp [intOf]) <;> omega⟩
    · have e : k = cs.length := by omega
      subst e
      have hd : decide ((cs.length : Int) < (cs.length : Int)) = false := by simp
      clear O2 hB
      go_wp2
      go_ret
      refine ⟨_, rfl, ⟨w.heap.size, rfl, Nat.le_refl _, gl, fun i hi => ⟨(C.out i hi).1, w.heap.size, 0, rfl, gl, ?_, ?_, ?_⟩, fun j => O3.out.frozenAt j⟩, BB.out⟩
      · rw [Nat.zero_add, O3.out.cellAt _ (by omega), rowC_get cs _ _ (by omega), show i * 3 / 3 = i by omega, if_pos hi, show i * 3 % 3 = 0 by omega]; rfl
      · rw [Nat.zero_add, O3.out.cellAt _ (by omega), rowC_get cs _ _ (by omega), show (i * 3 + 1) / 3 = i by omega, if_pos hi, show (i * 3 + 1) % 3 = 1 by omega]; rfl
      · rw [Nat.zero_add, O3.out.cellAt _ (by omega), rowC_get cs _ _ (by omega), show (i * 3 + 2) / 3 = i by omega, if_pos hi, show (i * 3 + 2) % 3 = 2 by omega]; rfl
end Go.Proofs.YtllhglakihfjmaaDoor
