/- Contracts: ClearField, the program's and the model's. -/
import Derived.Test.YtllhglakihfjmaaDoorPartN
import Derived.Test.YtllhglakihfjmaaDoorCard
import Derived.Test.YtllhglakihfjmaaDoorWith
import Derived.Test.YtllhglakihfjmaaDoorFloat
import Derived.Deep.DeepCutAuto
namespace Go.Proofs.YtllhglakihfjmaaDoor
open Go.ChangeShapes Go.WideShapes Go.ChangeAt Go.RowKit

/-- The two numbers of the mask of a field's holes. -/
def pt0 (k st sz : Int) : Int := mp0 st (widthZ k sz)
def pt1 (k st sz : Int) : Int := mp1 st (widthZ k sz)
theorem width_ok {s : ByteArray} {k st sz : Int} (h : fieldOk s k st sz = true) : (k = 0 ∨ k = 1 ∨ k = 2 ∨ k = 3) ∧ 0 ≤ st ∧ 1 ≤ sz ∧ sz ≤ 24 ∧ 1 ≤ widthZ k sz ∧ widthZ k sz ≤ 24 ∧ st + widthZ k sz ≤ 96 := by
  obtain ⟨_, k0, k3, t0, z0, zm, tw⟩ := field_inv h
  have hk : k = 0 ∨ k = 1 ∨ k = 2 ∨ k = 3 := by omega
  refine ⟨hk, t0, z0, ?_⟩
  rcases hk with rfl | rfl | rfl | rfl <;> simp [widthZ, mostZ] at * <;> omega

theorem iPartOk (s : ByteArray) (k st sz : Int) (h : fieldOk s k st sz = true) (w : World) :
    Calls Tryd.prog 88 #[.agg #[.string s, .int .i8 k, .int .i16 st, .int .i16 sz]] w fun e w' => e = .returned (.agg #[.int .u64 (pt0 k st sz), .int .u64 (pt1 k st sz)]) ∧ Below w.heap.size w w' := by
  obtain ⟨hk, t0, z0, zb, _, nb, tw⟩ := width_ok h
  clear h
  unfold pt0 pt1
  rcases hk with rfl | rfl | rfl | rfl
  · rw [widthZ_0] at *; exact iPartK_0 s st sz t0 z0 zb nb tw w
  · rw [widthZ_1] at *; exact iPartK_1 s st sz t0 z0 zb nb tw w
  · rw [widthZ_2] at *; exact iPartK_2 s st sz t0 z0 zb nb tw w
  · rw [widthZ_3] at *; exact iPartK_3 s st sz t0 z0 zb nb tw w

theorem pa_pt (k st sz : Int) (n : Nat) (hn : (n : Int) = widthZ k sz) (t0 : 0 ≤ st) (h1 : 1 ≤ widthZ k sz) (tw : st + widthZ k sz ≤ 96) : pa b0 st n = pt0 k st sz ∧ pa b1 st n = pt1 k st sz := by
  have h := part_is st n t0 (by omega) (by omega)
  rw [pa_ma, pa_ma, h.1, h.2, hn]
  exact ⟨rfl, rfl⟩

theorem sPartOk (s : ByteArray) (k st sz : Int) (h : fieldOk s k st sz = true) (g o : Nat) (w : World) (h1 : w.cell? ⟨g, o + 1, none⟩ = some (.int .i8 k)) (h2 : w.cell? ⟨g, o + 2, none⟩ = some (.int .i16 st)) (h3 : w.cell? ⟨g, o + 3, none⟩ = some (.int .i16 sz)) :
    Calls Tryd.prog 82 #[.pointer (some ⟨g, o, none⟩)] w fun e w' => e = .returned (.agg #[.int .u64 (pt0 k st sz), .int .u64 (pt1 k st sz)]) ∧ Below w.heap.size w w' := by
  obtain ⟨hk, t0, z0, zb, n1, _, tw⟩ := width_ok h
  clear h
  obtain ⟨n, hn⟩ := Int.eq_ofNat_of_zero_le (show 0 ≤ widthZ k sz by omega)
  have e := pa_pt k st sz n hn.symm t0 n1 tw
  rw [← e.1, ← e.2]
  have tn : st + (n : Int) ≤ 96 := by omega
  clear e n1 tw
  rcases hk with rfl | rfl | rfl | rfl
  · exact sPart_0 st sz n (hn.symm.trans (widthZ_0 sz)) t0 z0 zb tn g o w h1 h2 h3
  · exact sPart_1 st sz n (hn.symm.trans (widthZ_1 sz)) t0 z0 zb tn g o w h1 h2 h3
  · exact sPart_2 st sz n (hn.symm.trans (widthZ_2 sz)) t0 z0 zb tn g o w h1 h2 h3
  · exact sPart_3 st sz n (hn.symm.trans (widthZ_3 sz)) t0 z0 zb tn g o w h1 h2 h3

theorem block_three (w : World) (o p q : Obj) : (((w.alloc o).alloc p).alloc q).heap[w.heap.size]? = some o ∧ (((w.alloc o).alloc p).alloc q).heap[w.heap.size + 1]? = some p ∧ (((w.alloc o).alloc p).alloc q).heap[w.heap.size + 2]? = some q := by
  show (((w.heap.push o).push p).push q)[w.heap.size]? = some o ∧ (((w.heap.push o).push p).push q)[w.heap.size + 1]? = some p ∧ (((w.heap.push o).push p).push q)[w.heap.size + 2]? = some q
  refine ⟨?_, ?_, ?_⟩
  · rw [Array.getElem?_push, if_neg (by simp; omega), Array.getElem?_push, if_neg (by simp)]; simp
  · rw [Array.getElem?_push, if_neg (by simp), Array.getElem?_push, if_pos (by simp)]
  · rw [Array.getElem?_push, if_pos (by simp)]

def clR (s : ByteArray) (a b k st sz : Int) (ok : Bool) : Value := .tuple #[.agg #[.string (if ok then s else ByteArray.empty), .int .u64 (if ok then bits .andNot .u64 a (pt0 k st sz) else 0), .int .u64 (if ok then bits .andNot .u64 b (pt1 k st sz) else 0)], .int .i64 (if ok then 0 else 1)]
theorem clR_parts (s : ByteArray) (a b k st sz : Int) (ok : Bool) : ∃ (r : ByteArray) (x y c : Int), clR s a b k st sz ok = .tuple #[.agg #[.string r, .int .u64 x, .int .u64 y], .int .i64 c] := ⟨_, _, _, _, rfl⟩
theorem clR_no (s : ByteArray) (a b k st sz : Int) : .tuple #[.agg #[.string ByteArray.empty, .int .u64 0, .int .u64 0], .int .i64 1] = clR s a b k st sz false := rfl
theorem clR_yes (s : ByteArray) (a b k st sz : Int) : .tuple #[.agg #[.string s, .int .u64 (bits .andNot .u64 a (pt0 k st sz)), .int .u64 (bits .andNot .u64 b (pt1 k st sz))], .int .i64 0] = clR s a b k st sz true := rfl
theorem endRet {x y : Value} (h : x = y) : Ending.returned x = Ending.returned y := by rw [h]


end Go.Proofs.YtllhglakihfjmaaDoor
