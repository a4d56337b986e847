/- The words that have to be in a mask: the program's contract. -/
import Derived.Test.YtoippchkhknhpaaHiM
import Derived.Laws.StructEq
namespace Go.Proofs.Ytoippchkhknhpaa
open Go.ChangeShapes Go.WideShapes Go.ChangeAt Go.RowKit

/-- The masks of a list together, word by word. -/
def jn0 (ms : List (Int × Int)) : Nat → Int
  | 0 => 0
  | k + 1 => bits .or .u64 (jn0 ms k) (ms.getD k (0, 0)).1
def jn1 (ms : List (Int × Int)) : Nat → Int
  | 0 => 0
  | k + 1 => bits .or .u64 (jn1 ms k) (ms.getD k (0, 0)).2
/-- The two boxes of masks that are joined: the answer's, still empty, and the mask's. -/
structure Jo (w wr : World) (x y : Int) : Prop where
  r0 : wr.cell? ⟨w.heap.size, 0, none⟩ = some (.int .u64 0)
  r1 : wr.cell? ⟨w.heap.size, 1, none⟩ = some (.int .u64 0)
  m0 : wr.cell? ⟨w.heap.size + 1, 0, none⟩ = some (.int .u64 x)
  m1 : wr.cell? ⟨w.heap.size + 1, 1, none⟩ = some (.int .u64 y)
  sz : w.heap.size + 1 < wr.heap.size
  be : Below w.heap.size w wr
  fr : ∀ j, wr.frozen? ⟨w.heap.size, j, none⟩ = false
  fm : ∀ j, wr.frozen? ⟨w.heap.size + 1, j, none⟩ = false
theorem Jo.below {w wr w2 : World} {x y : Int} (h : Jo w wr x y) (hB : Below wr.heap.size wr w2) : Jo w w2 x y := by
  obtain ⟨r0, r1, m0, m1, sz, be, fr, fm⟩ := h
  have s0 : w.heap.size < wr.heap.size := by omega
  exact ⟨(hB.cell (p := ⟨w.heap.size, 0, none⟩) s0).trans r0, (hB.cell (p := ⟨w.heap.size, 1, none⟩) s0).trans r1, (hB.cell (p := ⟨w.heap.size + 1, 0, none⟩) sz).trans m0, (hB.cell (p := ⟨w.heap.size + 1, 1, none⟩) sz).trans m1, Nat.lt_of_lt_of_le sz hB.size, be.trans (hB.mono be.size), fun j => (hB.frozen (p := ⟨w.heap.size, j, none⟩) s0).trans (fr j), fun j => (hB.frozen (p := ⟨w.heap.size + 1, j, none⟩) sz).trans (fm j)⟩
theorem Jo.set {w wr : World} {x y : Int} (h : Jo w wr x y) (p q : Int) : Jo w ((wr.setCell ⟨w.heap.size + 1, 0, none⟩ (.int .u64 p)).setCell ⟨w.heap.size + 1, 1, none⟩ (.int .u64 q)) p q := by
  obtain ⟨r0, r1, m0, m1, sz, be, fr, fm⟩ := h
  refine ⟨?_, ?_, ?_, ?_, ?_, ?_, fun j => ?_, fun j => ?_⟩
  · rw [World.cell?_setCell_other (h := by simp), World.cell?_setCell_other (h := by simp)]; exact r0
  · rw [World.cell?_setCell_other (h := by simp), World.cell?_setCell_other (h := by simp)]; exact r1
  · rw [World.cell?_setCell_other (h := by simp), World.cell?_setCell_same (h := m0)]
  · rw [World.cell?_setCell_same (h := by rw [World.cell?_setCell_other (h := by simp)]; exact m1)]
  · simpa using sz
  · exact (be.setCell (show w.heap.size ≤ w.heap.size + 1 by omega) _).setCell (show w.heap.size ≤ w.heap.size + 1 by omega) _
  · simpa using fr j
  · simpa using fm j

set_option maxHeartbeats 1600000 in
theorem iJoinAll_any (a : Option Addr) (ms : List (Int × Int)) (c : Nat) (w : World) (h : MasksIn w a ms) (hl : ms.length ≤ 1048576) :
    Calls Try.prog 97 #[.slice a ms.length c] w fun e w' => e = .returned (.agg #[.int .u64 (jn0 ms ms.length), .int .u64 (jn1 ms ms.length)]) ∧ Below w.heap.size w w' := by
  have A := Lib.hid h
  clear h
  have J0 : Jo w ((w.alloc (.cells #[.int .u64 0, .int .u64 0] 51)).alloc (.cells #[.int .u64 0, .int .u64 0] 51)) 0 0 := ⟨by simp, by simp, by simp, by simp, by simp, below_new (below_new (Below.refl _ _) _) _, fun j => by simp, fun j => by simp⟩
  have J := Lib.hid J0
  clear J0
  go_enter Try.func97, Try.ntmps97
  go_wp2
  go_loopw [8] (fun i wr => ∃ k : Nat, k ≤ ms.length ∧ i = .int .i64 k ∧ Jo w wr (jn0 ms k) (jn1 ms k)) (fun i _ => ms.length - (intOf i).toNat)
  case atStart => exact ⟨0, Nat.zero_le _, rfl, J.out⟩
  case round =>
    obtain ⟨k, hk, rfl, hM⟩ := hrel
    have M := Lib.hid hM
    by_cases hkl : k < ms.length
    · obtain ⟨b, off, rfl, hb, p0, p1⟩ := A.out k hkl
      have d0 := (hM.be.cell (p := ⟨b, off + k * 2, none⟩) hb).trans p0
      have d1 := (hM.be.cell (p := ⟨b, off + k * 2 + 1, none⟩) hb).trans p1
      have hb2 : b < wr.heap.size := Nat.lt_of_lt_of_le hb hM.be.size
      have hd : decide ((k : Int) < (ms.length : Int)) = true := by simpa using hkl
      have i1 : (0 : Int) ≤ (k : Int) := by omega
      have i2 : (k : Int) < (ms.length : Int) := by omega
      have e0 := Lib.hid (show jn0 ms (k + 1) = bits .or .u64 (jn0 ms k) (ms.getD k (0, 0)).1 from rfl)
      have e1 := Lib.hid (show jn1 ms (k + 1) = bits .or .u64 (jn1 ms k) (ms.getD k (0, 0)).2 from rfl)
      obtain ⟨r0, r1, m0, m1, sz, _, fr, fm⟩ := hM
      have s0 : w.heap.size < wr.heap.size := by omega
      generalize jn0 ms k = x at *
      generalize jn1 ms k = y at *
      generalize (ms.getD k (0, 0)).1 = u at *
      generalize (ms.getD k (0, 0)).2 = v at *
      clear p0 p1 hb
      go_wp2_with (go_at_call 55; refine (iJoin_below _ _ _ _ _).mono ?_; rintro e w1 ⟨rfl, hB⟩; have M1 := Lib.hid ((M.out.below (below_new (Below.refl _ _) (.cells #[.int .u64 u, .int .u64 v] 51))).below hB); obtain ⟨t0, t1, q0, q1, tz, _, tf, tm⟩ := M1.out; have t3 := tm 0; have t4 := tm 1)
      all_goals exact ⟨⟨k + 1, hkl, by rw [Int.natCast_succ], by rw [e0.out, e1.out]; exact M1.out.set _ _⟩, by simp [intOf]; omega⟩
    · have e : k = ms.length := by omega
      subst e
      have hd : decide ((ms.length : Int) < (ms.length : Int)) = false := by simp
      obtain ⟨r0, r1, m0, m1, sz, be, fr, fm⟩ := hM
      have s0 : w.heap.size < wr.heap.size := by omega
      have f0 := fr 0
      have f1 := fr 1
      clear be fr fm
      go_wp2
      refine bodyPost_ret (by simp [results, Try.results97, go_sem, r0, r1]; try rfl) rfl ?_
      exact ⟨rfl, (M.out.be.setCell (Nat.le_refl _) _).setCell (Nat.le_refl _) _⟩

theorem masks_take {w : World} {a : Option Addr} {ms : List (Int × Int)} {i : Nat} (h : MasksIn w a ms) : MasksIn w a (ms.take i) := fun k hk => by
  rw [List.length_take] at hk
  obtain ⟨b, off, ha, hb, c0, c1⟩ := h k (by omega)
  have e : (ms.take i).getD k (0, 0) = ms.getD k (0, 0) := by simp [List.getD, show k < i by omega]
  exact ⟨b, off, ha, hb, by rw [e]; exact c0, by rw [e]; exact c1⟩
theorem masks_drop {w : World} {b off : Nat} {ms : List (Int × Int)} {i : Nat} (h : MasksIn w (some ⟨b, off, none⟩) ms) : MasksIn w (some ⟨b, off + i * 2, none⟩) (ms.drop i) := fun k hk => by
  rw [List.length_drop] at hk
  obtain ⟨b2, o2, ha, hb, c0, c1⟩ := h (i + k) (by omega)
  cases ha
  have e : (ms.drop i).getD k (0, 0) = ms.getD (i + k) (0, 0) := by simp [List.getD, List.getElem?_drop]
  exact ⟨b, _, rfl, hb, by rw [e, show off + i * 2 + k * 2 = off + (i + k) * 2 by omega]; exact c0, by rw [e, show off + i * 2 + k * 2 + 1 = off + (i + k) * 2 + 1 by omega]; exact c1⟩

set_option maxHeartbeats 1600000 in
theorem iEnough_any (T0 T1 : Int) (v : Value) (a : Option Addr) (ms : List (Int × Int)) (c : Nat) (w : World) (h : MasksIn w a ms) (hl : ms.length ≤ 1048576) :
    Calls Try.prog 96 #[.agg #[.int .u64 T0, .int .u64 T1, v, .slice a ms.length c]] w fun e w' => e = .returned (.bool (jn0 ms ms.length == T0 && jn1 ms ms.length == T1)) ∧ Below w.heap.size w w' := by
  have A := Lib.hid h
  have J := Lib.hid fun W hs => iJoinAll_any a ms c W hs hl
  have K := Lib.hid (below_new (Below.refl w.heap.size w) (.cells #[.int .u64 T0, .int .u64 T1, v, .slice a ms.length c] 116))
  clear h
  have he := eq_mask
  have hbw := cell_bw
  generalize jn0 ms ms.length = x at *
  generalize jn1 ms ms.length = y at *
  go_enter Try.func96, Try.ntmps96
  go_wp2
  refine region_bw (by kernel_rfl) (by kernel_rfl) ?_
  repeat (go_big_quiet_step ((go_at_call 97; exact calls_bw (J.out _ (masksIn_below (masksIn_below A.out K.out) (below_bw _ _))))))
  refine wpQuiet_nil ?_; intro wq hq; replace hq := below_of_bw hq; obtain ⟨qc, qf, qz⟩ := bcell hq
  go_wp2
  go_ret
  exact ⟨rfl, K.out.trans (hq.mono K.out.size)⟩
end Go.Proofs.Ytoippchkhknhpaa
