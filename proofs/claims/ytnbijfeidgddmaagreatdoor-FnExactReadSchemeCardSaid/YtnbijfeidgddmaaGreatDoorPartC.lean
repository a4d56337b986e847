/- Contracts: the holes of a field, gathered one by one by the model, moved up in one stroke by the program. -/
import Derived.Test.YtnbijfeidgddmaaGreatDoorRsZ4
import Derived.Test.YtnbijfeidgddmaaGreatDoorRsZ0
import Derived.Test.YtnbijfeidgddmaaGreatDoorRsZ1
namespace Go.Proofs.YtnbijfeidgddmaaGreatDoor
open Go.ChangeShapes Go.WideShapes Go.ChangeAt Go.RowKit

def pa (f : Int → Int) (s : Int) : Nat → Int
  | 0 => 0
  | k + 1 => bits .or .u64 (pa f s k) (f (s + k))
theorem sJoinP_below (a b c d : Int) (w : World) : Calls Tryz.prog 34 #[.agg #[.int .u64 a, .int .u64 b], .agg #[.int .u64 c, .int .u64 d]] w fun e w' => e = .returned (.agg #[.int .u64 (bits .or .u64 a c), .int .u64 (bits .or .u64 b d)]) ∧ Below w.heap.size w w' :=
  (sJoin_any a b c d w).mono fun e w' ⟨he, hw⟩ => ⟨he, by subst hw; exact (by repeat' (first | (with_reducible exact Below.refl _ _) | (with_reducible assumption) | (with_reducible refine below_drewN ?_ _) | (with_reducible refine Below.drew ?_) | (with_reducible refine below_new ?_ _) | (with_reducible refine below_next ?_ (by with_reducible assumption)) | (with_reducible refine Below.setCell ?_ ?_ _) | go_size))⟩


/-- The two boxes of a mask that is gathered: the answer's, still empty, and the mask's. -/
def MoP (w wr : World) (x y : Int) : Prop := wr.cell? ⟨w.heap.size, 0, none⟩ = some (.int .u64 0) ∧ wr.cell? ⟨w.heap.size, 1, none⟩ = some (.int .u64 0) ∧ wr.cell? ⟨w.heap.size + 1, 0, none⟩ = some (.int .u64 x) ∧ wr.cell? ⟨w.heap.size + 1, 1, none⟩ = some (.int .u64 y) ∧ w.heap.size < wr.heap.size ∧ w.heap.size + 1 < wr.heap.size ∧ Below w.heap.size w wr ∧ (∀ j, wr.frozen? ⟨w.heap.size, j, none⟩ = false) ∧ ∀ j, wr.frozen? ⟨w.heap.size + 1, j, none⟩ = false
theorem moP_next {w wr w2 : World} {x y : Int} (h : MoP w wr x y) (hB : Below wr.heap.size wr w2) (p q : Int) : MoP w ((w2.setCell ⟨w.heap.size + 1, 0, none⟩ (.int .u64 p)).setCell ⟨w.heap.size + 1, 1, none⟩ (.int .u64 q)) p q := by
  obtain ⟨h0, h1, h2, h3, h4, h5, h6, h7, h8⟩ := h
  have g0 := (hB.cell (p := ⟨w.heap.size, 0, none⟩) h4).trans h0
  have g1 := (hB.cell (p := ⟨w.heap.size, 1, none⟩) h4).trans h1
  have g2 := (hB.cell (p := ⟨w.heap.size + 1, 0, none⟩) h5).trans h2
  have g3 := (hB.cell (p := ⟨w.heap.size + 1, 1, none⟩) h5).trans h3
  have hz := hB.size
  refine ⟨?_, ?_, ?_, ?_, ?_, ?_, ?_, fun j => ?_, fun j => ?_⟩
  · rw [World.cell?_setCell_other (h := by simp), World.cell?_setCell_other (h := by simp)]; exact g0
  · rw [World.cell?_setCell_other (h := by simp), World.cell?_setCell_other (h := by simp)]; exact g1
  · rw [World.cell?_setCell_other (h := by simp), World.cell?_setCell_same (h := g2)]
  · rw [World.cell?_setCell_same (h := by rw [World.cell?_setCell_other (h := by simp)]; exact g3)]
  · simp; omega
  · simp; omega
  · exact ((h6.trans (hB.mono (by omega))).setCell (by simp) _).setCell (by simp) _
  · rw [World.frozen?_setCell, World.frozen?_setCell]; exact (hB.frozen (p := ⟨w.heap.size, j, none⟩) h4).trans (h7 j)
  · rw [World.frozen?_setCell, World.frozen?_setCell]; exact (hB.frozen (p := ⟨w.heap.size + 1, j, none⟩) h5).trans (h8 j)


set_option maxHeartbeats 3200000 in
theorem sPart_0 (st sz : Int) (n : Nat) (hn : (n : Int) = sz) (t0 : 0 ≤ st) (z0 : 1 ≤ sz) (zb : sz ≤ 24) (tw : st + n ≤ 96) (g o : Nat) (w : World) (h1 : w.cell? ⟨g, o + 1, none⟩ = some (.int .i8 0)) (h2 : w.cell? ⟨g, o + 2, none⟩ = some (.int .i16 st)) (h3 : w.cell? ⟨g, o + 3, none⟩ = some (.int .i16 sz)) :
    Calls Tryz.prog 32 #[.pointer (some ⟨g, o, none⟩)] w fun e w' => e = .returned (.agg #[.int .u64 (pa b0 st n), .int .u64 (pa b1 st n)]) ∧ Below w.heap.size w w' := by
  have hg := World.block_lt_of_cell? _ _ h1
  have N := Lib.hid hn
  have t1 : st ≤ 95 := by omega
  have G1 := Lib.hid h1
  have G2 := Lib.hid h2
  have G3 := Lib.hid h3
  clear h1 h2 h3 hn
  go_enter Tryz.func32, Tryz.ntmps32
  go_wp2
  go_loopw [4] (fun i wr => ∃ k : Nat, k ≤ n ∧ i = .int .i64 k ∧ MoP w wr (pa b0 st k) (pa b1 st k)) (fun i _ => n - (intOf i).toNat)
  case atStart => exact ⟨0, Nat.zero_le _, rfl, by simp, by simp, by simp [pa], by simp [pa], by simp; omega, by simp, (by repeat' (first | (with_reducible exact Below.refl _ _) | (with_reducible assumption) | (with_reducible refine below_drewN ?_ _) | (with_reducible refine Below.drew ?_) | (with_reducible refine below_new ?_ _) | (with_reducible refine below_next ?_ (by with_reducible assumption)) | (with_reducible refine Below.setCell ?_ ?_ _) | go_size)), by simp, by simp⟩
  case round =>
    obtain ⟨k, hk, rfl, hM⟩ := hrel
    have M := Lib.hid hM
    obtain ⟨m0, m1, m2, m3, m4, m5, m6, f0, f1⟩ := hM
    have g1 := (m6.cell (p := ⟨g, o + 1, none⟩) hg).trans G1.out
    have g2 := (m6.cell (p := ⟨g, o + 2, none⟩) hg).trans G2.out
    have g3 := (m6.cell (p := ⟨g, o + 3, none⟩) hg).trans G3.out
    have hg2 : g < wr.heap.size := Nat.lt_of_lt_of_le hg m6.size
    by_cases hkl : k < n
    · have hd : decide ((k : Int) < sz) = true := by have := N.out; simp; omega
      have hmo0 := Lib.hid (show pa b0 st (k + 1) = bits .or .u64 (pa b0 st k) (b0 (st + k)) from rfl)
      have hmo1 := Lib.hid (show pa b1 st (k + 1) = bits .or .u64 (pa b1 st k) (b1 (st + k)) from rfl)
      generalize pa b0 st k = x at *
      generalize pa b1 st k = y at *
      have n0 : 0 ≤ st + (k : Int) := by omega
      have v1 : IntKind.i64.wrap st = st := IntWalk.i64_in _ (by omega)
      have v2 : IntKind.i64.wrap (st + (k : Int)) = st + (k : Int) := IntWalk.i64_in _ (by omega)
      have n1 : st + (k : Int) ≤ 95 := by omega
      clear m6
      go_wp2_with (go_at_call 65; refine (sWidth_0 sz (by omega) (by omega) g o _ g1 g3).mono ?_; rintro e w2 ⟨rfl, rfl⟩)
      go_region_with (first
        | (go_at_call 66; (try rw [v1]); (try rw [v2]); refine (sBit_any _ n0 n1 _).mono ?_; rintro e w1 ⟨rfl, hB⟩; obtain ⟨hc1, hf1, hz1⟩ := bcell hB; have y0 : w.heap.size < w1.heap.size := hz1 _ (by first | omega | (simp; done) | (simp; omega)); have y1 : w.heap.size + 1 < w1.heap.size := hz1 _ (by first | omega | (simp; done) | (simp; omega)); have y2 : g < w1.heap.size := hz1 _ (by first | omega | (simp; done) | (simp; omega)); have c0 : w1.cell? ⟨w.heap.size + 1, 0, none⟩ = some (.int .u64 x) := (hB.cell (by first | omega | (simp; done) | (simp; omega))).trans (by simpa using m2); have c1 : w1.cell? ⟨w.heap.size + 1, 1, none⟩ = some (.int .u64 y) := (hB.cell (by first | omega | (simp; done) | (simp; omega))).trans (by simpa using m3); have d1 : ∀ j, w1.frozen? ⟨w.heap.size + 1, j, none⟩ = false := fun j => (hB.frozen (by first | omega | (simp; done) | (simp; omega))).trans (by simpa using f1 j))
        | (go_at_call 34; refine (sJoinP_below _ _ _ _ _).mono ?_; rintro e w2 ⟨rfl, hB2⟩; obtain ⟨hc2, hf2, hz2⟩ := bcell hB2; have z0 : w.heap.size < w2.heap.size := hz2 _ (by first | omega | (simp; done) | (simp; omega)); have z1 : w.heap.size + 1 < w2.heap.size := hz2 _ (by first | omega | (simp; done) | (simp; omega)); have c2 : w2.cell? ⟨w.heap.size + 1, 0, none⟩ = some (.int .u64 x) := (hB2.cell (by first | omega | (simp; done) | (simp; omega))).trans (by with_reducible assumption); have c3 : w2.cell? ⟨w.heap.size + 1, 1, none⟩ = some (.int .u64 y) := (hB2.cell (by first | omega | (simp; done) | (simp; omega))).trans (by with_reducible assumption); have d2 : ∀ j, w2.frozen? ⟨w.heap.size + 1, j, none⟩ = false := fun j => (hB2.frozen (by first | omega | (simp; done) | (simp; omega))).trans (d1 j)))
      all_goals go_wp2
      all_goals refine ⟨⟨k + 1, hkl, by rw [Int.natCast_succ], ?_⟩, by simp [intOf]; omega⟩
      all_goals rw [hmo0.out, hmo1.out]
      all_goals exact moP_next M.out (by repeat' (first | (with_reducible exact Below.refl _ _) | (with_reducible assumption) | (with_reducible refine below_drewN ?_ _) | (with_reducible refine Below.drew ?_) | (with_reducible refine below_new ?_ _) | (with_reducible refine below_next ?_ (by with_reducible assumption)) | (with_reducible refine Below.setCell ?_ ?_ _) | go_size)) _ _
    · have e : k = n := by omega
      subst e
      clear m6
      have hd : decide ((k : Int) < sz) = false := by have := N.out; simp; omega
      go_wp2_with (go_at_call 65; refine (sWidth_0 sz (by omega) (by omega) g o _ g1 g3).mono ?_; rintro e w2 ⟨rfl, rfl⟩)
      refine bodyPost_ret (by simp [results, Tryz.results32, go_sem, m0, m1]; try rfl) rfl ?_
      exact ⟨rfl, (M.out.2.2.2.2.2.2.1.setCell (by simp) _).setCell (by simp) _⟩

set_option maxHeartbeats 3200000 in
theorem sPart_1 (st sz : Int) (n : Nat) (hn : (n : Int) = 4 * sz) (t0 : 0 ≤ st) (z0 : 1 ≤ sz) (zb : sz ≤ 24) (tw : st + n ≤ 96) (g o : Nat) (w : World) (h1 : w.cell? ⟨g, o + 1, none⟩ = some (.int .i8 1)) (h2 : w.cell? ⟨g, o + 2, none⟩ = some (.int .i16 st)) (h3 : w.cell? ⟨g, o + 3, none⟩ = some (.int .i16 sz)) :
    Calls Tryz.prog 32 #[.pointer (some ⟨g, o, none⟩)] w fun e w' => e = .returned (.agg #[.int .u64 (pa b0 st n), .int .u64 (pa b1 st n)]) ∧ Below w.heap.size w w' := by
  have hg := World.block_lt_of_cell? _ _ h1
  have N := Lib.hid hn
  have t1 : st ≤ 95 := by omega
  have G1 := Lib.hid h1
  have G2 := Lib.hid h2
  have G3 := Lib.hid h3
  clear h1 h2 h3 hn
  go_enter Tryz.func32, Tryz.ntmps32
  go_wp2
  go_loopw [4] (fun i wr => ∃ k : Nat, k ≤ n ∧ i = .int .i64 k ∧ MoP w wr (pa b0 st k) (pa b1 st k)) (fun i _ => n - (intOf i).toNat)
  case atStart => exact ⟨0, Nat.zero_le _, rfl, by simp, by simp, by simp [pa], by simp [pa], by simp; omega, by simp, (by repeat' (first | (with_reducible exact Below.refl _ _) | (with_reducible assumption) | (with_reducible refine below_drewN ?_ _) | (with_reducible refine Below.drew ?_) | (with_reducible refine below_new ?_ _) | (with_reducible refine below_next ?_ (by with_reducible assumption)) | (with_reducible refine Below.setCell ?_ ?_ _) | go_size)), by simp, by simp⟩
  case round =>
    obtain ⟨k, hk, rfl, hM⟩ := hrel
    have M := Lib.hid hM
    obtain ⟨m0, m1, m2, m3, m4, m5, m6, f0, f1⟩ := hM
    have g1 := (m6.cell (p := ⟨g, o + 1, none⟩) hg).trans G1.out
    have g2 := (m6.cell (p := ⟨g, o + 2, none⟩) hg).trans G2.out
    have g3 := (m6.cell (p := ⟨g, o + 3, none⟩) hg).trans G3.out
    have hg2 : g < wr.heap.size := Nat.lt_of_lt_of_le hg m6.size
    by_cases hkl : k < n
    · have hd : decide ((k : Int) < 4 * sz) = true := by have := N.out; simp; omega
      have hmo0 := Lib.hid (show pa b0 st (k + 1) = bits .or .u64 (pa b0 st k) (b0 (st + k)) from rfl)
      have hmo1 := Lib.hid (show pa b1 st (k + 1) = bits .or .u64 (pa b1 st k) (b1 (st + k)) from rfl)
      generalize pa b0 st k = x at *
      generalize pa b1 st k = y at *
      have n0 : 0 ≤ st + (k : Int) := by omega
      have v1 : IntKind.i64.wrap st = st := IntWalk.i64_in _ (by omega)
      have v2 : IntKind.i64.wrap (st + (k : Int)) = st + (k : Int) := IntWalk.i64_in _ (by omega)
      have n1 : st + (k : Int) ≤ 95 := by omega
      clear m6
      go_wp2_with (go_at_call 65; refine (sWidth_1 sz (by omega) (by omega) g o _ g1 g3).mono ?_; rintro e w2 ⟨rfl, rfl⟩)
      go_region_with (first
        | (go_at_call 66; (try rw [v1]); (try rw [v2]); refine (sBit_any _ n0 n1 _).mono ?_; rintro e w1 ⟨rfl, hB⟩; obtain ⟨hc1, hf1, hz1⟩ := bcell hB; have y0 : w.heap.size < w1.heap.size := hz1 _ (by first | omega | (simp; done) | (simp; omega)); have y1 : w.heap.size + 1 < w1.heap.size := hz1 _ (by first | omega | (simp; done) | (simp; omega)); have y2 : g < w1.heap.size := hz1 _ (by first | omega | (simp; done) | (simp; omega)); have c0 : w1.cell? ⟨w.heap.size + 1, 0, none⟩ = some (.int .u64 x) := (hB.cell (by first | omega | (simp; done) | (simp; omega))).trans (by simpa using m2); have c1 : w1.cell? ⟨w.heap.size + 1, 1, none⟩ = some (.int .u64 y) := (hB.cell (by first | omega | (simp; done) | (simp; omega))).trans (by simpa using m3); have d1 : ∀ j, w1.frozen? ⟨w.heap.size + 1, j, none⟩ = false := fun j => (hB.frozen (by first | omega | (simp; done) | (simp; omega))).trans (by simpa using f1 j))
        | (go_at_call 34; refine (sJoinP_below _ _ _ _ _).mono ?_; rintro e w2 ⟨rfl, hB2⟩; obtain ⟨hc2, hf2, hz2⟩ := bcell hB2; have z0 : w.heap.size < w2.heap.size := hz2 _ (by first | omega | (simp; done) | (simp; omega)); have z1 : w.heap.size + 1 < w2.heap.size := hz2 _ (by first | omega | (simp; done) | (simp; omega)); have c2 : w2.cell? ⟨w.heap.size + 1, 0, none⟩ = some (.int .u64 x) := (hB2.cell (by first | omega | (simp; done) | (simp; omega))).trans (by with_reducible assumption); have c3 : w2.cell? ⟨w.heap.size + 1, 1, none⟩ = some (.int .u64 y) := (hB2.cell (by first | omega | (simp; done) | (simp; omega))).trans (by with_reducible assumption); have d2 : ∀ j, w2.frozen? ⟨w.heap.size + 1, j, none⟩ = false := fun j => (hB2.frozen (by first | omega | (simp; done) | (simp; omega))).trans (d1 j)))
      all_goals go_wp2
      all_goals refine ⟨⟨k + 1, hkl, by rw [Int.natCast_succ], ?_⟩, by simp [intOf]; omega⟩
      all_goals rw [hmo0.out, hmo1.out]
      all_goals exact moP_next M.out (by repeat' (first | (with_reducible exact Below.refl _ _) | (with_reducible assumption) | (with_reducible refine below_drewN ?_ _) | (with_reducible refine Below.drew ?_) | (with_reducible refine below_new ?_ _) | (with_reducible refine below_next ?_ (by with_reducible assumption)) | (with_reducible refine Below.setCell ?_ ?_ _) | go_size)) _ _
    · have e : k = n := by omega
      subst e
      clear m6
      have hd : decide ((k : Int) < 4 * sz) = false := by have := N.out; simp; omega
      go_wp2_with (go_at_call 65; refine (sWidth_1 sz (by omega) (by omega) g o _ g1 g3).mono ?_; rintro e w2 ⟨rfl, rfl⟩)
      refine bodyPost_ret (by simp [results, Tryz.results32, go_sem, m0, m1]; try rfl) rfl ?_
      exact ⟨rfl, (M.out.2.2.2.2.2.2.1.setCell (by simp) _).setCell (by simp) _⟩

set_option maxHeartbeats 3200000 in
theorem sPart_2 (st sz : Int) (n : Nat) (hn : (n : Int) = 5 * sz) (t0 : 0 ≤ st) (z0 : 1 ≤ sz) (zb : sz ≤ 24) (tw : st + n ≤ 96) (g o : Nat) (w : World) (h1 : w.cell? ⟨g, o + 1, none⟩ = some (.int .i8 2)) (h2 : w.cell? ⟨g, o + 2, none⟩ = some (.int .i16 st)) (h3 : w.cell? ⟨g, o + 3, none⟩ = some (.int .i16 sz)) :
    Calls Tryz.prog 32 #[.pointer (some ⟨g, o, none⟩)] w fun e w' => e = .returned (.agg #[.int .u64 (pa b0 st n), .int .u64 (pa b1 st n)]) ∧ Below w.heap.size w w' := by
  have hg := World.block_lt_of_cell? _ _ h1
  have N := Lib.hid hn
  have t1 : st ≤ 95 := by omega
  have G1 := Lib.hid h1
  have G2 := Lib.hid h2
  have G3 := Lib.hid h3
  clear h1 h2 h3 hn
  go_enter Tryz.func32, Tryz.ntmps32
  go_wp2
  go_loopw [4] (fun i wr => ∃ k : Nat, k ≤ n ∧ i = .int .i64 k ∧ MoP w wr (pa b0 st k) (pa b1 st k)) (fun i _ => n - (intOf i).toNat)
  case atStart => exact ⟨0, Nat.zero_le _, rfl, by simp, by simp, by simp [pa], by simp [pa], by simp; omega, by simp, (by repeat' (first | (with_reducible exact Below.refl _ _) | (with_reducible assumption) | (with_reducible refine below_drewN ?_ _) | (with_reducible refine Below.drew ?_) | (with_reducible refine below_new ?_ _) | (with_reducible refine below_next ?_ (by with_reducible assumption)) | (with_reducible refine Below.setCell ?_ ?_ _) | go_size)), by simp, by simp⟩
  case round =>
    obtain ⟨k, hk, rfl, hM⟩ := hrel
    have M := Lib.hid hM
    obtain ⟨m0, m1, m2, m3, m4, m5, m6, f0, f1⟩ := hM
    have g1 := (m6.cell (p := ⟨g, o + 1, none⟩) hg).trans G1.out
    have g2 := (m6.cell (p := ⟨g, o + 2, none⟩) hg).trans G2.out
    have g3 := (m6.cell (p := ⟨g, o + 3, none⟩) hg).trans G3.out
    have hg2 : g < wr.heap.size := Nat.lt_of_lt_of_le hg m6.size
    by_cases hkl : k < n
    · have hd : decide ((k : Int) < 5 * sz) = true := by have := N.out; simp; omega
      have hmo0 := Lib.hid (show pa b0 st (k + 1) = bits .or .u64 (pa b0 st k) (b0 (st + k)) from rfl)
      have hmo1 := Lib.hid (show pa b1 st (k + 1) = bits .or .u64 (pa b1 st k) (b1 (st + k)) from rfl)
      generalize pa b0 st k = x at *
      generalize pa b1 st k = y at *
      have n0 : 0 ≤ st + (k : Int) := by omega
      have v1 : IntKind.i64.wrap st = st := IntWalk.i64_in _ (by omega)
      have v2 : IntKind.i64.wrap (st + (k : Int)) = st + (k : Int) := IntWalk.i64_in _ (by omega)
      have n1 : st + (k : Int) ≤ 95 := by omega
      clear m6
      go_wp2_with (go_at_call 65; refine (sWidth_2 sz (by omega) (by omega) g o _ g1 g3).mono ?_; rintro e w2 ⟨rfl, rfl⟩)
      go_region_with (first
        | (go_at_call 66; (try rw [v1]); (try rw [v2]); refine (sBit_any _ n0 n1 _).mono ?_; rintro e w1 ⟨rfl, hB⟩; obtain ⟨hc1, hf1, hz1⟩ := bcell hB; have y0 : w.heap.size < w1.heap.size := hz1 _ (by first | omega | (simp; done) | (simp; omega)); have y1 : w.heap.size + 1 < w1.heap.size := hz1 _ (by first | omega | (simp; done) | (simp; omega)); have y2 : g < w1.heap.size := hz1 _ (by first | omega | (simp; done) | (simp; omega)); have c0 : w1.cell? ⟨w.heap.size + 1, 0, none⟩ = some (.int .u64 x) := (hB.cell (by first | omega | (simp; done) | (simp; omega))).trans (by simpa using m2); have c1 : w1.cell? ⟨w.heap.size + 1, 1, none⟩ = some (.int .u64 y) := (hB.cell (by first | omega | (simp; done) | (simp; omega))).trans (by simpa using m3); have d1 : ∀ j, w1.frozen? ⟨w.heap.size + 1, j, none⟩ = false := fun j => (hB.frozen (by first | omega | (simp; done) | (simp; omega))).trans (by simpa using f1 j))
        | (go_at_call 34; refine (sJoinP_below _ _ _ _ _).mono ?_; rintro e w2 ⟨rfl, hB2⟩; obtain ⟨hc2, hf2, hz2⟩ := bcell hB2; have z0 : w.heap.size < w2.heap.size := hz2 _ (by first | omega | (simp; done) | (simp; omega)); have z1 : w.heap.size + 1 < w2.heap.size := hz2 _ (by first | omega | (simp; done) | (simp; omega)); have c2 : w2.cell? ⟨w.heap.size + 1, 0, none⟩ = some (.int .u64 x) := (hB2.cell (by first | omega | (simp; done) | (simp; omega))).trans (by with_reducible assumption); have c3 : w2.cell? ⟨w.heap.size + 1, 1, none⟩ = some (.int .u64 y) := (hB2.cell (by first | omega | (simp; done) | (simp; omega))).trans (by with_reducible assumption); have d2 : ∀ j, w2.frozen? ⟨w.heap.size + 1, j, none⟩ = false := fun j => (hB2.frozen (by first | omega | (simp; done) | (simp; omega))).trans (d1 j)))
      all_goals go_wp2
      all_goals refine ⟨⟨k + 1, hkl, by rw [Int.natCast_succ], ?_⟩, by simp [intOf]; omega⟩
      all_goals rw [hmo0.out, hmo1.out]
      all_goals exact moP_next M.out (by repeat' (first | (with_reducible exact Below.refl _ _) | (with_reducible assumption) | (with_reducible refine below_drewN ?_ _) | (with_reducible refine Below.drew ?_) | (with_reducible refine below_new ?_ _) | (with_reducible refine below_next ?_ (by with_reducible assumption)) | (with_reducible refine Below.setCell ?_ ?_ _) | go_size)) _ _
    · have e : k = n := by omega
      subst e
      clear m6
      have hd : decide ((k : Int) < 5 * sz) = false := by have := N.out; simp; omega
      go_wp2_with (go_at_call 65; refine (sWidth_2 sz (by omega) (by omega) g o _ g1 g3).mono ?_; rintro e w2 ⟨rfl, rfl⟩)
      refine bodyPost_ret (by simp [results, Tryz.results32, go_sem, m0, m1]; try rfl) rfl ?_
      exact ⟨rfl, (M.out.2.2.2.2.2.2.1.setCell (by simp) _).setCell (by simp) _⟩

set_option maxHeartbeats 3200000 in
theorem sPart_3 (st sz : Int) (n : Nat) (hn : (n : Int) = sz + 1) (t0 : 0 ≤ st) (z0 : 1 ≤ sz) (zb : sz ≤ 24) (tw : st + n ≤ 96) (g o : Nat) (w : World) (h1 : w.cell? ⟨g, o + 1, none⟩ = some (.int .i8 3)) (h2 : w.cell? ⟨g, o + 2, none⟩ = some (.int .i16 st)) (h3 : w.cell? ⟨g, o + 3, none⟩ = some (.int .i16 sz)) :
    Calls Tryz.prog 32 #[.pointer (some ⟨g, o, none⟩)] w fun e w' => e = .returned (.agg #[.int .u64 (pa b0 st n), .int .u64 (pa b1 st n)]) ∧ Below w.heap.size w w' := by
  have hg := World.block_lt_of_cell? _ _ h1
  have N := Lib.hid hn
  have t1 : st ≤ 95 := by omega
  have G1 := Lib.hid h1
  have G2 := Lib.hid h2
  have G3 := Lib.hid h3
  clear h1 h2 h3 hn
  go_enter Tryz.func32, Tryz.ntmps32
  go_wp2
  go_loopw [4] (fun i wr => ∃ k : Nat, k ≤ n ∧ i = .int .i64 k ∧ MoP w wr (pa b0 st k) (pa b1 st k)) (fun i _ => n - (intOf i).toNat)
  case atStart => exact ⟨0, Nat.zero_le _, rfl, by simp, by simp, by simp [pa], by simp [pa], by simp; omega, by simp, (by repeat' (first | (with_reducible exact Below.refl _ _) | (with_reducible assumption) | (with_reducible refine below_drewN ?_ _) | (with_reducible refine Below.drew ?_) | (with_reducible refine below_new ?_ _) | (with_reducible refine below_next ?_ (by with_reducible assumption)) | (with_reducible refine Below.setCell ?_ ?_ _) | go_size)), by simp, by simp⟩
  case round =>
    obtain ⟨k, hk, rfl, hM⟩ := hrel
    have M := Lib.hid hM
    obtain ⟨m0, m1, m2, m3, m4, m5, m6, f0, f1⟩ := hM
    have g1 := (m6.cell (p := ⟨g, o + 1, none⟩) hg).trans G1.out
    have g2 := (m6.cell (p := ⟨g, o + 2, none⟩) hg).trans G2.out
    have g3 := (m6.cell (p := ⟨g, o + 3, none⟩) hg).trans G3.out
    have hg2 : g < wr.heap.size := Nat.lt_of_lt_of_le hg m6.size
    by_cases hkl : k < n
    · have hd : decide ((k : Int) < sz + 1) = true := by have := N.out; simp; omega
      have hmo0 := Lib.hid (show pa b0 st (k + 1) = bits .or .u64 (pa b0 st k) (b0 (st + k)) from rfl)
      have hmo1 := Lib.hid (show pa b1 st (k + 1) = bits .or .u64 (pa b1 st k) (b1 (st + k)) from rfl)
      generalize pa b0 st k = x at *
      generalize pa b1 st k = y at *
      have n0 : 0 ≤ st + (k : Int) := by omega
      have v1 : IntKind.i64.wrap st = st := IntWalk.i64_in _ (by omega)
      have v2 : IntKind.i64.wrap (st + (k : Int)) = st + (k : Int) := IntWalk.i64_in _ (by omega)
      have n1 : st + (k : Int) ≤ 95 := by omega
      clear m6
      go_wp2_with (go_at_call 65; refine (sWidth_3 sz (by omega) (by omega) g o _ g1 g3).mono ?_; rintro e w2 ⟨rfl, rfl⟩)
      go_region_with (first
        | (go_at_call 66; (try rw [v1]); (try rw [v2]); refine (sBit_any _ n0 n1 _).mono ?_; rintro e w1 ⟨rfl, hB⟩; obtain ⟨hc1, hf1, hz1⟩ := bcell hB; have y0 : w.heap.size < w1.heap.size := hz1 _ (by first | omega | (simp; done) | (simp; omega)); have y1 : w.heap.size + 1 < w1.heap.size := hz1 _ (by first | omega | (simp; done) | (simp; omega)); have y2 : g < w1.heap.size := hz1 _ (by first | omega | (simp; done) | (simp; omega)); have c0 : w1.cell? ⟨w.heap.size + 1, 0, none⟩ = some (.int .u64 x) := (hB.cell (by first | omega | (simp; done) | (simp; omega))).trans (by simpa using m2); have c1 : w1.cell? ⟨w.heap.size + 1, 1, none⟩ = some (.int .u64 y) := (hB.cell (by first | omega | (simp; done) | (simp; omega))).trans (by simpa using m3); have d1 : ∀ j, w1.frozen? ⟨w.heap.size + 1, j, none⟩ = false := fun j => (hB.frozen (by first | omega | (simp; done) | (simp; omega))).trans (by simpa using f1 j))
        | (go_at_call 34; refine (sJoinP_below _ _ _ _ _).mono ?_; rintro e w2 ⟨rfl, hB2⟩; obtain ⟨hc2, hf2, hz2⟩ := bcell hB2; have z0 : w.heap.size < w2.heap.size := hz2 _ (by first | omega | (simp; done) | (simp; omega)); have z1 : w.heap.size + 1 < w2.heap.size := hz2 _ (by first | omega | (simp; done) | (simp; omega)); have c2 : w2.cell? ⟨w.heap.size + 1, 0, none⟩ = some (.int .u64 x) := (hB2.cell (by first | omega | (simp; done) | (simp; omega))).trans (by with_reducible assumption); have c3 : w2.cell? ⟨w.heap.size + 1, 1, none⟩ = some (.int .u64 y) := (hB2.cell (by first | omega | (simp; done) | (simp; omega))).trans (by with_reducible assumption); have d2 : ∀ j, w2.frozen? ⟨w.heap.size + 1, j, none⟩ = false := fun j => (hB2.frozen (by first | omega | (simp; done) | (simp; omega))).trans (d1 j)))
      all_goals go_wp2
      all_goals refine ⟨⟨k + 1, hkl, by rw [Int.natCast_succ], ?_⟩, by simp [intOf]; omega⟩
      all_goals rw [hmo0.out, hmo1.out]
      all_goals exact moP_next M.out (by repeat' (first | (with_reducible exact Below.refl _ _) | (with_reducible assumption) | (with_reducible refine below_drewN ?_ _) | (with_reducible refine Below.drew ?_) | (with_reducible refine below_new ?_ _) | (with_reducible refine below_next ?_ (by with_reducible assumption)) | (with_reducible refine Below.setCell ?_ ?_ _) | go_size)) _ _
    · have e : k = n := by omega
      subst e
      clear m6
      have hd : decide ((k : Int) < sz + 1) = false := by have := N.out; simp; omega
      go_wp2_with (go_at_call 65; refine (sWidth_3 sz (by omega) (by omega) g o _ g1 g3).mono ?_; rintro e w2 ⟨rfl, rfl⟩)
      refine bodyPost_ret (by simp [results, Tryz.results32, go_sem, m0, m1]; try rfl) rfl ?_
      exact ⟨rfl, (M.out.2.2.2.2.2.2.1.setCell (by simp) _).setCell (by simp) _⟩


end Go.Proofs.YtnbijfeidgddmaaGreatDoor
