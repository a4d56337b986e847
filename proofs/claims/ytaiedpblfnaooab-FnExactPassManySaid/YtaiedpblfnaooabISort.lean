/- Contracts: the holes whose passes sort by a field, the program's. -/
import Derived.Test.YtaiedpblfnaooabSSort
import Derived.Test.YtaiedpblfnaooabVFi
namespace Go.Proofs.Ytaiedpblfnaooab
open Go.ChangeShapes Go.WideShapes Go.ChangeAt Go.RowKit

theorem own_weaken {B B' : Nat} {zs : List Int} {v : Value} {w : World} (h : OwnInts B zs v w) (hb : B' ≤ B) : OwnInts B' zs v w :=
  ⟨h.1, h.2.imp id fun ⟨g, cap, cur, h1, h2, h3⟩ => ⟨g, cap, cur, h1, Nat.le_trans hb h2, h3⟩⟩
def zeros (n : Nat) : List Int := List.replicate n 0
theorem zeros_len (n : Nat) : (zeros n).length = n := by unfold zeros; simp
theorem zeros_map (n : Nat) : (zeros n).map (Value.int .i64) = List.replicate n (Value.int .i64 0) := by unfold zeros; simp

set_option maxHeartbeats 3200000 in
theorem iSort_0 (s : ByteArray) (st sz : Int) (n : Nat) (hn : (n : Int) = sz) (t0 : 0 ≤ st) (t1 : st ≤ 95) (z0 : 1 ≤ sz) (zb : sz ≤ 24) (nb : n ≤ 24) (w : World) :
    Calls Try.prog 80 #[.agg #[.string s, .int .i8 0, .int .i16 st, .int .i16 sz]] w (SlcR (marks st n) w) := by
  obtain ⟨i0, hi, hz0, hz1, hz2⟩ := info_parts info_i64
  have N := Lib.hid hn
  have vn : IntKind.i64.wrap (sz - 1) = sz - 1 := IntWalk.i64_in _ (by omega)
  have hp : 0 < n := by omega
  clear hn
  go_enter Try.func80, Try.ntmps80
  go_wp2_with (first
    | (go_at_call 68; refine (layout_0 _ _ _ z0 (by omega) _).mono ?_; rintro e w1 ⟨rfl, hB⟩; have c1 : w1.cell? ⟨w.heap.size, 1, none⟩ = some (.int .i8 0) := (hB.cell (by first | omega | (simp; done) | (simp; omega))).trans (by simp); have c2 : w1.cell? ⟨w.heap.size, 2, none⟩ = some (.int .i16 st) := (hB.cell (by first | omega | (simp; done) | (simp; omega))).trans (by simp); have b1 : Below w.heap.size w w1 := (by repeat' (first | (with_reducible exact Below.refl _ _) | (with_reducible assumption) | (with_reducible refine below_drewN ?_ _) | (with_reducible refine Below.drew ?_) | (with_reducible refine below_new ?_ _) | (with_reducible refine below_next ?_ (by with_reducible assumption)) | (with_reducible refine Below.setCell ?_ ?_ _) | go_size)); have s1 : w.heap.size + 1 ≤ w1.heap.size := (by have := hB.size; simp at this; omega); have B1 := Lib.hid b1; clear hB b1)
    | (go_invoke; go_simp; go_at_call 194; refine (holes_0 _ z0 (by omega) _).mono ?_; rintro e w2 ⟨rfl, rfl⟩)
    | (go_at_call 194; refine (holes_0 _ z0 (by omega) _).mono ?_; rintro e w2 ⟨rfl, rfl⟩)
    | (at_make; refine wpList_make_full _ rfl _ _ 33 rfl (w.heap.size + 1) 2 i0 (.int .i64 0) 1 Try.underlying33 hi hz0 hz1 _ _ _ _ n rfl rfl N.out.symm N.out.symm (by rw [hz2]; omega) (by unfold maxLen; omega) (by omega) ?_; intro w3 hown hgrow; have M := Lib.hid hown; have G := Lib.hid hgrow; clear hown hgrow))
  have M2 : w3.ownsRow (w.heap.size + 1) 2 1 (.slice (some ⟨w1.heap.size, 0, none⟩) n n) n ((markTo (zeros n) st 0).map (Value.int .i64)) := by
    rw [markTo_zero, zeros_map]; have h := M.out; rw [show (madeCells (Value.int IntKind.i64 0).cells (n * 1)).toList = List.replicate n (Value.int .i64 0) from by rw [Nat.mul_one]; exact toList_madeCells_one _ _] at h; exact h
  have bw : Below w1.heap.size w1 w3 := Below.grown (Below.refl _ _) G.out (Nat.le_refl _) (fun j hj => by cases hj)
  have e1 : w3.cell? ⟨w.heap.size, 1, none⟩ = some (.int .i8 0) := (bw.cell (show w.heap.size < w1.heap.size by omega)).trans c1
  have e2 : w3.cell? ⟨w.heap.size, 2, none⟩ = some (.int .i16 st) := (bw.cell (show w.heap.size < w1.heap.size by omega)).trans c2
  have B3 := Lib.hid (B1.out.trans (bw.mono (by omega)))
  have OM := Lib.hid M2
  have zl := Lib.hid (zeros_len n)
  clear M G bw c1 c2 M2 B1 vn hi hz0 hz1 hz2
  go_loopw [18] (fun i wr => ∃ j : Nat, j ≤ n ∧ i = .int .i64 j ∧ wr.ownsRow (w.heap.size + 1) 2 1 (.slice (some ⟨w1.heap.size, 0, none⟩) n n) n ((markTo (zeros n) st j).map (Value.int .i64)) ∧ Below (w.heap.size + 1) w3 wr) (fun i _ => n - (intOf i).toNat)
  case atStart => exact ⟨0, Nat.zero_le _, rfl, OM.out, Below.refl _ _⟩
  case round =>
    obtain ⟨j, hj, rfl, O2, hB⟩ := hrel
    have O3 := Lib.hid O2
    have BB := Lib.hid hB
    have g1 := (hB.cell (p := ⟨w.heap.size, 1, none⟩) (Nat.lt_succ_self _)).trans e1
    have g2 := (hB.cell (p := ⟨w.heap.size, 2, none⟩) (Nat.lt_succ_self _)).trans e2
    clear e1 e2
    have vst : IntKind.i64.wrap st = st := IntWalk.i64_in _ (by omega)
    have v2 : IntKind.i64.wrap (st + (j : Int)) = st + (j : Int) := IntWalk.i64_in _ (by omega)
    by_cases hjl : j < n
    · have hd : decide ((j : Int) < (n : Int)) = true := by simpa using hjl
      have hl : j < (markTo (zeros n) st j).length := by rw [markTo_len, zeros_len]; exact hjl
      have hdst := O2.cellAt j (by omega)
      rw [List.getElem?_map, List.getElem?_eq_getElem hl] at hdst
      simp only [Option.map_some] at hdst
      generalize (markTo (zeros n) st j)[j] = old at hdst
      have hfz := O2.frozenAt j
      clear O2 hB hl
      go_wp2
      have hs := O3.out.stored j (.int .i64 (st + (j : Int)))
      rw [markTo_next (zeros n) st j (by rw [zeros_len]; exact hjl)] at hs
      exact ⟨⟨j + 1, hjl, by rw [Int.natCast_succ], hs.1, BB.out.setCell (by simp; omega) _⟩, by simp [intOf]; omega⟩
    · have e : j = n := by omega
      subst e
      have hd : decide ((j : Int) < (j : Int)) = false := by simp
      have ma := Lib.hid (markTo_all (zeros j) st)
      have OW : Hid (OwnInts (w.heap.size + 1) (marks st j) (.slice (some ⟨w1.heap.size, 0, none⟩) j j) wr) := Lib.hid (by
        have o := O3.out
        have m := ma.out
        rw [zeros_len] at m
        rw [m] at o
        unfold OwnInts; rw [marks_len]; exact o)
      clear O2 hB ma
      go_wp2
      go_ret
      exact SlcR.mk (own_weaken OW.out (Nat.le_succ _)) (B3.out.trans (BB.out.mono (Nat.le_succ _)))

set_option maxHeartbeats 3200000 in
theorem iSort_1 (s : ByteArray) (st sz : Int) (n : Nat) (hn : (n : Int) = 4 * sz) (t0 : 0 ≤ st) (t1 : st ≤ 95) (z0 : 1 ≤ sz) (zb : sz ≤ 24) (nb : n ≤ 24) (w : World) :
    Calls Try.prog 80 #[.agg #[.string s, .int .i8 1, .int .i16 st, .int .i16 sz]] w (SlcR (dsc st n n) w) := by
  obtain ⟨i0, hi, hz0, hz1, hz2⟩ := info_parts info_i64
  have N := Lib.hid hn
  have vn : IntKind.i64.wrap (4 * sz - 1) = 4 * sz - 1 := IntWalk.i64_in _ (by omega)
  have hp : 0 < n := by omega
  clear hn
  go_enter Try.func80, Try.ntmps80
  go_wp2_with (first
    | (go_at_call 68; refine (layout_1 _ _ _ z0 (by omega) _).mono ?_; rintro e w1 ⟨rfl, hB⟩; have c1 : w1.cell? ⟨w.heap.size, 1, none⟩ = some (.int .i8 1) := (hB.cell (by first | omega | (simp; done) | (simp; omega))).trans (by simp); have c2 : w1.cell? ⟨w.heap.size, 2, none⟩ = some (.int .i16 st) := (hB.cell (by first | omega | (simp; done) | (simp; omega))).trans (by simp); have b1 : Below w.heap.size w w1 := (by repeat' (first | (with_reducible exact Below.refl _ _) | (with_reducible assumption) | (with_reducible refine below_drewN ?_ _) | (with_reducible refine Below.drew ?_) | (with_reducible refine below_new ?_ _) | (with_reducible refine below_next ?_ (by with_reducible assumption)) | (with_reducible refine Below.setCell ?_ ?_ _) | go_size)); have s1 : w.heap.size + 1 ≤ w1.heap.size := (by have := hB.size; simp at this; omega); have B1 := Lib.hid b1; clear hB b1)
    | (go_invoke; go_simp; go_at_call 203; refine (holes_1 _ z0 (by omega) _).mono ?_; rintro e w2 ⟨rfl, rfl⟩)
    | (go_at_call 203; refine (holes_1 _ z0 (by omega) _).mono ?_; rintro e w2 ⟨rfl, rfl⟩)
    | (at_make; refine wpList_make_full _ rfl _ _ 33 rfl (w.heap.size + 1) 2 i0 (.int .i64 0) 1 Try.underlying33 hi hz0 hz1 _ _ _ _ n rfl rfl N.out.symm N.out.symm (by rw [hz2]; omega) (by unfold maxLen; omega) (by omega) ?_; intro w3 hown hgrow; have M := Lib.hid hown; have G := Lib.hid hgrow; clear hown hgrow))
  have M2 : w3.ownsRow (w.heap.size + 1) 2 1 (.slice (some ⟨w1.heap.size, 0, none⟩) n n) n ((markTo (zeros n) st 0).map (Value.int .i64)) := by
    rw [markTo_zero, zeros_map]; have h := M.out; rw [show (madeCells (Value.int IntKind.i64 0).cells (n * 1)).toList = List.replicate n (Value.int .i64 0) from by rw [Nat.mul_one]; exact toList_madeCells_one _ _] at h; exact h
  have bw : Below w1.heap.size w1 w3 := Below.grown (Below.refl _ _) G.out (Nat.le_refl _) (fun j hj => by cases hj)
  have e1 : w3.cell? ⟨w.heap.size, 1, none⟩ = some (.int .i8 1) := (bw.cell (show w.heap.size < w1.heap.size by omega)).trans c1
  have e2 : w3.cell? ⟨w.heap.size, 2, none⟩ = some (.int .i16 st) := (bw.cell (show w.heap.size < w1.heap.size by omega)).trans c2
  have B3 := Lib.hid (B1.out.trans (bw.mono (by omega)))
  have OM := Lib.hid M2
  have zl := Lib.hid (zeros_len n)
  clear M G bw c1 c2 M2 B1 vn hi hz0 hz1 hz2
  go_loopw [18] (fun i wr => ∃ j : Nat, j ≤ n ∧ i = .int .i64 j ∧ wr.ownsRow (w.heap.size + 1) 2 1 (.slice (some ⟨w1.heap.size, 0, none⟩) n n) n ((markTo (zeros n) st j).map (Value.int .i64)) ∧ Below (w.heap.size + 1) w3 wr) (fun i _ => n - (intOf i).toNat)
  case atStart => exact ⟨0, Nat.zero_le _, rfl, OM.out, Below.refl _ _⟩
  case round =>
    obtain ⟨j, hj, rfl, O2, hB⟩ := hrel
    have O3 := Lib.hid O2
    have BB := Lib.hid hB
    have g1 := (hB.cell (p := ⟨w.heap.size, 1, none⟩) (Nat.lt_succ_self _)).trans e1
    have g2 := (hB.cell (p := ⟨w.heap.size, 2, none⟩) (Nat.lt_succ_self _)).trans e2
    clear e1 e2
    have vst : IntKind.i64.wrap st = st := IntWalk.i64_in _ (by omega)
    have v2 : IntKind.i64.wrap (st + (j : Int)) = st + (j : Int) := IntWalk.i64_in _ (by omega)
    by_cases hjl : j < n
    · have hd : decide ((j : Int) < (n : Int)) = true := by simpa using hjl
      have hl : j < (markTo (zeros n) st j).length := by rw [markTo_len, zeros_len]; exact hjl
      have hdst := O2.cellAt j (by omega)
      rw [List.getElem?_map, List.getElem?_eq_getElem hl] at hdst
      simp only [Option.map_some] at hdst
      generalize (markTo (zeros n) st j)[j] = old at hdst
      have hfz := O2.frozenAt j
      clear O2 hB hl
      go_wp2
      have hs := O3.out.stored j (.int .i64 (st + (j : Int)))
      rw [markTo_next (zeros n) st j (by rw [zeros_len]; exact hjl)] at hs
      exact ⟨⟨j + 1, hjl, by rw [Int.natCast_succ], hs.1, BB.out.setCell (by simp; omega) _⟩, by simp [intOf]; omega⟩
    · have e : j = n := by omega
      subst e
      have hd : decide ((j : Int) < (j : Int)) = false := by simp
      have ma := Lib.hid (markTo_all (zeros j) st)
      have OW : Hid (OwnInts (w.heap.size + 1) (marks st j) (.slice (some ⟨w1.heap.size, 0, none⟩) j j) wr) := Lib.hid (by
        have o := O3.out
        have m := ma.out
        rw [zeros_len] at m
        rw [m] at o
        unfold OwnInts; rw [marks_len]; exact o)
      clear O2 hB ma
      have ml := marks_len st j
      have R := Lib.hid (reverse_any (w.heap.size + 1) (marks st j) _ _ OW.out (by omega) (by omega))
      have dr := Lib.hid (dsc_rev st j)
      clear ml
      go_wp2_with (go_at_call 134; refine R.out.mono ?_; rintro e w4 ⟨rfl, hO, hB⟩; have O4 := Lib.hid hO; have B4 := Lib.hid hB; clear hO hB)
      go_ret
      exact SlcR.mk (by rw [← dr.out]; exact own_weaken O4.out (Nat.le_succ _)) (B3.out.trans ((BB.out.trans B4.out).mono (Nat.le_succ _)))

set_option maxHeartbeats 3200000 in
theorem iSort_2 (s : ByteArray) (st sz : Int) (n : Nat) (hn : (n : Int) = 5 * sz) (t0 : 0 ≤ st) (t1 : st ≤ 95) (z0 : 1 ≤ sz) (zb : sz ≤ 24) (nb : n ≤ 24) (w : World) :
    Calls Try.prog 80 #[.agg #[.string s, .int .i8 2, .int .i16 st, .int .i16 sz]] w (SlcR (dsc st n n) w) := by
  obtain ⟨i0, hi, hz0, hz1, hz2⟩ := info_parts info_i64
  have N := Lib.hid hn
  have vn : IntKind.i64.wrap (5 * sz - 1) = 5 * sz - 1 := IntWalk.i64_in _ (by omega)
  have hp : 0 < n := by omega
  clear hn
  go_enter Try.func80, Try.ntmps80
  go_wp2_with (first
    | (go_at_call 68; refine (layout_2 _ _ _ z0 (by omega) _).mono ?_; rintro e w1 ⟨rfl, hB⟩; have c1 : w1.cell? ⟨w.heap.size, 1, none⟩ = some (.int .i8 2) := (hB.cell (by first | omega | (simp; done) | (simp; omega))).trans (by simp); have c2 : w1.cell? ⟨w.heap.size, 2, none⟩ = some (.int .i16 st) := (hB.cell (by first | omega | (simp; done) | (simp; omega))).trans (by simp); have b1 : Below w.heap.size w w1 := (by repeat' (first | (with_reducible exact Below.refl _ _) | (with_reducible assumption) | (with_reducible refine below_drewN ?_ _) | (with_reducible refine Below.drew ?_) | (with_reducible refine below_new ?_ _) | (with_reducible refine below_next ?_ (by with_reducible assumption)) | (with_reducible refine Below.setCell ?_ ?_ _) | go_size)); have s1 : w.heap.size + 1 ≤ w1.heap.size := (by have := hB.size; simp at this; omega); have B1 := Lib.hid b1; clear hB b1)
    | (go_invoke; go_simp; go_at_call 207; refine (holes_2 _ z0 (by omega) _).mono ?_; rintro e w2 ⟨rfl, rfl⟩)
    | (go_at_call 207; refine (holes_2 _ z0 (by omega) _).mono ?_; rintro e w2 ⟨rfl, rfl⟩)
    | (at_make; refine wpList_make_full _ rfl _ _ 33 rfl (w.heap.size + 1) 2 i0 (.int .i64 0) 1 Try.underlying33 hi hz0 hz1 _ _ _ _ n rfl rfl N.out.symm N.out.symm (by rw [hz2]; omega) (by unfold maxLen; omega) (by omega) ?_; intro w3 hown hgrow; have M := Lib.hid hown; have G := Lib.hid hgrow; clear hown hgrow))
  have M2 : w3.ownsRow (w.heap.size + 1) 2 1 (.slice (some ⟨w1.heap.size, 0, none⟩) n n) n ((markTo (zeros n) st 0).map (Value.int .i64)) := by
    rw [markTo_zero, zeros_map]; have h := M.out; rw [show (madeCells (Value.int IntKind.i64 0).cells (n * 1)).toList = List.replicate n (Value.int .i64 0) from by rw [Nat.mul_one]; exact toList_madeCells_one _ _] at h; exact h
  have bw : Below w1.heap.size w1 w3 := Below.grown (Below.refl _ _) G.out (Nat.le_refl _) (fun j hj => by cases hj)
  have e1 : w3.cell? ⟨w.heap.size, 1, none⟩ = some (.int .i8 2) := (bw.cell (show w.heap.size < w1.heap.size by omega)).trans c1
  have e2 : w3.cell? ⟨w.heap.size, 2, none⟩ = some (.int .i16 st) := (bw.cell (show w.heap.size < w1.heap.size by omega)).trans c2
  have B3 := Lib.hid (B1.out.trans (bw.mono (by omega)))
  have OM := Lib.hid M2
  have zl := Lib.hid (zeros_len n)
  clear M G bw c1 c2 M2 B1 vn hi hz0 hz1 hz2
  go_loopw [18] (fun i wr => ∃ j : Nat, j ≤ n ∧ i = .int .i64 j ∧ wr.ownsRow (w.heap.size + 1) 2 1 (.slice (some ⟨w1.heap.size, 0, none⟩) n n) n ((markTo (zeros n) st j).map (Value.int .i64)) ∧ Below (w.heap.size + 1) w3 wr) (fun i _ => n - (intOf i).toNat)
  case atStart => exact ⟨0, Nat.zero_le _, rfl, OM.out, Below.refl _ _⟩
  case round =>
    obtain ⟨j, hj, rfl, O2, hB⟩ := hrel
    have O3 := Lib.hid O2
    have BB := Lib.hid hB
    have g1 := (hB.cell (p := ⟨w.heap.size, 1, none⟩) (Nat.lt_succ_self _)).trans e1
    have g2 := (hB.cell (p := ⟨w.heap.size, 2, none⟩) (Nat.lt_succ_self _)).trans e2
    clear e1 e2
    have vst : IntKind.i64.wrap st = st := IntWalk.i64_in _ (by omega)
    have v2 : IntKind.i64.wrap (st + (j : Int)) = st + (j : Int) := IntWalk.i64_in _ (by omega)
    by_cases hjl : j < n
    · have hd : decide ((j : Int) < (n : Int)) = true := by simpa using hjl
      have hl : j < (markTo (zeros n) st j).length := by rw [markTo_len, zeros_len]; exact hjl
      have hdst := O2.cellAt j (by omega)
      rw [List.getElem?_map, List.getElem?_eq_getElem hl] at hdst
      simp only [Option.map_some] at hdst
      generalize (markTo (zeros n) st j)[j] = old at hdst
      have hfz := O2.frozenAt j
      clear O2 hB hl
      go_wp2
      have hs := O3.out.stored j (.int .i64 (st + (j : Int)))
      rw [markTo_next (zeros n) st j (by rw [zeros_len]; exact hjl)] at hs
      exact ⟨⟨j + 1, hjl, by rw [Int.natCast_succ], hs.1, BB.out.setCell (by simp; omega) _⟩, by simp [intOf]; omega⟩
    · have e : j = n := by omega
      subst e
      have hd : decide ((j : Int) < (j : Int)) = false := by simp
      have ma := Lib.hid (markTo_all (zeros j) st)
      have OW : Hid (OwnInts (w.heap.size + 1) (marks st j) (.slice (some ⟨w1.heap.size, 0, none⟩) j j) wr) := Lib.hid (by
        have o := O3.out
        have m := ma.out
        rw [zeros_len] at m
        rw [m] at o
        unfold OwnInts; rw [marks_len]; exact o)
      clear O2 hB ma
      have ml := marks_len st j
      have R := Lib.hid (reverse_any (w.heap.size + 1) (marks st j) _ _ OW.out (by omega) (by omega))
      have dr := Lib.hid (dsc_rev st j)
      clear ml
      go_wp2_with (go_at_call 134; refine R.out.mono ?_; rintro e w4 ⟨rfl, hO, hB⟩; have O4 := Lib.hid hO; have B4 := Lib.hid hB; clear hO hB)
      go_ret
      exact SlcR.mk (by rw [← dr.out]; exact own_weaken O4.out (Nat.le_succ _)) (B3.out.trans ((BB.out.trans B4.out).mono (Nat.le_succ _)))

set_option maxHeartbeats 3200000 in
theorem iSort_3 (s : ByteArray) (st sz : Int) (n : Nat) (hn : (n : Int) = sz) (t0 : 0 ≤ st) (t1 : st ≤ 95) (z0 : 1 ≤ sz) (zb : sz ≤ 24) (nb : n ≤ 24) (w : World) :
    Calls Try.prog 80 #[.agg #[.string s, .int .i8 3, .int .i16 st, .int .i16 sz]] w (SlcR (dsc st n n) w) := by
  obtain ⟨i0, hi, hz0, hz1, hz2⟩ := info_parts info_i64
  have N := Lib.hid hn
  have vn : IntKind.i64.wrap (sz + 1 - 1) = sz + 1 - 1 := IntWalk.i64_in _ (by omega)
  have hp : 0 < n := by omega
  clear hn
  go_enter Try.func80, Try.ntmps80
  go_wp2_with (first
    | (go_at_call 68; refine (layout_3 _ _ _ z0 (by omega) _).mono ?_; rintro e w1 ⟨rfl, hB⟩; have c1 : w1.cell? ⟨w.heap.size, 1, none⟩ = some (.int .i8 3) := (hB.cell (by first | omega | (simp; done) | (simp; omega))).trans (by simp); have c2 : w1.cell? ⟨w.heap.size, 2, none⟩ = some (.int .i16 st) := (hB.cell (by first | omega | (simp; done) | (simp; omega))).trans (by simp); have b1 : Below w.heap.size w w1 := (by repeat' (first | (with_reducible exact Below.refl _ _) | (with_reducible assumption) | (with_reducible refine below_drewN ?_ _) | (with_reducible refine Below.drew ?_) | (with_reducible refine below_new ?_ _) | (with_reducible refine below_next ?_ (by with_reducible assumption)) | (with_reducible refine Below.setCell ?_ ?_ _) | go_size)); have s1 : w.heap.size + 1 ≤ w1.heap.size := (by have := hB.size; simp at this; omega); have B1 := Lib.hid b1; clear hB b1)
    | (go_invoke; go_simp; go_at_call 198; refine (holes_3 _ z0 (by omega) _).mono ?_; rintro e w2 ⟨rfl, rfl⟩)
    | (go_at_call 198; refine (holes_3 _ z0 (by omega) _).mono ?_; rintro e w2 ⟨rfl, rfl⟩)
    | (at_make; refine wpList_make_full _ rfl _ _ 33 rfl (w.heap.size + 1) 2 i0 (.int .i64 0) 1 Try.underlying33 hi hz0 hz1 _ _ _ _ n rfl rfl N.out.symm N.out.symm (by rw [hz2]; omega) (by unfold maxLen; omega) (by omega) ?_; intro w3 hown hgrow; have M := Lib.hid hown; have G := Lib.hid hgrow; clear hown hgrow))
  have M2 : w3.ownsRow (w.heap.size + 1) 2 1 (.slice (some ⟨w1.heap.size, 0, none⟩) n n) n ((markTo (zeros n) st 0).map (Value.int .i64)) := by
    rw [markTo_zero, zeros_map]; have h := M.out; rw [show (madeCells (Value.int IntKind.i64 0).cells (n * 1)).toList = List.replicate n (Value.int .i64 0) from by rw [Nat.mul_one]; exact toList_madeCells_one _ _] at h; exact h
  have bw : Below w1.heap.size w1 w3 := Below.grown (Below.refl _ _) G.out (Nat.le_refl _) (fun j hj => by cases hj)
  have e1 : w3.cell? ⟨w.heap.size, 1, none⟩ = some (.int .i8 3) := (bw.cell (show w.heap.size < w1.heap.size by omega)).trans c1
  have e2 : w3.cell? ⟨w.heap.size, 2, none⟩ = some (.int .i16 st) := (bw.cell (show w.heap.size < w1.heap.size by omega)).trans c2
  have B3 := Lib.hid (B1.out.trans (bw.mono (by omega)))
  have OM := Lib.hid M2
  have zl := Lib.hid (zeros_len n)
  clear M G bw c1 c2 M2 B1 vn hi hz0 hz1 hz2
  go_loopw [18] (fun i wr => ∃ j : Nat, j ≤ n ∧ i = .int .i64 j ∧ wr.ownsRow (w.heap.size + 1) 2 1 (.slice (some ⟨w1.heap.size, 0, none⟩) n n) n ((markTo (zeros n) st j).map (Value.int .i64)) ∧ Below (w.heap.size + 1) w3 wr) (fun i _ => n - (intOf i).toNat)
  case atStart => exact ⟨0, Nat.zero_le _, rfl, OM.out, Below.refl _ _⟩
  case round =>
    obtain ⟨j, hj, rfl, O2, hB⟩ := hrel
    have O3 := Lib.hid O2
    have BB := Lib.hid hB
    have g1 := (hB.cell (p := ⟨w.heap.size, 1, none⟩) (Nat.lt_succ_self _)).trans e1
    have g2 := (hB.cell (p := ⟨w.heap.size, 2, none⟩) (Nat.lt_succ_self _)).trans e2
    clear e1 e2
    have vst : IntKind.i64.wrap st = st := IntWalk.i64_in _ (by omega)
    have v2 : IntKind.i64.wrap (st + (j : Int)) = st + (j : Int) := IntWalk.i64_in _ (by omega)
    by_cases hjl : j < n
    · have hd : decide ((j : Int) < (n : Int)) = true := by simpa using hjl
      have hl : j < (markTo (zeros n) st j).length := by rw [markTo_len, zeros_len]; exact hjl
      have hdst := O2.cellAt j (by omega)
      rw [List.getElem?_map, List.getElem?_eq_getElem hl] at hdst
      simp only [Option.map_some] at hdst
      generalize (markTo (zeros n) st j)[j] = old at hdst
      have hfz := O2.frozenAt j
      clear O2 hB hl
      go_wp2
      have hs := O3.out.stored j (.int .i64 (st + (j : Int)))
      rw [markTo_next (zeros n) st j (by rw [zeros_len]; exact hjl)] at hs
      exact ⟨⟨j + 1, hjl, by rw [Int.natCast_succ], hs.1, BB.out.setCell (by simp; omega) _⟩, by simp [intOf]; omega⟩
    · have e : j = n := by omega
      subst e
      have hd : decide ((j : Int) < (j : Int)) = false := by simp
      have ma := Lib.hid (markTo_all (zeros j) st)
      have OW : Hid (OwnInts (w.heap.size + 1) (marks st j) (.slice (some ⟨w1.heap.size, 0, none⟩) j j) wr) := Lib.hid (by
        have o := O3.out
        have m := ma.out
        rw [zeros_len] at m
        rw [m] at o
        unfold OwnInts; rw [marks_len]; exact o)
      clear O2 hB ma
      have ml := marks_len st j
      have R := Lib.hid (reverse_any (w.heap.size + 1) (marks st j) _ _ OW.out (by omega) (by omega))
      have dr := Lib.hid (dsc_rev st j)
      clear ml
      go_wp2_with (go_at_call 134; refine R.out.mono ?_; rintro e w4 ⟨rfl, hO, hB⟩; have O4 := Lib.hid hO; have B4 := Lib.hid hB; clear hO hB)
      go_ret
      exact SlcR.mk (by rw [← dr.out]; exact own_weaken O4.out (Nat.le_succ _)) (B3.out.trans ((BB.out.trans B4.out).mono (Nat.le_succ _)))
end Go.Proofs.Ytaiedpblfnaooab
