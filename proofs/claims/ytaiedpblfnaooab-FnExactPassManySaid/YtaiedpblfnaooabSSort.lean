/- Contracts: the holes whose passes sort by a field, the model's. -/
import Derived.Test.YtaiedpblfnaooabSort
namespace Go.Proofs.Ytaiedpblfnaooab
open Go.ChangeShapes Go.WideShapes Go.ChangeAt Go.RowKit

/-- How many holes a sort takes, and which, in which order. -/
def srtN (k sz : Int) : Nat := if k = 3 then sz.toNat else (widthZ k sz).toNat
def srt (k st sz : Int) : List Int := if k = 0 then marks st (srtN k sz) else dsc st (srtN k sz) (srtN k sz)
theorem srt_0 (st sz : Int) : srt 0 st sz = marks st sz.toNat := by unfold srt srtN widthZ; simp
theorem srt_1 (st sz : Int) : srt 1 st sz = dsc st (4 * sz).toNat (4 * sz).toNat := by unfold srt srtN widthZ; simp
theorem srt_2 (st sz : Int) : srt 2 st sz = dsc st (5 * sz).toNat (5 * sz).toNat := by unfold srt srtN widthZ; simp
theorem srt_3 (st sz : Int) : srt 3 st sz = dsc st sz.toNat sz.toNat := by unfold srt srtN; simp
/-- A slice handed back alone. -/
def SlcR (zs : List Int) (w : World) (e : Ending) (w' : World) : Prop := ∃ v, e = .returned v ∧ OwnInts w.heap.size zs v w' ∧ Below w.heap.size w w'
theorem SlcR.mk {zs : List Int} {w w' : World} {v : Value} (ho : OwnInts w.heap.size zs v w') (hb : Below w.heap.size w w') : SlcR zs w (.returned v) w' := ⟨v, rfl, ho, hb⟩

set_option maxHeartbeats 1600000 in
theorem sSort_0 (st sz : Int) (n : Nat) (hn : (n : Int) = sz) (t0 : 0 ≤ st) (t1 : st ≤ 95) (z0 : 1 ≤ sz) (zb : sz ≤ 24) (nb : n ≤ 24) (g o : Nat) (w : World) (h1 : w.cell? ⟨g, o + 1, none⟩ = some (.int .i8 0)) (h2 : w.cell? ⟨g, o + 2, none⟩ = some (.int .i16 st)) (h3 : w.cell? ⟨g, o + 3, none⟩ = some (.int .i16 sz)) :
    Calls Try.prog 79 #[.pointer (some ⟨g, o, none⟩)] w (SlcR (marks st n) w) := by
  obtain ⟨i0, hi, hz0, hz1, hz2⟩ := info_parts info_i64
  have hg := World.block_lt_of_cell? _ _ h1
  have N := Lib.hid hn
  have H1 := Lib.hid h1
  have H2 := Lib.hid h2
  have vn : IntKind.i64.wrap (sz - 1) = sz - 1 := IntWalk.i64_in _ (by omega)
  have m0 : 0 ≤ sz := by omega
  have m1 : sz ≤ 24 := by omega
  clear hn
  go_enter Try.func79, Try.ntmps79
  go_wp2_with (go_at_call 119; refine (sWidth_0 sz (by omega) (by omega) g o _ (by simpa [World.cell?_alloc_past, hg] using H1.out) (by simpa [World.cell?_alloc_past, hg] using h3)).mono ?_; rintro e w2 ⟨rfl, rfl⟩)
  clear h1 h2 h3 vn
  go_loopw [3, 5] (fun v i wr => ∃ j : Nat, j ≤ n ∧ i = .int .i64 j ∧ OwnInts w.heap.size (marks st j) v wr ∧ Below w.heap.size w wr) (fun _ i _ => n - (intOf i).toNat)
  case atStart => exact ⟨0, Nat.zero_le _, rfl, own_none rfl (Nat.le_refl _), (by repeat' (first | (with_reducible exact Below.refl _ _) | (with_reducible assumption) | (with_reducible refine below_drewN ?_ _) | (with_reducible refine Below.drew ?_) | (with_reducible refine below_new ?_ _) | (with_reducible refine below_next ?_ (by with_reducible assumption)) | (with_reducible refine Below.setCell ?_ ?_ _) | go_size))⟩
  case round =>
    obtain ⟨j, hj, rfl, O, hB⟩ := hrel
    have OO := Lib.hid O
    have BB := Lib.hid hB
    have g1 := (hB.cell (p := ⟨g, o + 1, none⟩) hg).trans H1.out
    have g2 := (hB.cell (p := ⟨g, o + 2, none⟩) hg).trans H2.out
    have gs := hB.size
    clear O hB
    have ll : (marks st j).length = j := marks_len _ _
    have vst : IntKind.i64.wrap st = st := IntWalk.i64_in _ (by omega)
    have vj : IntKind.i64.wrap ((j : Int) + 1) = (j : Int) + 1 := IntWalk.i64_in _ (by omega)
    have v2 : IntKind.i64.wrap (st + (j : Int)) = st + (j : Int) := IntWalk.i64_in _ (by omega)
    by_cases hjl : j < n
    · have hd : decide ((j : Int) < sz) = true := by have := N.out; simp; omega
      go_wp2_with (at_builtin; refine wpList_append_own _ rfl _ _ 33 rfl w.heap.size 2 i0 (.int .i64 0) 1 8 Try.underlying33 hi hz0 hz1 hz2 rfl (by decide) _ _ _ rfl (OO.out.alloc _) ⟨wr.heap.size, 0, none⟩ 1 1 [.int .i64 (st + (j : Int))] rfl rfl (one_new _ _ _) (fun x hx => by simp at hx; subst hx; rfl) (by unfold maxLen; omega) (by omega) (by simp; omega) ?_; intro v' w3 hown hgrow _; have P := Lib.hid (own_push hown); have G := Lib.hid hgrow; clear hown hgrow)
      have hb2 : Below w.heap.size (wr.alloc (.cells #[.int .i64 (st + (j : Int))] 2)) w3 := Below.grown (Below.refl _ _) G.out (by simp; omega) (own_lt OO.out)
      exact ⟨⟨j + 1, hjl, by rw [Int.natCast_succ], by rw [marks_succ st j]; have p := P.out; exact p, (BB.out.alloc (by omega) _).trans hb2⟩, by simp [intOf]; omega⟩
    · have e : j = n := by omega
      subst e
      have hd : decide ((j : Int) < sz) = false := by have := N.out; simp; omega
      go_wp2_with fail
      go_ret
      exact SlcR.mk OO.out BB.out

set_option maxHeartbeats 1600000 in
theorem sSort_1 (st sz : Int) (n : Nat) (hn : (n : Int) = 4 * sz) (t0 : 0 ≤ st) (t1 : st ≤ 95) (z0 : 1 ≤ sz) (zb : sz ≤ 24) (nb : n ≤ 24) (g o : Nat) (w : World) (h1 : w.cell? ⟨g, o + 1, none⟩ = some (.int .i8 1)) (h2 : w.cell? ⟨g, o + 2, none⟩ = some (.int .i16 st)) (h3 : w.cell? ⟨g, o + 3, none⟩ = some (.int .i16 sz)) :
    Calls Try.prog 79 #[.pointer (some ⟨g, o, none⟩)] w (SlcR (dsc st n n) w) := by
  obtain ⟨i0, hi, hz0, hz1, hz2⟩ := info_parts info_i64
  have hg := World.block_lt_of_cell? _ _ h1
  have N := Lib.hid hn
  have H1 := Lib.hid h1
  have H2 := Lib.hid h2
  have vn : IntKind.i64.wrap (4 * sz - 1) = 4 * sz - 1 := IntWalk.i64_in _ (by omega)
  have m0 : 0 ≤ 4 * sz := by omega
  have m1 : 4 * sz ≤ 24 := by omega
  clear hn
  go_enter Try.func79, Try.ntmps79
  go_wp2_with (go_at_call 119; refine (sWidth_1 sz (by omega) (by omega) g o _ (by simpa [World.cell?_alloc_past, hg] using H1.out) (by simpa [World.cell?_alloc_past, hg] using h3)).mono ?_; rintro e w2 ⟨rfl, rfl⟩)
  clear h1 h2 h3 vn
  go_loopw [3, 5] (fun v i wr => ∃ j : Nat, j ≤ n ∧ i = .int .i64 j ∧ OwnInts w.heap.size (dsc st n j) v wr ∧ Below w.heap.size w wr) (fun _ i _ => n - (intOf i).toNat)
  case atStart => exact ⟨0, Nat.zero_le _, rfl, own_none rfl (Nat.le_refl _), (by repeat' (first | (with_reducible exact Below.refl _ _) | (with_reducible assumption) | (with_reducible refine below_drewN ?_ _) | (with_reducible refine Below.drew ?_) | (with_reducible refine below_new ?_ _) | (with_reducible refine below_next ?_ (by with_reducible assumption)) | (with_reducible refine Below.setCell ?_ ?_ _) | go_size))⟩
  case round =>
    obtain ⟨j, hj, rfl, O, hB⟩ := hrel
    have OO := Lib.hid O
    have BB := Lib.hid hB
    have g1 := (hB.cell (p := ⟨g, o + 1, none⟩) hg).trans H1.out
    have g2 := (hB.cell (p := ⟨g, o + 2, none⟩) hg).trans H2.out
    have gs := hB.size
    clear O hB
    have ll : (dsc st n j).length = j := dsc_len _ _ _
    have vst : IntKind.i64.wrap st = st := IntWalk.i64_in _ (by omega)
    have vj : IntKind.i64.wrap ((j : Int) + 1) = (j : Int) + 1 := IntWalk.i64_in _ (by omega)
    have v2 : IntKind.i64.wrap (st + 4 * sz) = st + 4 * sz := IntWalk.i64_in _ (by omega)
    have v3 : IntKind.i64.wrap (st + 4 * sz - 1) = st + 4 * sz - 1 := IntWalk.i64_in _ (by omega)
    have v4 : IntKind.i64.wrap (st + 4 * sz - 1 - (j : Int)) = st + 4 * sz - 1 - (j : Int) := IntWalk.i64_in _ (by omega)
    by_cases hjl : j < n
    · have hd : decide ((j : Int) < 4 * sz) = true := by have := N.out; simp; omega
      go_wp2_with (at_builtin; refine wpList_append_own _ rfl _ _ 33 rfl w.heap.size 2 i0 (.int .i64 0) 1 8 Try.underlying33 hi hz0 hz1 hz2 rfl (by decide) _ _ _ rfl (OO.out.alloc _) ⟨wr.heap.size, 0, none⟩ 1 1 [.int .i64 (st + 4 * sz - 1 - (j : Int))] rfl rfl (one_new _ _ _) (fun x hx => by simp at hx; subst hx; rfl) (by unfold maxLen; omega) (by omega) (by simp; omega) ?_; intro v' w3 hown hgrow _; have P := Lib.hid (own_push hown); have G := Lib.hid hgrow; clear hown hgrow)
      have hb2 : Below w.heap.size (wr.alloc (.cells #[.int .i64 (st + 4 * sz - 1 - (j : Int))] 2)) w3 := Below.grown (Below.refl _ _) G.out (by simp; omega) (own_lt OO.out)
      exact ⟨⟨j + 1, hjl, by rw [Int.natCast_succ], by rw [dsc_succ st n j]; have p := P.out; rw [N.out]; exact p, (BB.out.alloc (by omega) _).trans hb2⟩, by simp [intOf]; omega⟩
    · have e : j = n := by omega
      subst e
      have hd : decide ((j : Int) < 4 * sz) = false := by have := N.out; simp; omega
      go_wp2_with fail
      go_ret
      exact SlcR.mk OO.out BB.out

set_option maxHeartbeats 1600000 in
theorem sSort_2 (st sz : Int) (n : Nat) (hn : (n : Int) = 5 * sz) (t0 : 0 ≤ st) (t1 : st ≤ 95) (z0 : 1 ≤ sz) (zb : sz ≤ 24) (nb : n ≤ 24) (g o : Nat) (w : World) (h1 : w.cell? ⟨g, o + 1, none⟩ = some (.int .i8 2)) (h2 : w.cell? ⟨g, o + 2, none⟩ = some (.int .i16 st)) (h3 : w.cell? ⟨g, o + 3, none⟩ = some (.int .i16 sz)) :
    Calls Try.prog 79 #[.pointer (some ⟨g, o, none⟩)] w (SlcR (dsc st n n) w) := by
  obtain ⟨i0, hi, hz0, hz1, hz2⟩ := info_parts info_i64
  have hg := World.block_lt_of_cell? _ _ h1
  have N := Lib.hid hn
  have H1 := Lib.hid h1
  have H2 := Lib.hid h2
  have vn : IntKind.i64.wrap (5 * sz - 1) = 5 * sz - 1 := IntWalk.i64_in _ (by omega)
  have m0 : 0 ≤ 5 * sz := by omega
  have m1 : 5 * sz ≤ 24 := by omega
  clear hn
  go_enter Try.func79, Try.ntmps79
  go_wp2_with (go_at_call 119; refine (sWidth_2 sz (by omega) (by omega) g o _ (by simpa [World.cell?_alloc_past, hg] using H1.out) (by simpa [World.cell?_alloc_past, hg] using h3)).mono ?_; rintro e w2 ⟨rfl, rfl⟩)
  clear h1 h2 h3 vn
  go_loopw [3, 5] (fun v i wr => ∃ j : Nat, j ≤ n ∧ i = .int .i64 j ∧ OwnInts w.heap.size (dsc st n j) v wr ∧ Below w.heap.size w wr) (fun _ i _ => n - (intOf i).toNat)
  case atStart => exact ⟨0, Nat.zero_le _, rfl, own_none rfl (Nat.le_refl _), (by repeat' (first | (with_reducible exact Below.refl _ _) | (with_reducible assumption) | (with_reducible refine below_drewN ?_ _) | (with_reducible refine Below.drew ?_) | (with_reducible refine below_new ?_ _) | (with_reducible refine below_next ?_ (by with_reducible assumption)) | (with_reducible refine Below.setCell ?_ ?_ _) | go_size))⟩
  case round =>
    obtain ⟨j, hj, rfl, O, hB⟩ := hrel
    have OO := Lib.hid O
    have BB := Lib.hid hB
    have g1 := (hB.cell (p := ⟨g, o + 1, none⟩) hg).trans H1.out
    have g2 := (hB.cell (p := ⟨g, o + 2, none⟩) hg).trans H2.out
    have gs := hB.size
    clear O hB
    have ll : (dsc st n j).length = j := dsc_len _ _ _
    have vst : IntKind.i64.wrap st = st := IntWalk.i64_in _ (by omega)
    have vj : IntKind.i64.wrap ((j : Int) + 1) = (j : Int) + 1 := IntWalk.i64_in _ (by omega)
    have v2 : IntKind.i64.wrap (st + 5 * sz) = st + 5 * sz := IntWalk.i64_in _ (by omega)
    have v3 : IntKind.i64.wrap (st + 5 * sz - 1) = st + 5 * sz - 1 := IntWalk.i64_in _ (by omega)
    have v4 : IntKind.i64.wrap (st + 5 * sz - 1 - (j : Int)) = st + 5 * sz - 1 - (j : Int) := IntWalk.i64_in _ (by omega)
    by_cases hjl : j < n
    · have hd : decide ((j : Int) < 5 * sz) = true := by have := N.out; simp; omega
      go_wp2_with (at_builtin; refine wpList_append_own _ rfl _ _ 33 rfl w.heap.size 2 i0 (.int .i64 0) 1 8 Try.underlying33 hi hz0 hz1 hz2 rfl (by decide) _ _ _ rfl (OO.out.alloc _) ⟨wr.heap.size, 0, none⟩ 1 1 [.int .i64 (st + 5 * sz - 1 - (j : Int))] rfl rfl (one_new _ _ _) (fun x hx => by simp at hx; subst hx; rfl) (by unfold maxLen; omega) (by omega) (by simp; omega) ?_; intro v' w3 hown hgrow _; have P := Lib.hid (own_push hown); have G := Lib.hid hgrow; clear hown hgrow)
      have hb2 : Below w.heap.size (wr.alloc (.cells #[.int .i64 (st + 5 * sz - 1 - (j : Int))] 2)) w3 := Below.grown (Below.refl _ _) G.out (by simp; omega) (own_lt OO.out)
      exact ⟨⟨j + 1, hjl, by rw [Int.natCast_succ], by rw [dsc_succ st n j]; have p := P.out; rw [N.out]; exact p, (BB.out.alloc (by omega) _).trans hb2⟩, by simp [intOf]; omega⟩
    · have e : j = n := by omega
      subst e
      have hd : decide ((j : Int) < 5 * sz) = false := by have := N.out; simp; omega
      go_wp2_with fail
      go_ret
      exact SlcR.mk OO.out BB.out

set_option maxHeartbeats 1600000 in
theorem sSort_3 (st sz : Int) (n : Nat) (hn : (n : Int) = sz) (t0 : 0 ≤ st) (t1 : st ≤ 95) (z0 : 1 ≤ sz) (zb : sz ≤ 24) (nb : n ≤ 24) (g o : Nat) (w : World) (h1 : w.cell? ⟨g, o + 1, none⟩ = some (.int .i8 3)) (h2 : w.cell? ⟨g, o + 2, none⟩ = some (.int .i16 st)) (h3 : w.cell? ⟨g, o + 3, none⟩ = some (.int .i16 sz)) :
    Calls Try.prog 79 #[.pointer (some ⟨g, o, none⟩)] w (SlcR (dsc st n n) w) := by
  obtain ⟨i0, hi, hz0, hz1, hz2⟩ := info_parts info_i64
  have hg := World.block_lt_of_cell? _ _ h1
  have N := Lib.hid hn
  have H1 := Lib.hid h1
  have H2 := Lib.hid h2
  have vn : IntKind.i64.wrap (sz + 1 - 1) = sz + 1 - 1 := IntWalk.i64_in _ (by omega)
  have m0 : 0 ≤ sz := by omega
  have m1 : sz ≤ 24 := by omega
  clear hn
  go_enter Try.func79, Try.ntmps79
  go_wp2_with (go_at_call 119; refine (sWidth_3 sz (by omega) (by omega) g o _ (by simpa [World.cell?_alloc_past, hg] using H1.out) (by simpa [World.cell?_alloc_past, hg] using h3)).mono ?_; rintro e w2 ⟨rfl, rfl⟩)
  clear h1 h2 h3 vn
  go_loopw [3, 5] (fun v i wr => ∃ j : Nat, j ≤ n ∧ i = .int .i64 j ∧ OwnInts w.heap.size (dsc st n j) v wr ∧ Below w.heap.size w wr) (fun _ i _ => n - (intOf i).toNat)
  case atStart => exact ⟨0, Nat.zero_le _, rfl, own_none rfl (Nat.le_refl _), (by repeat' (first | (with_reducible exact Below.refl _ _) | (with_reducible assumption) | (with_reducible refine below_drewN ?_ _) | (with_reducible refine Below.drew ?_) | (with_reducible refine below_new ?_ _) | (with_reducible refine below_next ?_ (by with_reducible assumption)) | (with_reducible refine Below.setCell ?_ ?_ _) | go_size))⟩
  case round =>
    obtain ⟨j, hj, rfl, O, hB⟩ := hrel
    have OO := Lib.hid O
    have BB := Lib.hid hB
    have g1 := (hB.cell (p := ⟨g, o + 1, none⟩) hg).trans H1.out
    have g2 := (hB.cell (p := ⟨g, o + 2, none⟩) hg).trans H2.out
    have gs := hB.size
    clear O hB
    have ll : (dsc st n j).length = j := dsc_len _ _ _
    have vst : IntKind.i64.wrap st = st := IntWalk.i64_in _ (by omega)
    have vj : IntKind.i64.wrap ((j : Int) + 1) = (j : Int) + 1 := IntWalk.i64_in _ (by omega)
    have v2 : IntKind.i64.wrap (st + sz) = st + sz := IntWalk.i64_in _ (by omega)
    have v3 : IntKind.i64.wrap (st + sz - 1) = st + sz - 1 := IntWalk.i64_in _ (by omega)
    have v4 : IntKind.i64.wrap (st + sz - 1 - (j : Int)) = st + sz - 1 - (j : Int) := IntWalk.i64_in _ (by omega)
    by_cases hjl : j < n
    · have hd : decide ((j : Int) < sz) = true := by have := N.out; simp; omega
      go_wp2_with (at_builtin; refine wpList_append_own _ rfl _ _ 33 rfl w.heap.size 2 i0 (.int .i64 0) 1 8 Try.underlying33 hi hz0 hz1 hz2 rfl (by decide) _ _ _ rfl (OO.out.alloc _) ⟨wr.heap.size, 0, none⟩ 1 1 [.int .i64 (st + sz - 1 - (j : Int))] rfl rfl (one_new _ _ _) (fun x hx => by simp at hx; subst hx; rfl) (by unfold maxLen; omega) (by omega) (by simp; omega) ?_; intro v' w3 hown hgrow _; have P := Lib.hid (own_push hown); have G := Lib.hid hgrow; clear hown hgrow)
      have hb2 : Below w.heap.size (wr.alloc (.cells #[.int .i64 (st + sz - 1 - (j : Int))] 2)) w3 := Below.grown (Below.refl _ _) G.out (by simp; omega) (own_lt OO.out)
      exact ⟨⟨j + 1, hjl, by rw [Int.natCast_succ], by rw [dsc_succ st n j]; have p := P.out; rw [N.out]; exact p, (BB.out.alloc (by omega) _).trans hb2⟩, by simp [intOf]; omega⟩
    · have e : j = n := by omega
      subst e
      have hd : decide ((j : Int) < sz) = false := by have := N.out; simp; omega
      go_wp2_with fail
      go_ret
      exact SlcR.mk OO.out BB.out
end Go.Proofs.Ytaiedpblfnaooab
