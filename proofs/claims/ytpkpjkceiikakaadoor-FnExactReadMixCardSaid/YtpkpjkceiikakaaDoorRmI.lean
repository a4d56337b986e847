/- Contract: the program's ReadMix. -/
import Derived.Test.YtpkpjkceiikakaaDoorRmM
import Derived.Test.YtpkpjkceiikakaaDoorSpt
namespace Go.Proofs.YtpkpjkceiikakaaDoor
open Go.ChangeShapes Go.WideShapes Go.ChangeAt Go.RowKit

theorem block_setO {w : World} {b c j : Nat} {o : Obj} (v : Value) (h : w.heap[b]? = some o) (hn : b ≠ c) : (w.setCell ⟨c, j, none⟩ v).heap[b]? = some o := (Below.heap_setCell _ _ _ _ (by simpa using hn)).trans h
theorem split_at (s : ByteArray) (c : UInt8) (hs : s.size ≤ 1048576) (w : World) :
    Calls Tryd.prog 24 #[.string s, .string ⟨#[c]⟩] w fun e w' => e = .returned (.slice (some ⟨w.heap.size, 0, none⟩) (pieces c s).length (pieces c s).length) ∧ w' = w.alloc (.cells ((pieces c s).map Value.string).toArray 9) := by
  have h := genSplit_any s c hs w
  go_enter Tryd.func24, Tryd.ntmps24
  go_wp2_with (go_at_call 46; refine h.mono ?_; rintro e w1 ⟨rfl, hw⟩; have HW := Lib.hid hw; clear hw)
  go_ret
  exact ⟨rfl, HW.out⟩
theorem ab_newR (w : World) (o : Obj) : Ab w (w.alloc o) := below_new (Below.refl _ _) _
theorem four_of {ps : List ByteArray} (h : ps.length = 4) : ∃ a b c d, ps = [a, b, c, d] := by
  match ps, h with
  | [a, b, c, d], _ => exact ⟨a, b, c, d, rfl⟩
theorem i16_of {s : ByteArray} {v : Int} (h : pIn 16 s = some v) : I16 v := by
  have := pIn_bounds h
  unfold I16
  simp at this
  omega
theorem str_ne {x y : ByteArray} (h : x ≠ y) : (x.toList == y.toList) = false := by
  rw [beq_eq_false_iff_ne]
  intro e
  apply h
  apply data_inj
  rw [← Lib.toList_data, ← Lib.toList_data, e]
theorem rmI_not {s : ByteArray} (h : ¬ (pieces 32 s).length = 4) : rmI s = none := by
  unfold rmI
  split
  · rename_i hp; rw [hp] at h; exact absurd rfl h
  · rfl

set_option maxRecDepth 100000 in
set_option maxHeartbeats 3200000 in
theorem iReadMix_any (s : ByteArray) (hs : s.size ≤ 1048576) (w : World) (hP : PE w) :
    Calls Tryd.prog 8 #[.string s] w fun e w' => e = .returned (rmV (rmI s)) ∧ Below w.heap.size w w' := by
  have SP := Lib.hid fun W => split_at s 32 hs W
  have R0 := Lib.hid (block_alloc w (.cells #[.int .i16 0, .int .i16 0, .int .i16 0] 24))
  have B0 := Lib.hid (below_new (Below.refl w.heap.size w) (.cells #[.int .i16 0, .int .i16 0, .int .i16 0] 24))
  have P0 := Lib.hid hP
  clear hP
  by_cases hn : (pieces 32 s).length = 4
  · obtain ⟨a, b, c, d, hp⟩ := four_of hn
    have hfit := pieces_fit 32 s
    have er := rmI_four hp
    rw [hp] at SP hfit
    have fb : b.size ≤ 1048576 := Nat.le_trans (hfit b (by simp)) hs
    have fc : c.size ≤ 1048576 := Nat.le_trans (hfit c (by simp)) hs
    have fd : d.size ≤ 1048576 := Nat.le_trans (hfit d (by simp)) hs
    have dn : ((4 : Int) != 4) = false := by decide
    clear hn hp hfit
    cases hb : pIn 16 b with
    | none =>
      rw [rm3_b hb] at er
      rw [er]
      clear er
      go_enter Tryd.func8, Tryd.ntmps8
      go_wp2_with (go_at_call 24; refine (SP.out _).mono ?_; rintro e w1 ⟨rfl, hw⟩; have N1 := Lib.hid (show w1.heap[w.heap.size + 1]? = some (.cells #[.string a, .string b, .string c, .string d] 9 (0, 0)) from by rw [hw, show w.heap.size + 1 = (w.alloc (.cells #[.int .i16 0, .int .i16 0, .int .i16 0] 24)).heap.size from by simp]; exact block_alloc _ _); have hB := (Below.refl (w.heap.size + 1) (w.alloc (.cells #[.int .i16 0, .int .i16 0, .int .i16 0] 24))).alloc (by simp) (.cells (([a, b, c, d] : List ByteArray).map Value.string).toArray 9); rw [← hw] at hB; have R1 := Lib.hid ((hB.block _ (by simp)).trans R0.out); have B1 := Lib.hid (B0.out.trans (Below.mono hB (by simp))); clear hB hw)
      have A1 := Lib.hid (ab_newR w1 (.cells #[.int .i16 0, .int .i16 0, .int .i16 0] 55))
      have M2 := Lib.hid (block_alloc w1 (.cells #[.int .i16 0, .int .i16 0, .int .i16 0] 55))
      have N2 := Lib.hid (Ab.block A1.out N1.out)
      have R2 := Lib.hid (Ab.block A1.out R1.out)
      have B2 := Lib.hid (B1.out.trans (Below.mono A1.out B1.out.size))
      have m1 := lt_of_block N1.out
      have m2 := lt_of_block R1.out
      generalize w1.alloc (.cells #[.int .i16 0, .int .i16 0, .int .i16 0] 55) = w2 at *
      generalize w1.heap.size = m at *
      clear A1
      refine wp_loop_rounds 4 ?_
      rw [rounds_succ]
      have c0 := cell_of_block N2.out 1
      have l0 := lt_of_block N2.out
      have m3 := lt_of_block M2.out
      have u0 := cell_of_block M2.out 0
      go_wp2_with (go_at_call 25; refine (parse16_bad b fb hb _ (P0.out.kept (Below.refl _ _) B2.out (Nat.le_refl _))).mono ?_; rintro e w9 ⟨n9, t9, q9, rfl, hB⟩; have R9 := Lib.hid (Ab.block hB R2.out); have B9 := Lib.hid (B2.out.trans (Below.mono hB B2.out.size)); have r0 := cell_of_block R9.out 0; have r1 := cell_of_block R9.out 1; have r2 := cell_of_block R9.out 2; have r9 := lt_of_block R9.out; have rf := free_of_block R9.out; clear hB)
      refine bodyPost_ret (by simp [results, Tryd.results8, go_sem,  r0, r1, r2]; try rfl) rfl ?_
      exact ⟨rfl, ((B9.out.setCell (by simp) _).setCell (by simp) _).setCell (by simp) _⟩
    | some x =>
      cases hc : pIn 16 c with
      | none =>
        rw [rm3_c hb hc] at er
        rw [er]
        clear er
        go_enter Tryd.func8, Tryd.ntmps8
        go_wp2_with (go_at_call 24; refine (SP.out _).mono ?_; rintro e w1 ⟨rfl, hw⟩; have N1 := Lib.hid (show w1.heap[w.heap.size + 1]? = some (.cells #[.string a, .string b, .string c, .string d] 9 (0, 0)) from by rw [hw, show w.heap.size + 1 = (w.alloc (.cells #[.int .i16 0, .int .i16 0, .int .i16 0] 24)).heap.size from by simp]; exact block_alloc _ _); have hB := (Below.refl (w.heap.size + 1) (w.alloc (.cells #[.int .i16 0, .int .i16 0, .int .i16 0] 24))).alloc (by simp) (.cells (([a, b, c, d] : List ByteArray).map Value.string).toArray 9); rw [← hw] at hB; have R1 := Lib.hid ((hB.block _ (by simp)).trans R0.out); have B1 := Lib.hid (B0.out.trans (Below.mono hB (by simp))); clear hB hw)
        have A1 := Lib.hid (ab_newR w1 (.cells #[.int .i16 0, .int .i16 0, .int .i16 0] 55))
        have M2 := Lib.hid (block_alloc w1 (.cells #[.int .i16 0, .int .i16 0, .int .i16 0] 55))
        have N2 := Lib.hid (Ab.block A1.out N1.out)
        have R2 := Lib.hid (Ab.block A1.out R1.out)
        have B2 := Lib.hid (B1.out.trans (Below.mono A1.out B1.out.size))
        have m1 := lt_of_block N1.out
        have m2 := lt_of_block R1.out
        generalize w1.alloc (.cells #[.int .i16 0, .int .i16 0, .int .i16 0] 55) = w2 at *
        generalize w1.heap.size = m at *
        clear A1
        refine wp_loop_rounds 4 ?_
        rw [rounds_succ]
        have c0 := cell_of_block N2.out 1
        have l0 := lt_of_block N2.out
        have m3 := lt_of_block M2.out
        have u0 := cell_of_block M2.out 0
        have e0 : IntKind.i16.wrap x = x := i16_in _ (by have := i16_of hb; unfold I16 at this; omega)
        go_wp2_with (go_at_call 25; refine (parse16_ok b fb x hb _).mono ?_; rintro e w3 ⟨rfl, hB⟩; have R3 := Lib.hid (Ab.block hB R2.out); have N3 := Lib.hid (Ab.block hB N2.out); have M3 := Lib.hid (Ab.block hB M2.out); have v0 := cell_of_block M3.out 0; have vf := free_of_block M3.out; have q0 := lt_of_block M3.out; have B3 := Lib.hid (B2.out.trans (Below.mono hB B2.out.size)); clear hB c0 l0 m3 u0)
        have R4 := Lib.hid (block_setO (c := m) (j := 0) (.int .i16 x) R3.out (by omega))
        have N4 := Lib.hid (block_setO (c := m) (j := 0) (.int .i16 x) N3.out (by omega))
        have M4 := Lib.hid (block_setCell (j := 0) (.int .i16 x) M3.out)
        have B4 := Lib.hid (Below.setCell (p := ⟨m, 0, none⟩) B3.out (by simp; omega) (.int .i16 x))
        generalize w3.setCell ⟨m, 0, none⟩ (.int .i16 x) = w4 at *
        clear v0 q0 e0 vf
        rw [rounds_succ]
        have c1 := cell_of_block N4.out 2
        have l1 := lt_of_block N4.out
        have m4 := lt_of_block M4.out
        have u1 := cell_of_block M4.out 1
        go_wp2_with (go_at_call 25; refine (parse16_bad c fc hc _ (P0.out.kept (Below.refl _ _) B4.out (Nat.le_refl _))).mono ?_; rintro e w9 ⟨n9, t9, q9, rfl, hB⟩; have R9 := Lib.hid (Ab.block hB R4.out); have B9 := Lib.hid (B4.out.trans (Below.mono hB B4.out.size)); have r0 := cell_of_block R9.out 0; have r1 := cell_of_block R9.out 1; have r2 := cell_of_block R9.out 2; have r9 := lt_of_block R9.out; have rf := free_of_block R9.out; clear hB)
        refine bodyPost_ret (by simp [results, Tryd.results8, go_sem,  r0, r1, r2]; try rfl) rfl ?_
        exact ⟨rfl, ((B9.out.setCell (by simp) _).setCell (by simp) _).setCell (by simp) _⟩
      | some y =>
        cases hd : pIn 16 d with
        | none =>
          rw [rm3_d hb hc hd] at er
          rw [er]
          clear er
          go_enter Tryd.func8, Tryd.ntmps8
          go_wp2_with (go_at_call 24; refine (SP.out _).mono ?_; rintro e w1 ⟨rfl, hw⟩; have N1 := Lib.hid (show w1.heap[w.heap.size + 1]? = some (.cells #[.string a, .string b, .string c, .string d] 9 (0, 0)) from by rw [hw, show w.heap.size + 1 = (w.alloc (.cells #[.int .i16 0, .int .i16 0, .int .i16 0] 24)).heap.size from by simp]; exact block_alloc _ _); have hB := (Below.refl (w.heap.size + 1) (w.alloc (.cells #[.int .i16 0, .int .i16 0, .int .i16 0] 24))).alloc (by simp) (.cells (([a, b, c, d] : List ByteArray).map Value.string).toArray 9); rw [← hw] at hB; have R1 := Lib.hid ((hB.block _ (by simp)).trans R0.out); have B1 := Lib.hid (B0.out.trans (Below.mono hB (by simp))); clear hB hw)
          have A1 := Lib.hid (ab_newR w1 (.cells #[.int .i16 0, .int .i16 0, .int .i16 0] 55))
          have M2 := Lib.hid (block_alloc w1 (.cells #[.int .i16 0, .int .i16 0, .int .i16 0] 55))
          have N2 := Lib.hid (Ab.block A1.out N1.out)
          have R2 := Lib.hid (Ab.block A1.out R1.out)
          have B2 := Lib.hid (B1.out.trans (Below.mono A1.out B1.out.size))
          have m1 := lt_of_block N1.out
          have m2 := lt_of_block R1.out
          generalize w1.alloc (.cells #[.int .i16 0, .int .i16 0, .int .i16 0] 55) = w2 at *
          generalize w1.heap.size = m at *
          clear A1
          refine wp_loop_rounds 4 ?_
          rw [rounds_succ]
          have c0 := cell_of_block N2.out 1
          have l0 := lt_of_block N2.out
          have m3 := lt_of_block M2.out
          have u0 := cell_of_block M2.out 0
          have e0 : IntKind.i16.wrap x = x := i16_in _ (by have := i16_of hb; unfold I16 at this; omega)
          go_wp2_with (go_at_call 25; refine (parse16_ok b fb x hb _).mono ?_; rintro e w3 ⟨rfl, hB⟩; have R3 := Lib.hid (Ab.block hB R2.out); have N3 := Lib.hid (Ab.block hB N2.out); have M3 := Lib.hid (Ab.block hB M2.out); have v0 := cell_of_block M3.out 0; have vf := free_of_block M3.out; have q0 := lt_of_block M3.out; have B3 := Lib.hid (B2.out.trans (Below.mono hB B2.out.size)); clear hB c0 l0 m3 u0)
          have R4 := Lib.hid (block_setO (c := m) (j := 0) (.int .i16 x) R3.out (by omega))
          have N4 := Lib.hid (block_setO (c := m) (j := 0) (.int .i16 x) N3.out (by omega))
          have M4 := Lib.hid (block_setCell (j := 0) (.int .i16 x) M3.out)
          have B4 := Lib.hid (Below.setCell (p := ⟨m, 0, none⟩) B3.out (by simp; omega) (.int .i16 x))
          generalize w3.setCell ⟨m, 0, none⟩ (.int .i16 x) = w4 at *
          clear v0 q0 e0 vf
          rw [rounds_succ]
          have c1 := cell_of_block N4.out 2
          have l1 := lt_of_block N4.out
          have m4 := lt_of_block M4.out
          have u1 := cell_of_block M4.out 1
          have e1 : IntKind.i16.wrap y = y := i16_in _ (by have := i16_of hc; unfold I16 at this; omega)
          go_wp2_with (go_at_call 25; refine (parse16_ok c fc y hc _).mono ?_; rintro e w5 ⟨rfl, hB⟩; have R5 := Lib.hid (Ab.block hB R4.out); have N5 := Lib.hid (Ab.block hB N4.out); have M5 := Lib.hid (Ab.block hB M4.out); have v1 := cell_of_block M5.out 1; have vf := free_of_block M5.out; have q1 := lt_of_block M5.out; have B5 := Lib.hid (B4.out.trans (Below.mono hB B4.out.size)); clear hB c1 l1 m4 u1)
          have R6 := Lib.hid (block_setO (c := m) (j := 1) (.int .i16 y) R5.out (by omega))
          have N6 := Lib.hid (block_setO (c := m) (j := 1) (.int .i16 y) N5.out (by omega))
          have M6 := Lib.hid (block_setCell (j := 1) (.int .i16 y) M5.out)
          have B6 := Lib.hid (Below.setCell (p := ⟨m, 1, none⟩) B5.out (by simp; omega) (.int .i16 y))
          generalize w5.setCell ⟨m, 1, none⟩ (.int .i16 y) = w6 at *
          clear v1 q1 e1 vf
          rw [rounds_succ]
          have c2 := cell_of_block N6.out 3
          have l2 := lt_of_block N6.out
          have m5 := lt_of_block M6.out
          have u2 := cell_of_block M6.out 2
          go_wp2_with (go_at_call 25; refine (parse16_bad d fd hd _ (P0.out.kept (Below.refl _ _) B6.out (Nat.le_refl _))).mono ?_; rintro e w9 ⟨n9, t9, q9, rfl, hB⟩; have R9 := Lib.hid (Ab.block hB R6.out); have B9 := Lib.hid (B6.out.trans (Below.mono hB B6.out.size)); have r0 := cell_of_block R9.out 0; have r1 := cell_of_block R9.out 1; have r2 := cell_of_block R9.out 2; have r9 := lt_of_block R9.out; have rf := free_of_block R9.out; clear hB)
          refine bodyPost_ret (by simp [results, Tryd.results8, go_sem,  r0, r1, r2]; try rfl) rfl ?_
          exact ⟨rfl, ((B9.out.setCell (by simp) _).setCell (by simp) _).setCell (by simp) _⟩
        | some z =>
          rw [rm3_all hb hc hd] at er
          have MT := Lib.hid fun W => iMixText_any x y z (i16_of hb) (i16_of hc) W
          generalize hX : mxT x y z = X at *
          by_cases hX2 : X = s
          · subst hX2
            rw [if_pos rfl] at er
            rw [er]
            clear er
            have n1 : (X.toList != X.toList) = false := by simp
            go_enter Tryd.func8, Tryd.ntmps8
            go_wp2_with (go_at_call 24; refine (SP.out _).mono ?_; rintro e w1 ⟨rfl, hw⟩; have N1 := Lib.hid (show w1.heap[w.heap.size + 1]? = some (.cells #[.string a, .string b, .string c, .string d] 9 (0, 0)) from by rw [hw, show w.heap.size + 1 = (w.alloc (.cells #[.int .i16 0, .int .i16 0, .int .i16 0] 24)).heap.size from by simp]; exact block_alloc _ _); have hB := (Below.refl (w.heap.size + 1) (w.alloc (.cells #[.int .i16 0, .int .i16 0, .int .i16 0] 24))).alloc (by simp) (.cells (([a, b, c, d] : List ByteArray).map Value.string).toArray 9); rw [← hw] at hB; have R1 := Lib.hid ((hB.block _ (by simp)).trans R0.out); have B1 := Lib.hid (B0.out.trans (Below.mono hB (by simp))); clear hB hw)
            have A1 := Lib.hid (ab_newR w1 (.cells #[.int .i16 0, .int .i16 0, .int .i16 0] 55))
            have M2 := Lib.hid (block_alloc w1 (.cells #[.int .i16 0, .int .i16 0, .int .i16 0] 55))
            have N2 := Lib.hid (Ab.block A1.out N1.out)
            have R2 := Lib.hid (Ab.block A1.out R1.out)
            have B2 := Lib.hid (B1.out.trans (Below.mono A1.out B1.out.size))
            have m1 := lt_of_block N1.out
            have m2 := lt_of_block R1.out
            generalize w1.alloc (.cells #[.int .i16 0, .int .i16 0, .int .i16 0] 55) = w2 at *
            generalize w1.heap.size = m at *
            clear A1
            refine wp_loop_rounds 4 ?_
            rw [rounds_succ]
            have c0 := cell_of_block N2.out 1
            have l0 := lt_of_block N2.out
            have m3 := lt_of_block M2.out
            have u0 := cell_of_block M2.out 0
            have e0 : IntKind.i16.wrap x = x := i16_in _ (by have := i16_of hb; unfold I16 at this; omega)
            go_wp2_with (go_at_call 25; refine (parse16_ok b fb x hb _).mono ?_; rintro e w3 ⟨rfl, hB⟩; have R3 := Lib.hid (Ab.block hB R2.out); have N3 := Lib.hid (Ab.block hB N2.out); have M3 := Lib.hid (Ab.block hB M2.out); have v0 := cell_of_block M3.out 0; have vf := free_of_block M3.out; have q0 := lt_of_block M3.out; have B3 := Lib.hid (B2.out.trans (Below.mono hB B2.out.size)); clear hB c0 l0 m3 u0)
            have R4 := Lib.hid (block_setO (c := m) (j := 0) (.int .i16 x) R3.out (by omega))
            have N4 := Lib.hid (block_setO (c := m) (j := 0) (.int .i16 x) N3.out (by omega))
            have M4 := Lib.hid (block_setCell (j := 0) (.int .i16 x) M3.out)
            have B4 := Lib.hid (Below.setCell (p := ⟨m, 0, none⟩) B3.out (by simp; omega) (.int .i16 x))
            generalize w3.setCell ⟨m, 0, none⟩ (.int .i16 x) = w4 at *
            clear v0 q0 e0 vf
            rw [rounds_succ]
            have c1 := cell_of_block N4.out 2
            have l1 := lt_of_block N4.out
            have m4 := lt_of_block M4.out
            have u1 := cell_of_block M4.out 1
            have e1 : IntKind.i16.wrap y = y := i16_in _ (by have := i16_of hc; unfold I16 at this; omega)
            go_wp2_with (go_at_call 25; refine (parse16_ok c fc y hc _).mono ?_; rintro e w5 ⟨rfl, hB⟩; have R5 := Lib.hid (Ab.block hB R4.out); have N5 := Lib.hid (Ab.block hB N4.out); have M5 := Lib.hid (Ab.block hB M4.out); have v1 := cell_of_block M5.out 1; have vf := free_of_block M5.out; have q1 := lt_of_block M5.out; have B5 := Lib.hid (B4.out.trans (Below.mono hB B4.out.size)); clear hB c1 l1 m4 u1)
            have R6 := Lib.hid (block_setO (c := m) (j := 1) (.int .i16 y) R5.out (by omega))
            have N6 := Lib.hid (block_setO (c := m) (j := 1) (.int .i16 y) N5.out (by omega))
            have M6 := Lib.hid (block_setCell (j := 1) (.int .i16 y) M5.out)
            have B6 := Lib.hid (Below.setCell (p := ⟨m, 1, none⟩) B5.out (by simp; omega) (.int .i16 y))
            generalize w5.setCell ⟨m, 1, none⟩ (.int .i16 y) = w6 at *
            clear v1 q1 e1 vf
            rw [rounds_succ]
            have c2 := cell_of_block N6.out 3
            have l2 := lt_of_block N6.out
            have m5 := lt_of_block M6.out
            have u2 := cell_of_block M6.out 2
            have e2 : IntKind.i16.wrap z = z := i16_in _ (by have := i16_of hd; unfold I16 at this; omega)
            go_wp2_with (go_at_call 25; refine (parse16_ok d fd z hd _).mono ?_; rintro e w7 ⟨rfl, hB⟩; have R7 := Lib.hid (Ab.block hB R6.out); have N7 := Lib.hid (Ab.block hB N6.out); have M7 := Lib.hid (Ab.block hB M6.out); have v2 := cell_of_block M7.out 2; have vf := free_of_block M7.out; have q2 := lt_of_block M7.out; have B7 := Lib.hid (B6.out.trans (Below.mono hB B6.out.size)); clear hB c2 l2 m5 u2)
            have R8 := Lib.hid (block_setO (c := m) (j := 2) (.int .i16 z) R7.out (by omega))
            have N8 := Lib.hid (block_setO (c := m) (j := 2) (.int .i16 z) N7.out (by omega))
            have M8 := Lib.hid (block_setCell (j := 2) (.int .i16 z) M7.out)
            have B8 := Lib.hid (Below.setCell (p := ⟨m, 2, none⟩) B7.out (by simp; omega) (.int .i16 z))
            generalize w7.setCell ⟨m, 2, none⟩ (.int .i16 z) = w8 at *
            clear v2 q2 e2 vf
            rw [rounds_succ]
            have c0 := cell_of_block M8.out 0
            have c1 := cell_of_block M8.out 1
            have c2 := cell_of_block M8.out 2
            have l0 := lt_of_block M8.out
            simp at c0 c1 c2
            have X1 := Lib.hid (ab_newR w8 (.cells #[.int .i16 x, .int .i16 y, .int .i16 z] 24))
            have X2 := Lib.hid (block_alloc w8 (.cells #[.int .i16 x, .int .i16 y, .int .i16 z] 24))
            have X3 := Lib.hid (Ab.block X1.out R8.out)
            have X4 := Lib.hid (B8.out.trans (Below.mono X1.out B8.out.size))
            go_wp2_with (go_at_call 26; refine (MT.out _).mono ?_; rintro e w20 ⟨rfl, hB⟩; have R9 := Lib.hid (Ab.block hB X3.out); have Y9 := Lib.hid (Ab.block hB X2.out); have B9 := Lib.hid (X4.out.trans (Below.mono hB X4.out.size)); have r0 := cell_of_block R9.out 0; have r1 := cell_of_block R9.out 1; have r2 := cell_of_block R9.out 2; have r9 := lt_of_block R9.out; have rf := free_of_block R9.out; have y0 := cell_of_block Y9.out 0; have y1 := cell_of_block Y9.out 1; have y2 := cell_of_block Y9.out 2; have y9 := lt_of_block Y9.out; clear hB)
            refine bodyPost_ret (by simp [results, Tryd.results8, go_sem,  r0, r1, r2]; try rfl) rfl ?_
            exact ⟨rfl, ((B9.out.setCell (by simp) _).setCell (by simp) _).setCell (by simp) _⟩
          · rw [if_neg hX2] at er
            rw [er]
            clear er
            have n1 := str_ne hX2
            go_enter Tryd.func8, Tryd.ntmps8
            go_wp2_with (go_at_call 24; refine (SP.out _).mono ?_; rintro e w1 ⟨rfl, hw⟩; have N1 := Lib.hid (show w1.heap[w.heap.size + 1]? = some (.cells #[.string a, .string b, .string c, .string d] 9 (0, 0)) from by rw [hw, show w.heap.size + 1 = (w.alloc (.cells #[.int .i16 0, .int .i16 0, .int .i16 0] 24)).heap.size from by simp]; exact block_alloc _ _); have hB := (Below.refl (w.heap.size + 1) (w.alloc (.cells #[.int .i16 0, .int .i16 0, .int .i16 0] 24))).alloc (by simp) (.cells (([a, b, c, d] : List ByteArray).map Value.string).toArray 9); rw [← hw] at hB; have R1 := Lib.hid ((hB.block _ (by simp)).trans R0.out); have B1 := Lib.hid (B0.out.trans (Below.mono hB (by simp))); clear hB hw)
            have A1 := Lib.hid (ab_newR w1 (.cells #[.int .i16 0, .int .i16 0, .int .i16 0] 55))
            have M2 := Lib.hid (block_alloc w1 (.cells #[.int .i16 0, .int .i16 0, .int .i16 0] 55))
            have N2 := Lib.hid (Ab.block A1.out N1.out)
            have R2 := Lib.hid (Ab.block A1.out R1.out)
            have B2 := Lib.hid (B1.out.trans (Below.mono A1.out B1.out.size))
            have m1 := lt_of_block N1.out
            have m2 := lt_of_block R1.out
            generalize w1.alloc (.cells #[.int .i16 0, .int .i16 0, .int .i16 0] 55) = w2 at *
            generalize w1.heap.size = m at *
            clear A1
            refine wp_loop_rounds 4 ?_
            rw [rounds_succ]
            have c0 := cell_of_block N2.out 1
            have l0 := lt_of_block N2.out
            have m3 := lt_of_block M2.out
            have u0 := cell_of_block M2.out 0
            have e0 : IntKind.i16.wrap x = x := i16_in _ (by have := i16_of hb; unfold I16 at this; omega)
            go_wp2_with (go_at_call 25; refine (parse16_ok b fb x hb _).mono ?_; rintro e w3 ⟨rfl, hB⟩; have R3 := Lib.hid (Ab.block hB R2.out); have N3 := Lib.hid (Ab.block hB N2.out); have M3 := Lib.hid (Ab.block hB M2.out); have v0 := cell_of_block M3.out 0; have vf := free_of_block M3.out; have q0 := lt_of_block M3.out; have B3 := Lib.hid (B2.out.trans (Below.mono hB B2.out.size)); clear hB c0 l0 m3 u0)
            have R4 := Lib.hid (block_setO (c := m) (j := 0) (.int .i16 x) R3.out (by omega))
            have N4 := Lib.hid (block_setO (c := m) (j := 0) (.int .i16 x) N3.out (by omega))
            have M4 := Lib.hid (block_setCell (j := 0) (.int .i16 x) M3.out)
            have B4 := Lib.hid (Below.setCell (p := ⟨m, 0, none⟩) B3.out (by simp; omega) (.int .i16 x))
            generalize w3.setCell ⟨m, 0, none⟩ (.int .i16 x) = w4 at *
            clear v0 q0 e0 vf
            rw [rounds_succ]
            have c1 := cell_of_block N4.out 2
            have l1 := lt_of_block N4.out
            have m4 := lt_of_block M4.out
            have u1 := cell_of_block M4.out 1
            have e1 : IntKind.i16.wrap y = y := i16_in _ (by have := i16_of hc; unfold I16 at this; omega)
            go_wp2_with (go_at_call 25; refine (parse16_ok c fc y hc _).mono ?_; rintro e w5 ⟨rfl, hB⟩; have R5 := Lib.hid (Ab.block hB R4.out); have N5 := Lib.hid (Ab.block hB N4.out); have M5 := Lib.hid (Ab.block hB M4.out); have v1 := cell_of_block M5.out 1; have vf := free_of_block M5.out; have q1 := lt_of_block M5.out; have B5 := Lib.hid (B4.out.trans (Below.mono hB B4.out.size)); clear hB c1 l1 m4 u1)
            have R6 := Lib.hid (block_setO (c := m) (j := 1) (.int .i16 y) R5.out (by omega))
            have N6 := Lib.hid (block_setO (c := m) (j := 1) (.int .i16 y) N5.out (by omega))
            have M6 := Lib.hid (block_setCell (j := 1) (.int .i16 y) M5.out)
            have B6 := Lib.hid (Below.setCell (p := ⟨m, 1, none⟩) B5.out (by simp; omega) (.int .i16 y))
            generalize w5.setCell ⟨m, 1, none⟩ (.int .i16 y) = w6 at *
            clear v1 q1 e1 vf
            rw [rounds_succ]
            have c2 := cell_of_block N6.out 3
            have l2 := lt_of_block N6.out
            have m5 := lt_of_block M6.out
            have u2 := cell_of_block M6.out 2
            have e2 : IntKind.i16.wrap z = z := i16_in _ (by have := i16_of hd; unfold I16 at this; omega)
            go_wp2_with (go_at_call 25; refine (parse16_ok d fd z hd _).mono ?_; rintro e w7 ⟨rfl, hB⟩; have R7 := Lib.hid (Ab.block hB R6.out); have N7 := Lib.hid (Ab.block hB N6.out); have M7 := Lib.hid (Ab.block hB M6.out); have v2 := cell_of_block M7.out 2; have vf := free_of_block M7.out; have q2 := lt_of_block M7.out; have B7 := Lib.hid (B6.out.trans (Below.mono hB B6.out.size)); clear hB c2 l2 m5 u2)
            have R8 := Lib.hid (block_setO (c := m) (j := 2) (.int .i16 z) R7.out (by omega))
            have N8 := Lib.hid (block_setO (c := m) (j := 2) (.int .i16 z) N7.out (by omega))
            have M8 := Lib.hid (block_setCell (j := 2) (.int .i16 z) M7.out)
            have B8 := Lib.hid (Below.setCell (p := ⟨m, 2, none⟩) B7.out (by simp; omega) (.int .i16 z))
            generalize w7.setCell ⟨m, 2, none⟩ (.int .i16 z) = w8 at *
            clear v2 q2 e2 vf
            rw [rounds_succ]
            have c0 := cell_of_block M8.out 0
            have c1 := cell_of_block M8.out 1
            have c2 := cell_of_block M8.out 2
            have l0 := lt_of_block M8.out
            simp at c0 c1 c2
            have X1 := Lib.hid (ab_newR w8 (.cells #[.int .i16 x, .int .i16 y, .int .i16 z] 24))
            have X2 := Lib.hid (block_alloc w8 (.cells #[.int .i16 x, .int .i16 y, .int .i16 z] 24))
            have X3 := Lib.hid (Ab.block X1.out R8.out)
            have X4 := Lib.hid (B8.out.trans (Below.mono X1.out B8.out.size))
            go_wp2_with (go_at_call 26; refine (MT.out _).mono ?_; rintro e w20 ⟨rfl, hB⟩; have R9 := Lib.hid (Ab.block hB X3.out); have Y9 := Lib.hid (Ab.block hB X2.out); have B9 := Lib.hid (X4.out.trans (Below.mono hB X4.out.size)); have r0 := cell_of_block R9.out 0; have r1 := cell_of_block R9.out 1; have r2 := cell_of_block R9.out 2; have r9 := lt_of_block R9.out; have rf := free_of_block R9.out; have y0 := cell_of_block Y9.out 0; have y1 := cell_of_block Y9.out 1; have y2 := cell_of_block Y9.out 2; have y9 := lt_of_block Y9.out; clear hB)
            refine bodyPost_ret (by simp [results, Tryd.results8, go_sem,  r0, r1, r2]; try rfl) rfl ?_
            exact ⟨rfl, ((B9.out.setCell (by simp) _).setCell (by simp) _).setCell (by simp) _⟩
  · rw [rmI_not hn]
    have dn : (((pieces 32 s).length : Int) != 4) = true := by rw [bne_iff_ne]; omega
    have hB := fun W (o : Obj) (n : Nat) (h : Below n w W) (hn : n ≤ W.heap.size) => Below.alloc h hn o
    go_enter Tryd.func8, Tryd.ntmps8
    go_wp2_with (go_at_call 24; refine (SP.out _).mono ?_; rintro e w1 ⟨rfl, hw⟩; have hA := (Below.refl (w.heap.size + 1) (w.alloc (.cells #[.int .i16 0, .int .i16 0, .int .i16 0] 24))).alloc (by simp) (.cells ((pieces 32 s).map Value.string).toArray 9); rw [← hw] at hA; have R9 := Lib.hid ((hA.block _ (by simp)).trans R0.out); have B9 := Lib.hid (B0.out.trans (Below.mono hA (by simp))); have r0 := cell_of_block R9.out 0; have r1 := cell_of_block R9.out 1; have r2 := cell_of_block R9.out 2; have r9 := lt_of_block R9.out; have rf := free_of_block R9.out; clear hA hw)
    refine bodyPost_ret (by simp [results, Tryd.results8, go_sem,  r0, r1, r2]; try rfl) rfl ?_
    exact ⟨rfl, ((B9.out.setCell (by simp) _).setCell (by simp) _).setCell (by simp) _⟩
end Go.Proofs.YtpkpjkceiikakaaDoor

