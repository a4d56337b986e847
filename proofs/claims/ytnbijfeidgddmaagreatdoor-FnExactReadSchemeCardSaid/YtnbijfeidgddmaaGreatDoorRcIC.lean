/- Contract: the program's ReadCard. -/
import Derived.Test.YtnbijfeidgddmaaGreatDoorRsZ1
import Derived.Test.YtnbijfeidgddmaaGreatDoorRsZ2
namespace Go.Proofs.YtnbijfeidgddmaaGreatDoor
open Go.ChangeShapes Go.WideShapes Go.ChangeAt Go.RowKit

theorem splitC_at (s : ByteArray) (c : UInt8) (hs : s.size ≤ 1048576) (w : World) :
    Calls Tryz.prog 37 #[.string s, .string ⟨#[c]⟩] w fun e w' => e = .returned (.slice (some ⟨w.heap.size, 0, none⟩) (pieces c s).length (pieces c s).length) ∧ w' = w.alloc (.cells ((pieces c s).map Value.string).toArray 9) := by
  have h := genSplit_any s c hs w
  go_enter Tryz.func37, Tryz.ntmps37
  go_wp2_with (go_at_call 68; refine h.mono ?_; rintro e w1 ⟨rfl, hw⟩; have HW := Lib.hid hw; clear hw)
  go_ret
  exact ⟨rfl, HW.out⟩
theorem ab_newC (w : World) (o : Obj) : Ab w (w.alloc o) := below_new (Below.refl _ _) _
theorem str_neC {x y : ByteArray} (h : x ≠ y) : (x.toList == y.toList) = false := by
  rw [beq_eq_false_iff_ne]
  intro e
  apply h
  apply data_inj
  rw [← Lib.toList_data, ← Lib.toList_data, e]
theorem iHoleC {n : Int} {x : Bool} (h : decide (0 ≤ n ∧ n ≤ 95) = x) (w : World) : Calls Tryz.prog 82 #[.int .i64 n] w fun e w' => e = .returned (.bool x) ∧ w = w' := by
  subst h
  by_cases h0 : 0 ≤ n
  · have d0 : decide (0 ≤ n) = true := decide_eq_true h0
    by_cases h1 : n ≤ 95
    · have d1 : decide (n < 96) = true := decide_eq_true (by omega)
      rw [decide_eq_true ⟨h0, h1⟩]
      go_enter Tryz.func82, Tryz.ntmps82
      go_wp2
      go_returns
      exact ⟨rfl, rfl⟩
    · have d1 : decide (n < 96) = false := decide_eq_false (by omega)
      rw [decide_eq_false (fun q => h1 q.2)]
      go_enter Tryz.func82, Tryz.ntmps82
      go_wp2
      go_returns
      exact ⟨rfl, rfl⟩
  · have d0 : decide (0 ≤ n) = false := decide_eq_false h0
    rw [decide_eq_false (fun q => h0 q.1)]
    go_enter Tryz.func82, Tryz.ntmps82
    go_wp2
    go_returns
    exact ⟨rfl, rfl⟩
def rcV : Option (ByteArray × Int × Int) → Value
  | some (nm, a, b) => .tuple #[.agg #[.string nm, .int .u64 a, .int .u64 b], .int .i64 0]
  | none => .tuple #[.agg #[.string ⟨#[]⟩, .int .u64 0, .int .u64 0], .int .i64 5]
theorem iJoinC (a b c d : Int) (w : World) :
    Calls Tryz.prog 44 #[.agg #[.int .u64 a, .int .u64 b], .agg #[.int .u64 c, .int .u64 d]] w fun e w' => e = .returned (.agg #[.int .u64 (bits .or .u64 a c), .int .u64 (bits .or .u64 b d)]) ∧ Below w.heap.size w w' :=
  (iJoin_any a b c d w).mono fun e w' ⟨he, hw⟩ => ⟨he, by rw [← hw]; exact (by repeat' (first | (with_reducible exact Below.refl _ _) | (with_reducible assumption) | (with_reducible refine below_drewN ?_ _) | (with_reducible refine Below.drew ?_) | (with_reducible refine below_new ?_ _) | (with_reducible refine below_next ?_ (by with_reducible assumption)) | (with_reducible refine Below.setCell ?_ ?_ _) | go_size))⟩
theorem two_of (c : UInt8) (s : ByteArray) : ∃ nm ws, pieces c s = nm :: ws := by
  cases h : pieces c s with
  | nil => exact absurd h (pieces_ne c s)
  | cons nm ws => exact ⟨nm, ws, rfl⟩
theorem cell_str (nm : ByteArray) (ws : List ByteArray) (i : Nat) (hi : i < ws.length) : (((nm :: ws).map Value.string).toArray)[1 + i]? = some (.string (ws.getD i ByteArray.empty)) := by
  rw [Nat.add_comm]
  simp [List.getD, hi]
theorem ret_rc {o : Option (ByteArray × Int × Int)} {v : Value} (h : rcV o = v) : Ending.returned v = .returned (rcV o) := by rw [h]

set_option maxRecDepth 100000 in
set_option maxHeartbeats 6400000 in
theorem iReadCard_any (s : ByteArray) (hs : s.size ≤ 1048576) (w : World) (hP : PE w) :
    Calls Tryz.prog 51 #[.string s] w fun e w' => e = .returned (rcV (rcG fI s)) ∧ Below w.heap.size w w' := by
  have SP := Lib.hid fun W => splitC_at s 32 hs W
  have R0 := Lib.hid (block_alloc w (.cells #[.string ⟨#[]⟩, .int .u64 0, .int .u64 0] 80))
  have B0 := Lib.hid (below_new (Below.refl w.heap.size w) (.cells #[.string ⟨#[]⟩, .int .u64 0, .int .u64 0] 80))
  have P0 := Lib.hid hP
  clear hP
  obtain ⟨nm, ws, hp⟩ := two_of 32 s
  have hfit := pieces_fit 32 s
  have PP := Lib.hid hp
  rw [hp] at SP hfit
  rw [List.length_cons] at SP
  have fn : nm.size ≤ 1048576 := Nat.le_trans (hfit nm (by simp)) hs
  have FW := Lib.hid (fun i (hi : i < ws.length) => Nat.le_trans (hfit (ws.getD i ByteArray.empty) (by simp [List.getD, hi])) hs)
  have hlen : ws.length ≤ 1048576 := by
    have h := pieces_len 32 s
    rw [hp, List.length_cons] at h
    omega
  clear hp hfit
  by_cases hne : ws = []
  · subst hne
    go_enter Tryz.func51, Tryz.ntmps51
    go_wp2_with (go_at_call 37; refine (SP.out _).mono ?_; rintro e w1 ⟨rfl, hw⟩; have N1 := Lib.hid (show w1.heap[w.heap.size + 1]? = some (.cells (([nm] : List ByteArray).map Value.string).toArray 9 (0, 0)) from by rw [hw, show w.heap.size + 1 = (w.alloc (.cells #[.string ⟨#[]⟩, .int .u64 0, .int .u64 0] 80)).heap.size from by simp]; exact block_alloc _ _); have hB := (Below.refl (w.heap.size + 1) (w.alloc (.cells #[.string ⟨#[]⟩, .int .u64 0, .int .u64 0] 80))).alloc (by simp) (.cells (([nm] : List ByteArray).map Value.string).toArray 9); rw [← hw] at hB; have R1 := Lib.hid ((hB.block _ (by simp)).trans R0.out); have B1 := Lib.hid (B0.out.trans (Below.mono hB (by simp))); have c0 : w1.cell? ⟨w.heap.size + 1, 0, none⟩ = some (.string nm) := (cell_of_block N1.out 0).trans (by simp); have l0 := lt_of_block N1.out; clear hB hw)
    have M1 := Lib.hid (show (w1.alloc (.cells #[.string nm, .int .u64 0, .int .u64 0] 80)).heap[w1.heap.size]? = some (.cells #[.string nm, .int .u64 (mo b0 [] 0), .int .u64 (mo b1 [] 0)] 80 (0, 0)) from block_alloc w1 _)
    have A1 := Lib.hid (ab_newC w1 (.cells #[.string nm, .int .u64 0, .int .u64 0] 80))
    generalize w1.alloc (.cells #[.string nm, .int .u64 0, .int .u64 0] 80) = wr at *
    have MM := M1
    have R2 := Lib.hid (Ab.block A1.out R1.out)
    have B2 := Lib.hid (B1.out.trans (Below.mono A1.out B1.out.size))
    have ZZ := Lib.hid (show rdH fI ([] : List ByteArray) ([] : List ByteArray).length = some [] from rfl)
    clear c0 l0 M1 A1
    refine wp_loop_rounds 1 ?_
    rw [rounds_succ]
    have er := rcG_at PP.out ZZ.out
    have ux := mo_u64 b0 [] 0
    have uy := mo_u64 b1 [] 0
    simp only [List.length_nil] at er
    generalize mo b0 [] 0 = X at *
    generalize mo b1 [] 0 = Y at *
    have V := fun W => iValidCard_any nm X Y (by unfold maxLen; omega) W
    have C := Lib.hid fun W => iCardText_any nm X Y (by unfold maxLen; omega) ux uy W
    have c0 := cell_of_block MM.out 0
    have c1 := cell_of_block MM.out 1
    have c2 := cell_of_block MM.out 2
    have s0 := lt_of_block MM.out
    clear ux uy
    cases hk : cardOk nm Y
    · rw [hk] at V
      replace V := Lib.hid V
      rw [if_neg (by rw [hk]; simp)] at er
      have EQ := Lib.hid er
      clear er hk
      go_wp2_with (first
        | (go_at_call 84; refine (V.out _).mono ?_; rintro e w9 ⟨rfl, hB⟩; have R9 := Lib.hid (Ab.block hB R2.out); have B9 := Lib.hid (B2.out.trans (Below.mono hB B2.out.size)); have r0 := cell_of_block R9.out 0; have r1 := cell_of_block R9.out 1; have r2 := cell_of_block R9.out 2; have r9 := lt_of_block R9.out; have rf := free_of_block R9.out; clear hB c0 c1 c2 s0))
      refine bodyPost_ret (by simp [results, Tryz.results51, go_sem,  r0, r1, r2]; try rfl) rfl ?_
      exact ⟨ret_rc (by rw [EQ.out]; rfl), ((B9.out.setCell (by simp) _).setCell (by simp) _).setCell (by simp) _⟩
    · rw [hk] at V
      replace V := Lib.hid V
      generalize hX : cdT nm X Y = T at *
      by_cases hT : T = s
      · subst hT
        rw [if_pos ⟨hk, rfl⟩] at er
        have n1 : (T.toList != T.toList) = false := by simp
        have EQ := Lib.hid er
        clear er hk
        go_wp2_with (first
          | (go_at_call 84; refine (V.out _).mono ?_; rintro e w8 ⟨rfl, hB⟩; have R8 := Lib.hid (Ab.block hB R2.out); have M8 := Lib.hid (Ab.block hB MM.out); have B8 := Lib.hid (B2.out.trans (Below.mono hB B2.out.size)); have c0 := cell_of_block M8.out 0; have c1 := cell_of_block M8.out 1; have c2 := cell_of_block M8.out 2; have s0 := lt_of_block M8.out; clear hB)
          | (go_at_call 59; refine (C.out _).mono ?_; rintro e w9 ⟨rfl, hB⟩; have R9 := Lib.hid (Ab.block hB R8.out); have M9 := Lib.hid (Ab.block hB M8.out); have B9 := Lib.hid (B8.out.trans (Below.mono hB B8.out.size)); have r0 := cell_of_block R9.out 0; have r1 := cell_of_block R9.out 1; have r2 := cell_of_block R9.out 2; have r9 := lt_of_block R9.out; have rf := free_of_block R9.out; have y0 := cell_of_block M9.out 0; have y1 := cell_of_block M9.out 1; have y2 := cell_of_block M9.out 2; have y9 := lt_of_block M9.out; clear hB))
        refine bodyPost_ret (by simp [results, Tryz.results51, go_sem,  r0, r1, r2]; try rfl) rfl ?_
        exact ⟨ret_rc (by rw [EQ.out]; rfl), ((B9.out.setCell (by simp) _).setCell (by simp) _).setCell (by simp) _⟩
      · rw [if_neg (fun q => hT q.2)] at er
        have n1 := str_neC hT
        have EQ := Lib.hid er
        clear er hk
        go_wp2_with (first
          | (go_at_call 84; refine (V.out _).mono ?_; rintro e w8 ⟨rfl, hB⟩; have R8 := Lib.hid (Ab.block hB R2.out); have M8 := Lib.hid (Ab.block hB MM.out); have B8 := Lib.hid (B2.out.trans (Below.mono hB B2.out.size)); have c0 := cell_of_block M8.out 0; have c1 := cell_of_block M8.out 1; have c2 := cell_of_block M8.out 2; have s0 := lt_of_block M8.out; clear hB)
          | (go_at_call 59; refine (C.out _).mono ?_; rintro e w9 ⟨rfl, hB⟩; have R9 := Lib.hid (Ab.block hB R8.out); have B9 := Lib.hid (B8.out.trans (Below.mono hB B8.out.size)); have r0 := cell_of_block R9.out 0; have r1 := cell_of_block R9.out 1; have r2 := cell_of_block R9.out 2; have r9 := lt_of_block R9.out; have rf := free_of_block R9.out; clear hB))
        refine bodyPost_ret (by simp [results, Tryz.results51, go_sem,  r0, r1, r2]; try rfl) rfl ?_
        exact ⟨ret_rc (by rw [EQ.out]; rfl), ((B9.out.setCell (by simp) _).setCell (by simp) _).setCell (by simp) _⟩
  · go_enter Tryz.func51, Tryz.ntmps51
    go_wp2_with (go_at_call 37; refine (SP.out _).mono ?_; rintro e w1 ⟨rfl, hw⟩; have N1 := Lib.hid (show w1.heap[w.heap.size + 1]? = some (.cells ((nm :: ws).map Value.string).toArray 9 (0, 0)) from by rw [hw, show w.heap.size + 1 = (w.alloc (.cells #[.string ⟨#[]⟩, .int .u64 0, .int .u64 0] 80)).heap.size from by simp]; exact block_alloc _ _); have hB := (Below.refl (w.heap.size + 1) (w.alloc (.cells #[.string ⟨#[]⟩, .int .u64 0, .int .u64 0] 80))).alloc (by simp) (.cells ((nm :: ws).map Value.string).toArray 9); rw [← hw] at hB; have R1 := Lib.hid ((hB.block _ (by simp)).trans R0.out); have B1 := Lib.hid (B0.out.trans (Below.mono hB (by simp))); have c0 : w1.cell? ⟨w.heap.size + 1, 0, none⟩ = some (.string nm) := (cell_of_block N1.out 0).trans (by simp); have l0 := lt_of_block N1.out; clear hB hw)
    have M1 := Lib.hid (block_alloc w1 (.cells #[.string nm, .int .u64 0, .int .u64 0] 80))
    have A1 := Lib.hid (ab_newC w1 (.cells #[.string nm, .int .u64 0, .int .u64 0] 80))
    have hR := lt_of_block R1.out
    clear c0
    go_loopw [19] (fun i wr => ∃ (j : Nat) (zs : List Int), j ≤ ws.length ∧ rdH fI ws j = some zs ∧ i = .int .i64 (j : Int) ∧ wr.heap[w1.heap.size]? = some (.cells #[.string nm, .int .u64 (mo b0 zs j), .int .u64 (mo b1 zs j)] 80 (0, 0)) ∧ Below w1.heap.size w1 wr) (fun i _ => ws.length - (intOf i).toNat)
    case atStart => exact ⟨0, [], Nat.zero_le _, rfl, rfl, M1.out, A1.out⟩
    case round =>
      obtain ⟨j, zs, hj, hz, rfl, hM, hA⟩ := hrel
      have hzl := rdH_len _ _ hz
      have MM := Lib.hid hM
      have AA := Lib.hid hA
      have ZZ := Lib.hid hz
      have R2 := Lib.hid (hA.block _ hR |>.trans R1.out)
      have B2 := Lib.hid (B1.out.trans (Below.mono hA B1.out.size))
      clear hz hM hA M1 A1
      by_cases hjl : j < ws.length
      · have dl : decide ((j : Int) < (ws.length : Int)) = true := by simpa using hjl
        have c1 : wr.cell? ⟨w.heap.size + 1, 1 + j, none⟩ = some (.string (ws.getD j ByteArray.empty)) := ((AA.out.cell (p := ⟨w.heap.size + 1, 1 + j, none⟩) l0).trans (cell_of_block N1.out (1 + j))).trans (cell_str nm ws j hjl)
        have l1 := Nat.lt_of_lt_of_le l0 AA.out.size
        have fw := FW.out j hjl
        have i1 : (0 : Int) ≤ (j : Int) := by omega
        have i2 : (j : Int) < (ws.length : Int) := by omega
        generalize hwj : ws.getD j ByteArray.empty = wd at *
        cases hv : pIn 64 wd with
        | none =>
          have EQ := Lib.hid (rcG_bad PP.out (n := j + 1) hjl (rdH_bad ZZ.out (by rw [hwj]; exact fI_none hv)))
          go_wp2_with (go_at_call 39; refine (parse64_bad wd fw hv _ (P0.out.kept (Below.refl _ _) B2.out (Nat.le_refl _))).mono ?_; rintro e w9 ⟨n9, t9, q9, rfl, hB⟩; have R9 := Lib.hid (Ab.block hB R2.out); have B9 := Lib.hid (B2.out.trans (Below.mono hB B2.out.size)); have r0 := cell_of_block R9.out 0; have r1 := cell_of_block R9.out 1; have r2 := cell_of_block R9.out 2; have r9 := lt_of_block R9.out; have rf := free_of_block R9.out; clear hB)
          refine bodyPost_ret (by simp [results, Tryz.results51, go_sem,  r0, r1, r2]; try rfl) rfl ?_
          exact ⟨ret_rc (by rw [EQ.out]; rfl), ((B9.out.setCell (by simp) _).setCell (by simp) _).setCell (by simp) _⟩
        | some h =>
          by_cases hh : 0 ≤ h ∧ h ≤ 95
          · have f := Lib.hid (rdH_next ZZ.out (h := h) (by rw [hwj]; exact fI_in hv hh))
            have H := Lib.hid (iHoleC (decide_eq_true hh))
            have p0 := Lib.hid (mo_push b0 zs h)
            have p1 := Lib.hid (mo_push b1 zs h)
            rw [hzl] at p0 p1
            have O := Lib.hid fun W => iOne_any h hh.1 hh.2 W
            generalize mo b0 zs j = X at *
            generalize mo b1 zs j = Y at *
            generalize b0 h = U at *
            generalize b1 h = V at *
            have J := Lib.hid fun W => iJoinC X Y U V W
            clear hh hzl
            go_wp2_with (first
              | (go_at_call 39; refine (parse64_ok wd fw h hv _).mono ?_; rintro e w3 ⟨rfl, hB⟩; have A3 := Lib.hid (AA.out.trans (Below.mono hB AA.out.size)); have M3 := Lib.hid (Ab.block hB MM.out); clear hB c1 l1)
              | (go_at_call 82; refine (H.out _).mono ?_; rintro e w4 ⟨rfl, rfl⟩))
            refine wp_region_last 6 (by kernel_rfl) rfl rfl (by kernel_rfl) (by kernel_rfl) rfl ?_
            simp only [List.take_succ_cons, List.take_zero]
            intro u1 h1
            have c0 := cell_of_block (h1.block M3.out) 0
            have c1 := cell_of_block (h1.block M3.out) 1
            have c2 := cell_of_block (h1.block M3.out) 2
            have s0 := lt_of_block (h1.block M3.out)
            have hbw := cell_bw
            repeat (go_big_quiet_step (first | (go_at_call 83; exact calls_bw (O.out _)) | (go_at_call 44; exact calls_bw (J.out _))))
            refine wpQuiet_nil ?_
            intro u3 h3
            have f0 := cell_of_block (h3.block M3.out) 0
            have f1 := cell_of_block (h3.block M3.out) 1
            have f2 := cell_of_block (h3.block M3.out) 2
            have ff := free_of_block (h3.block M3.out)
            have A4 := Lib.hid (A3.out.trans (Below.mono h3 A3.out.size))
            have M4 := Lib.hid (h3.block M3.out)
            go_simp
            simp only [Yld]
            go_wp2
            go_roundw
            case rel => exact ⟨j + 1, _, hjl, f.out, by go_num, by rw [p0.out, p1.out]; exact block_setCell _ (block_setCell _ M4.out), (A4.out.setCell (by simp) _).setCell (by simp) _⟩
            case measure => simp [intOf]; omega
          · have EQ := Lib.hid (rcG_bad PP.out (n := j + 1) hjl (rdH_bad ZZ.out (by rw [hwj]; exact fI_out hv hh)))
            have H := Lib.hid (iHoleC (decide_eq_false hh))
            clear hh
            go_wp2_with (first
              | (go_at_call 39; refine (parse64_ok wd fw h hv _).mono ?_; rintro e w9 ⟨rfl, hB⟩; have R9 := Lib.hid (Ab.block hB R2.out); have B9 := Lib.hid (B2.out.trans (Below.mono hB B2.out.size)); have r0 := cell_of_block R9.out 0; have r1 := cell_of_block R9.out 1; have r2 := cell_of_block R9.out 2; have r9 := lt_of_block R9.out; have rf := free_of_block R9.out; clear hB)
              | (go_at_call 82; refine (H.out _).mono ?_; rintro e w4 ⟨rfl, rfl⟩))
            refine bodyPost_ret (by simp [results, Tryz.results51, go_sem,  r0, r1, r2]; try rfl) rfl ?_
            exact ⟨ret_rc (by rw [EQ.out]; rfl), ((B9.out.setCell (by simp) _).setCell (by simp) _).setCell (by simp) _⟩
      · obtain rfl : j = ws.length := by omega
        have dl : decide ((ws.length : Int) < (ws.length : Int)) = false := by simp
        have er := rcG_at PP.out ZZ.out
        have ux := mo_u64 b0 zs zs.length
        have uy := mo_u64 b1 zs zs.length
        rw [hzl] at er ux uy
        generalize mo b0 zs ws.length = X at *
        generalize mo b1 zs ws.length = Y at *
        have V := fun W => iValidCard_any nm X Y (by unfold maxLen; omega) W
        have C := Lib.hid fun W => iCardText_any nm X Y (by unfold maxLen; omega) ux uy W
        have c0 := cell_of_block MM.out 0
        have c1 := cell_of_block MM.out 1
        have c2 := cell_of_block MM.out 2
        have s0 := lt_of_block MM.out
        clear ux uy hzl
        cases hk : cardOk nm Y
        · rw [hk] at V
          replace V := Lib.hid V
          rw [if_neg (by rw [hk]; simp)] at er
          have EQ := Lib.hid er
          clear er hk
          go_wp2_with (first
            | (go_at_call 84; refine (V.out _).mono ?_; rintro e w9 ⟨rfl, hB⟩; have R9 := Lib.hid (Ab.block hB R2.out); have B9 := Lib.hid (B2.out.trans (Below.mono hB B2.out.size)); have r0 := cell_of_block R9.out 0; have r1 := cell_of_block R9.out 1; have r2 := cell_of_block R9.out 2; have r9 := lt_of_block R9.out; have rf := free_of_block R9.out; clear hB c0 c1 c2 s0))
          refine bodyPost_ret (by simp [results, Tryz.results51, go_sem,  r0, r1, r2]; try rfl) rfl ?_
          exact ⟨ret_rc (by rw [EQ.out]; rfl), ((B9.out.setCell (by simp) _).setCell (by simp) _).setCell (by simp) _⟩
        · rw [hk] at V
          replace V := Lib.hid V
          generalize hX : cdT nm X Y = T at *
          by_cases hT : T = s
          · subst hT
            rw [if_pos ⟨hk, rfl⟩] at er
            have n1 : (T.toList != T.toList) = false := by simp
            have EQ := Lib.hid er
            clear er hk
            go_wp2_with (first
              | (go_at_call 84; refine (V.out _).mono ?_; rintro e w8 ⟨rfl, hB⟩; have R8 := Lib.hid (Ab.block hB R2.out); have M8 := Lib.hid (Ab.block hB MM.out); have B8 := Lib.hid (B2.out.trans (Below.mono hB B2.out.size)); have c0 := cell_of_block M8.out 0; have c1 := cell_of_block M8.out 1; have c2 := cell_of_block M8.out 2; have s0 := lt_of_block M8.out; clear hB)
              | (go_at_call 59; refine (C.out _).mono ?_; rintro e w9 ⟨rfl, hB⟩; have R9 := Lib.hid (Ab.block hB R8.out); have M9 := Lib.hid (Ab.block hB M8.out); have B9 := Lib.hid (B8.out.trans (Below.mono hB B8.out.size)); have r0 := cell_of_block R9.out 0; have r1 := cell_of_block R9.out 1; have r2 := cell_of_block R9.out 2; have r9 := lt_of_block R9.out; have rf := free_of_block R9.out; have y0 := cell_of_block M9.out 0; have y1 := cell_of_block M9.out 1; have y2 := cell_of_block M9.out 2; have y9 := lt_of_block M9.out; clear hB))
            refine bodyPost_ret (by simp [results, Tryz.results51, go_sem,  r0, r1, r2]; try rfl) rfl ?_
            exact ⟨ret_rc (by rw [EQ.out]; rfl), ((B9.out.setCell (by simp) _).setCell (by simp) _).setCell (by simp) _⟩
          · rw [if_neg (fun q => hT q.2)] at er
            have n1 := str_neC hT
            have EQ := Lib.hid er
            clear er hk
            go_wp2_with (first
              | (go_at_call 84; refine (V.out _).mono ?_; rintro e w8 ⟨rfl, hB⟩; have R8 := Lib.hid (Ab.block hB R2.out); have M8 := Lib.hid (Ab.block hB MM.out); have B8 := Lib.hid (B2.out.trans (Below.mono hB B2.out.size)); have c0 := cell_of_block M8.out 0; have c1 := cell_of_block M8.out 1; have c2 := cell_of_block M8.out 2; have s0 := lt_of_block M8.out; clear hB)
              | (go_at_call 59; refine (C.out _).mono ?_; rintro e w9 ⟨rfl, hB⟩; have R9 := Lib.hid (Ab.block hB R8.out); have B9 := Lib.hid (B8.out.trans (Below.mono hB B8.out.size)); have r0 := cell_of_block R9.out 0; have r1 := cell_of_block R9.out 1; have r2 := cell_of_block R9.out 2; have r9 := lt_of_block R9.out; have rf := free_of_block R9.out; clear hB))
            refine bodyPost_ret (by simp [results, Tryz.results51, go_sem,  r0, r1, r2]; try rfl) rfl ?_
            exact ⟨ret_rc (by rw [EQ.out]; rfl), ((B9.out.setCell (by simp) _).setCell (by simp) _).setCell (by simp) _⟩
end Go.Proofs.YtnbijfeidgddmaaGreatDoor
