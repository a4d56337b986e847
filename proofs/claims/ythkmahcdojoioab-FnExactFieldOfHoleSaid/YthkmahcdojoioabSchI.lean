/- Is a scheme valid: the program's contract. -/
import Derived.Test.YthkmahcdojoioabSch
import Derived.Test.YthkmahcdojoioabVFi
namespace Go.Proofs.Ythkmahcdojoioab
open Go.ChangeShapes Go.WideShapes Go.ChangeAt Go.RowKit

theorem NamesIn.of_block {P : Program} {k e : TypeId} {w w' : World} {b : Nat} {ns : List ByteArray} (h : NamesIn P k e w b ns) (hb : w'.heap[b]? = w.heap[b]?) : NamesIn P k e w' b ns := by
  obtain ⟨D, hown, hm, hat⟩ := h
  refine ⟨D, ?_, hm, hat⟩
  obtain ⟨es, clock, hc, F, hs, hD⟩ := hown
  exact ⟨es, clock, hb.trans hc, F, hs, hD⟩

theorem iMeet_b2 (a b c d : Int) (w : World) : Calls Try.prog 97 #[.agg #[.int .u64 a, .int .u64 b], .agg #[.int .u64 c, .int .u64 d]] w fun e w' => e = .returned (.agg #[.int .u64 (bits .and .u64 a c), .int .u64 (bits .and .u64 b d)]) ∧ Below w.heap.size w w' :=
  (iMeet_any a b c d w).mono fun e w' ⟨he, hw⟩ => ⟨he, by subst hw; exact (by repeat' (first | (with_reducible exact Below.refl _ _) | (with_reducible assumption) | (with_reducible refine below_drewN ?_ _) | (with_reducible refine Below.drew ?_) | (with_reducible refine below_new ?_ _) | (with_reducible refine below_next ?_ (by with_reducible assumption)) | (with_reducible refine Below.setCell ?_ ?_ _) | go_size))⟩
/-- The holes taken and the names seen. -/
def ScB (w wr : World) (x y : Int) (ns : List ByteArray) : Prop := TkB w wr x y ∧ NamesIn Try.prog 9 4 wr (w.heap.size + 1) ns
theorem scB_ab {w W W' : World} {x y : Int} {ns : List ByteArray} (h : ScB w W x y ns) (hb : Ab W W') : ScB w W' x y ns := ⟨tkB_ab h.1 hb, h.2.below hb⟩
theorem scB_set {w W : World} {x y : Int} {ns : List ByteArray} (h : ScB w W x y ns) (u v : Int) : ScB w ((W.setCell ⟨w.heap.size, 0, none⟩ (.int .u64 u)).setCell ⟨w.heap.size, 1, none⟩ (.int .u64 v)) u v ns :=
  ⟨tkB_set h.1 u v, h.2.of_block (by rw [Below.heap_setCell _ _ _ _ (by show w.heap.size + 1 ≠ w.heap.size; omega), Below.heap_setCell _ _ _ _ (by show w.heap.size + 1 ≠ w.heap.size; omega)])⟩
theorem scB_start (w : World) : ScB w ((w.alloc (.cells #[.int .u64 0, .int .u64 0] 47)).alloc (.map #[] 0)) 0 0 [] := by
  refine ⟨tkB_ab (tkB_start w) (below_new (Below.refl _ _) _), ?_⟩
  have h := namesIn_made Try.prog 9 4 (w.alloc (.cells #[.int .u64 0, .int .u64 0] 47))
  simpa using h

set_option maxRecDepth 100000 in
set_option maxHeartbeats 3200000 in
theorem iSch_any (ad : Option Addr) (fs : List Fd) (c : Nat) (w : World) (hc : FieldsIn w ad fs) :
    Calls Try.prog 51 #[.slice ad fs.length c] w fun e w' => e = .returned (.bool (schOk fs)) ∧ Below w.heap.size w w' := by
  have C := Lib.hid hc
  have he := eq_mask
  clear hc
  by_cases hl : fs.length ≤ 12
  · have HL := Lib.hid hl
    have hg : decide ((12 : Int) < (fs.length : Int)) = false := by simp; omega
    have hmm := fun n W => run_makeMapN Try.underlying136 n W
    have TS := Lib.hid (scB_start w)
    go_enter Try.func51, Try.ntmps51
    go_wp2
    go_loopw [15] (fun i wr => ∃ j : Nat, j ≤ fs.length ∧ i = .int .i64 j ∧ schTo fs j = true ∧ ScB w wr (tk0 fs j) (tk1 fs j) (fNames fs j)) (fun i _ => fs.length - (intOf i).toNat)
    case atStart => exact ⟨0, Nat.zero_le _, rfl, rfl, TS.out⟩
    case round =>
      obtain ⟨j, hj, rfl, hs, hB⟩ := hrel
      have BB := Lib.hid hB
      have S := Lib.hid hs
      clear hs hg TS hmm
      by_cases hjl : j < fs.length
      · have hd : decide ((j : Int) < (fs.length : Int)) = true := by simpa using hjl
        obtain ⟨⟨f1, f2, f3, f4⟩, b1, o1, rfl, hb1, p0, p1, p2, p3⟩ := C.out j hjl
        have d0 := (hB.1.2.cell (p := ⟨b1, o1 + j * 4, none⟩) hb1).trans p0
        have d1 := (hB.1.2.cell (p := ⟨b1, o1 + j * 4 + 1, none⟩) hb1).trans p1
        have d2 := (hB.1.2.cell (p := ⟨b1, o1 + j * 4 + 2, none⟩) hb1).trans p2
        have d3 := (hB.1.2.cell (p := ⟨b1, o1 + j * 4 + 3, none⟩) hb1).trans p3
        have i1 : (0 : Int) ≤ (j : Int) := by omega
        have i2 : (j : Int) < (fs.length : Int) := by omega
        have no1 : Hid (fOk fs j = false → schOk fs = false) := Lib.hid fun h => schOk_no hjl (schTo_field h)
        have no2 : Hid (hasN (fNames fs j) (fdAt fs j).s = true → schOk fs = false) := Lib.hid fun h => schOk_no hjl (schTo_name h)
        have no3 : Hid (fFree fs j = false → schOk fs = false) := Lib.hid fun h => schOk_no hjl (schTo_hole h)
        have nx : Hid (fOk fs j = true → fFree fs j = true → hasN (fNames fs j) (fdAt fs j).s = false → schTo fs (j + 1) = true) := Lib.hid fun h1 h3 h2 => schTo_yes S.out h1 h2 h3
        have V : Hid (∀ W : World, Calls Try.prog 65 #[.agg #[.string (fdAt fs j).s, .int .i8 (fdAt fs j).k, .int .i16 (fdAt fs j).t, .int .i16 (fdAt fs j).z]] W fun e w' => e = .returned (.bool (fOk fs j)) ∧ Below W.heap.size W w') := Lib.hid fun W => iVF_any _ _ _ _ f1 f2 f3 f4 W
        have P : Hid (fOk fs j = true → ∀ W : World, Calls Try.prog 103 #[.agg #[.string (fdAt fs j).s, .int .i8 (fdAt fs j).k, .int .i16 (fdAt fs j).t, .int .i16 (fdAt fs j).z]] W fun e w' => e = .returned (.agg #[.int .u64 (fp0 fs j), .int .u64 (fp1 fs j)]) ∧ Below W.heap.size W w') := Lib.hid fun h W => iPartOk _ _ _ _ h W
        have F := Lib.hid f1
        have J := Lib.hid (show (fNames fs j).length < maxLen by rw [fNames_len]; unfold maxLen; omega)
        have FN := Lib.hid (fNames_next fs j)
        have TX := Lib.hid (show bits .or .u64 (tk0 fs j) (fp0 fs j) = tk0 fs (j + 1) from rfl)
        have TY := Lib.hid (show bits .or .u64 (tk1 fs j) (fp1 fs j) = tk1 fs (j + 1) from rfl)
        have FF := Lib.hid (show (bits .and .u64 (tk0 fs j) (fp0 fs j) == 0 && bits .and .u64 (tk1 fs j) (fp1 fs j) == 0) = fFree fs j from rfl)
        clear hB p0 p1 p2 p3 S f1 f2 f3 f4
        generalize fp0 fs j = PX at *
        generalize fp1 fs j = PY at *
        generalize tk0 fs j = x at *
        generalize tk1 fs j = y at *
        generalize fNames fs j = ns at *
        generalize fdAt fs j = fd at *
        obtain ⟨s, k, t, z⟩ := fd
        simp only at d0 d1 d2 d3 no2 nx V P F FN
        go_upto_region 8 with fail
        have HF := Lib.hid (block_alloc wr (.cells #[.string s, .int .i8 k, .int .i16 t, .int .i16 z] 33))
        have hA : Ab wr (wr.alloc (.cells #[.string s, .int .i8 k, .int .i16 t, .int .i16 z] 33)) := below_new (Below.refl _ _) _
        have B1 := Lib.hid (scB_ab BB.out hA)
        have gne : wr.heap.size ≠ w.heap.size + 1 := by
          have := BB.out.2
          obtain ⟨D, ⟨es, clock, hc9, _⟩, _⟩ := this
          have := (Array.getElem?_eq_some_iff.1 hc9).1
          omega
        clear d0 d1 d2 d3 hA
        generalize wr.alloc (.cells #[.string s, .int .i8 k, .int .i16 t, .int .i16 z] 33) = V1 at *
        generalize wr.heap.size = g at *
        have L : ∀ p : Regrown, (Instr.lookup 136 (.map (some (w.heap.size + 1))) (.string s) false).run Try.prog (bw V1 p) = .ok (.bool (hasN ns s)) (bw V1 p) := fun p => (B1.out.2.below (below_bw V1 p)).asked Try.underlying136 Try.underlying9 Try.underlying4 (zero_bool _) s F.out
        have hbw := cell_bw
        have c0 := cell_of_block HF.out
        have z0 := lt_of_block HF.out
        have c1 := cell_of_block B1.out.1.1
        have z1 := lt_of_block B1.out.1.1
        cases hz : fOk fs j
        · rw [hz] at V
          clear P no2 no3 nx L
          refine region_bw (by kernel_rfl) (by kernel_rfl) ?_
          repeat (go_big_quiet_step (first | (go_at_call 65; exact calls_bw (V.out _))))
          refine wpQuiet_nil ?_; intro wq hq; replace hq := below_of_bw hq; obtain ⟨qc, qf, qz⟩ := bcell hq
          go_wp2
          go_ret
          exact ⟨retB (no1.out hz), B1.out.1.2.trans (hq.mono B1.out.1.2.size)⟩
        · rw [hz] at V
          have PT := Lib.hid (P.out hz)
          have NX := Lib.hid (nx.out hz)
          clear P nx no1 hz
          cases hn : hasN ns s
          · rw [hn] at L
            cases hfr : fFree fs j
            · have hm : (bits .and .u64 x PX == 0 && bits .and .u64 y PY == 0) = false := FF.out.trans hfr
              have nf := Lib.hid (no3.out hfr)
              clear no2 no3 NX hfr hn
              refine region_bw (by kernel_rfl) (by kernel_rfl) ?_
              repeat (go_big_quiet_step (first | (go_at_call 65; exact calls_bw (V.out _)) | (go_at_call 103; exact calls_bw (PT.out _)) | (go_at_call 97; exact calls_bw (iMeet_b2 _ _ _ _ _))))
              refine wpQuiet_nil ?_; intro wq hq; replace hq := below_of_bw hq; obtain ⟨qc, qf, qz⟩ := bcell hq
              go_wp2
              go_ret
              exact ⟨retB nf.out, B1.out.1.2.trans (hq.mono B1.out.1.2.size)⟩
            · have hm : (bits .and .u64 x PX == 0 && bits .and .u64 y PY == 0) = true := FF.out.trans hfr
              have NX := Lib.hid (NX.out hfr hn)
              clear no2 no3 hfr hn
              refine region_bw (by kernel_rfl) (by kernel_rfl) ?_
              repeat (go_big_quiet_step (first | (go_at_call 65; exact calls_bw (V.out _)) | (go_at_call 103; exact calls_bw (PT.out _)) | (go_at_call 97; exact calls_bw (iMeet_b2 _ _ _ _ _))))
              refine wpQuiet_nil ?_; intro wq hq; replace hq : Ab V1 wq := below_of_bw hq
              have B2 := Lib.hid (scB_ab B1.out hq)
              have HF2 := Lib.hid (hq.block HF.out)
              clear L c0 z0 c1 z1 hq hm
              have c0 := cell_of_block HF2.out
              have z0 := lt_of_block HF2.out
              obtain ⟨w3, U, N3, hg3⟩ := B2.out.2.added Try.underlying136 Try.underlying9 Try.underlying4 s F.out J.out
              rw [← FN.out] at N3
              have HF3 := Lib.hid ((hg3.block g z0 (by simpa using gne)).trans HF2.out)
              have T3 : TkB w w3 x y := ⟨(hg3.block w.heap.size (lt_of_block B2.out.1.1) (by simp)).trans B2.out.1.1, Below.grown B2.out.1.2 hg3 B2.out.1.2.size (fun k hk => by cases hk; exact Nat.le_add_right _ _)⟩
              have B3 : Hid (ScB w w3 x y _) := Lib.hid ⟨T3, N3⟩
              clear N3 T3 hg3
              go_upto_region 11 with fail
              clear c0 z0
              refine wp_region_last 4 (by kernel_rfl) rfl rfl (by kernel_rfl) (by kernel_rfl) rfl ?_
              simp only [List.take_succ_cons, List.take_zero]
              intro v1 hv1
              have c0 := cell_of_block (hv1.block HF3.out)
              have z0 := lt_of_block (hv1.block HF3.out)
              have c1 := cell_of_block (hv1.block B3.out.1.1)
              have z1 := lt_of_block (hv1.block B3.out.1.1)
              repeat (go_big_quiet_step (first | (go_at_call 103; exact calls_bw (PT.out _)) | (go_at_call 104; exact calls_bw (iJoin_below _ _ _ _ _))))
              refine wpQuiet_nil ?_
              intro v3 hv3
              have B4 := Lib.hid (scB_ab B3.out hv3)
              clear c0 z0 c1 z1 hv1 hv3 hbw
              have c1 := cell_of_block B4.out.1.1
              have g1 := free_of_block B4.out.1.1
              go_simp
              simp only [Yld]
              go_wp2
              exact ⟨⟨j + 1, hjl, by rw [Int.natCast_succ], NX.out, by rw [← TX.out, ← TY.out]; exact scB_set B4.out _ _⟩, by (simp [intOf]) <;> omega⟩
          · rw [hn] at L
            clear no3 NX PT
            refine region_bw (by kernel_rfl) (by kernel_rfl) ?_
            repeat (go_big_quiet_step (first | (go_at_call 65; exact calls_bw (V.out _))))
            refine wpQuiet_nil ?_; intro wq hq; replace hq := below_of_bw hq; obtain ⟨qc, qf, qz⟩ := bcell hq
            go_wp2
            go_ret
            exact ⟨retB (no2.out hn), B1.out.1.2.trans (hq.mono B1.out.1.2.size)⟩
      · have e : j = fs.length := by omega
        subst e
        have hd : decide ((fs.length : Int) < (fs.length : Int)) = false := by simp
        clear hB
        go_wp2
        go_ret
        exact ⟨retB (schOk_yes HL.out S.out), BB.out.1.2⟩
  · have hg : decide ((12 : Int) < (fs.length : Int)) = true := by simp; omega
    go_enter Try.func51, Try.ntmps51
    go_wp2
    go_ret
    exact ⟨retB (schOk_long hl), Below.refl _ _⟩
end Go.Proofs.Ythkmahcdojoioab
