/- Contracts: the masks that drop for words (DroppedOf), the model's. -/
import Derived.Test.YtoippchkhknhpaaDof
import Derived.Laws.MakeOwn
namespace Go.Proofs.Ytoippchkhknhpaa
open Go.ChangeShapes Go.WideShapes Go.ChangeAt Go.RowKit

set_option maxHeartbeats 3200000 in
theorem sDropped_any (x y : Int) (hx : U64 x) (hy : U64 y) (am : Option Addr) (ms : List (Int × Int)) (cm : Nat) (w : World) (hm : MasksIn w am ms) (hU : ∀ i, i < ms.length → U64 (ms.getD i (0, 0)).1 ∧ U64 (ms.getD i (0, 0)).2) (hl : ms.length ≤ 1048576) :
    Calls Try.prog 84 #[.slice am ms.length cm, .agg #[.int .u64 x, .int .u64 y]] w (NumR (idx (dropsAt x y ms) ms.length) w) := by
  obtain ⟨i0, hi, hz0, hz1, hz2⟩ := info_parts info_i64
  have H := Lib.hid hm
  have IW := Lib.hid fun k (hk : k < ms.length) W => sIsWithin_any x y (ms.getD k (0, 0)).1 (ms.getD k (0, 0)).2 hx hy (hU k hk).1 (hU k hk).2 W
  clear hm hx hy hU
  have hbw := cell_bw
  go_enter Try.func84, Try.ntmps84
  go_wp2
  go_loopw [5, 6] (fun v i wr => ∃ j : Nat, j ≤ ms.length ∧ i = .int .i64 j ∧ OwnInts (w.heap.size + 1) (idx (dropsAt x y ms) j) v wr ∧ wr.heap[w.heap.size]? = some (.cells #[.int .u64 x, .int .u64 y] 51 (0, 0)) ∧ Below w.heap.size w wr) (fun _ i _ => ms.length - (intOf i).toNat)
  case atStart => exact ⟨0, Nat.zero_le _, rfl, u_none (by simp) (by simp), (block_alloc2 _ _ _).1, below_new (below_new (Below.refl _ _) _) _⟩
  case round =>
    obtain ⟨j, hj, rfl, O, hM, hB⟩ := hrel
    have BB := Lib.hid hB
    have OO := Lib.hid O
    have MM := Lib.hid hM
    clear O
    by_cases hjl : j < ms.length
    · have hd : decide ((j : Int) < (ms.length : Int)) = true := by simpa using hjl
      obtain ⟨b1, o1, rfl, hb1, p0, p1⟩ := H.out j hjl
      have d0 := (hB.cell (p := ⟨b1, o1 + j * 2, none⟩) hb1).trans p0
      have d1 := (hB.cell (p := ⟨b1, o1 + j * 2 + 1, none⟩) hb1).trans p1
      have m0 := cell_of_block hM
      have y0 : w.heap.size < wr.heap.size := lt_of_block hM
      have y1 : b1 < wr.heap.size := Nat.lt_of_lt_of_le hb1 hB.size
      have i3 : (0 : Int) ≤ (j : Int) := by omega
      have i4 : (j : Int) < (ms.length : Int) := by omega
      have I := IW.out j hjl
      change ∀ W : World, Calls _ _ _ W (fun e w' => e = .returned (.bool (dropsAt x y ms j)) ∧ Below W.heap.size W w') at I
      have yes := Lib.hid fun h => idx_yes (p := dropsAt x y ms) (k := j) h
      have no := Lib.hid fun h => idx_no (p := dropsAt x y ms) (k := j) h
      have al := idx_len (dropsAt x y ms) j
      clear hB p0 p1 hM
      generalize idx (dropsAt x y ms) j = xs at *
      generalize dropsAt x y ms j = q at *
      generalize (ms.getD j (0, 0)).1 = m1 at *
      generalize (ms.getD j (0, 0)).2 = m2 at *
      cases q
      · have NO := Lib.hid (no.out rfl)
        have I := Lib.hid I
        clear yes no
        go_wp2_with fail
        refine region_bw (by kernel_rfl) (by kernel_rfl) ?_
        repeat (go_big_quiet_step (first | (go_at_call 82; exact calls_bw (I.out _))))
        refine wpQuiet_nil ?_; intro wq hq; replace hq := below_of_bw hq; obtain ⟨qc, qf, qz⟩ := bcell hq
        have M1 := Lib.hid (Ab.block hq MM.out)
        go_wp2_with fail
        exact ⟨⟨j + 1, hjl, by rw [Int.natCast_succ], by rw [NO.out]; exact ownInts_kept OO.out hq, M1.out, BB.out.trans (hq.mono BB.out.size)⟩, by (simp [intOf]) <;> omega⟩
      · have YE := Lib.hid (yes.out rfl)
        have I := Lib.hid I
        clear yes no
        go_wp2_with fail
        refine region_bw (by kernel_rfl) (by kernel_rfl) ?_
        repeat (go_big_quiet_step (first | (go_at_call 82; exact calls_bw (I.out _))))
        refine wpQuiet_nil ?_; intro wq hq; replace hq := below_of_bw hq; obtain ⟨qc, qf, qz⟩ := bcell hq
        have M1 := Lib.hid (Ab.block hq MM.out)
        have O1 := Lib.hid (ownInts_kept OO.out hq)
        have B1 := Lib.hid (BB.out.trans (hq.mono BB.out.size))
        have s1 := B1.out.size
        have l1 := lt_of_block M1.out
        clear d0 d1 m0 y0 y1 hq qc qf qz hbw
        go_wp2_with (at_builtin; refine wpList_append_own _ rfl _ _ 39 rfl (w.heap.size + 1) 2 i0 (.int .i64 0) 1 8 Try.underlying39 hi hz0 hz1 hz2 rfl (by decide) _ _ _ rfl (O1.out.alloc _) ⟨wq.heap.size, 0, none⟩ 1 1 [.int .i64 (j : Int)] rfl rfl (u_one_new _ _ _) (fun x hx => by simp at hx; subst hx; rfl) (by unfold maxLen; omega) (by omega) (by simp; omega) ?_; intro v' w4 hown hgrow _; have P := Lib.hid (u_push hown); have G := Lib.hid hgrow; clear hown hgrow)
        refine ⟨⟨j + 1, hjl, by rw [Int.natCast_succ], by rw [YE.out]; exact P.out, ?_, ?_⟩, by (simp [intOf]) <;> omega⟩
        · exact (G.out.block _ (by simp; omega) (fun e => by have := u_lt O1.out _ e.symm; omega)).trans ((block_old _ _ l1).trans M1.out)
        · exact Below.grown (B1.out.alloc s1 _) G.out (by simp; omega) (fun k hk => Nat.le_of_succ_le (u_lt O1.out k hk))
    · have e : j = ms.length := by omega
      subst e
      have hd : decide ((ms.length : Int) < (ms.length : Int)) = false := by simp
      clear hB hM
      go_wp2
      go_ret
      exact ⟨_, rfl, u_weaken OO.out (Nat.le_succ _), BB.out⟩

/-- A box of the call's own: a mix. -/
def Rx (w wr : World) (t z p : Int) : Prop := wr.heap[w.heap.size]? = some (.cells #[.int .i16 t, .int .i16 z, .int .i16 p] 30 (0, 0)) ∧ Below w.heap.size w wr
theorem rx_ab {w wr w' : World} {t z p : Int} (h : Rx w wr t z p) (k : Below wr.heap.size wr w') : Rx w w' t z p := ⟨Ab.block k h.1, h.2.trans (Below.mono k h.2.size)⟩
theorem rx_start (w : World) (t z p : Int) : Rx w (w.alloc (.cells #[.int .i16 t, .int .i16 z, .int .i16 p] 30)) t z p := ⟨block_alloc _ _, ab_new _ _⟩
theorem A_u64 {t z : Int} (F : Int → Nat) (zs : List ByteArray) (t0 : 0 ≤ t) (z0 : 4 ≤ z) (tz : t + z ≤ 96) : U64 (A0 t z F zs zs.length : Int) ∧ U64 (A1 t z F zs zs.length : Int) := by
  obtain ⟨h0, h1⟩ := A_lt F zs t0 (show 0 < z by omega) tz zs.length
  exact ⟨⟨by omega, by omega⟩, ⟨by omega, by omega⟩⟩

set_option maxRecDepth 100000 in
set_option maxHeartbeats 1600000 in
theorem sDofW_any (t z p : Int) (ht : I16 t) (hz : I16 z) (hp : I16 p) (F : Int → Nat) (hF : mixOk t z p = true → StopF t z p F) (am : Option Addr) (ms : List (Int × Int)) (cm : Nat) (ad : Option Addr) (zs : List ByteArray) (cap : Nat) (w : World) (hm : MasksIn w am ms) (hU : ∀ i, i < ms.length → U64 (ms.getD i (0, 0)).1 ∧ U64 (ms.getD i (0, 0)).2) (lm : ms.length ≤ 1048576) (h : StrsIn w ad zs) (hf : Fit zs) (hl : zs.length ≤ 9223372036854775807) :
    Calls Try.prog 36 #[.agg #[.int .i16 t, .int .i16 z, .int .i16 p], .slice am ms.length cm, .slice ad zs.length cap] w (MwR (askC (mixOk t z p) ms zs 12) (mayL (askC (mixOk t z p) ms zs 12) (dofL t z F ms zs)) w) := by
  have R0 := rx_start w t z p
  have Q := sAsk_any t z p ht hz hp w.heap.size 0 am ad ms zs cm cap 12 _ (by simp) (by simp) (by simp) (masksIn_below hm R0.2) (strsIn_below h R0.2) hf (by omega) hl
  have R := Lib.hid R0
  have H := Lib.hid h
  have HM := Lib.hid hm
  have FT := Lib.hid hf
  have UU := Lib.hid hU
  generalize hc : askC (mixOk t z p) ms zs 12 = c at Q ⊢
  have Q := Lib.hid Q
  clear h hm hf ht hz hp hU R0
  by_cases h0 : c = 0
  · subst h0
    have hv := ask_ok hc
    have hF := hF hv
    obtain ⟨t0, z0, tz, p1, p8, pz⟩ := mix_inv hv
    have A := Lib.hid fun W hs c0 c1 c2 => sAll_any t z p F hF t0 z0 tz p1 p8 ad zs cap w.heap.size 0 W hs FT.out hl c0 c1 c2
    obtain ⟨ux, uy⟩ := A_u64 F zs t0 z0 tz
    rw [mayL_yes]
    unfold dofL
    generalize (A0 t z F zs zs.length : Int) = X at *
    generalize (A1 t z F zs zs.length : Int) = Y at *
    have D := Lib.hid fun W hs => sDropped_any X Y ux uy am ms cm W hs UU.out lm
    clear hv hF hc ux uy
    generalize idx (dropsAt X Y ms) ms.length = xs at *
    go_enter Try.func36, Try.ntmps36
    go_wp2_with (first
      | (go_at_call 81; refine Q.out.mono ?_; rintro e w1 ⟨rfl, hB⟩; have r1 := Lib.hid (rx_ab R.out hB); clear hB)
      | (go_at_call 83; refine (A.out _ (strsIn_below H.out r1.out.2) (by simpa using cell_of_block r1.out.1 0) (by simpa using cell_of_block r1.out.1 1) (by simpa using cell_of_block r1.out.1 2)).mono ?_; rintro e w2 ⟨rfl, hB⟩; have r2 := Lib.hid (rx_ab r1.out hB); clear hB)
      | (go_at_call 84; refine (D.out _ (masksIn_below HM.out r2.out.2)).mono ?_; rintro e w3 ⟨v, rfl, hO, hB⟩; have O := Lib.hid hO; have B := Lib.hid hB; clear hO hB))
    go_ret2
    exact ⟨_, rfl, u_weaken O.out r2.out.2.size, r2.out.2.trans (Below.mono B.out r2.out.2.size)⟩
  · have d : (c == 0) = false := by simpa using h0
    have d2 : (c != 0) = true := by simp [h0]
    rw [mayL_no h0]
    clear hF hc
    go_enter Try.func36, Try.ntmps36
    go_wp2_with (go_at_call 81; refine Q.out.mono ?_; rintro e w1 ⟨rfl, hB⟩; have r2 := Lib.hid (rx_ab R.out hB); clear hB)
    go_ret2
    exact ⟨_, rfl, u_none rfl r2.out.2.size, r2.out.2.trans (Below.mono (ab_new _ _) r2.out.2.size)⟩
end Go.Proofs.Ytoippchkhknhpaa
