/- Pairs of numbers of the call's own; the pairs of words with the same holes: the model's contract. -/
import Derived.Test.YtanocllpmjhblaaMayW
import Derived.Laws.StructEq
namespace Go.Proofs.Ytanocllpmjhblaa
open Go.ChangeShapes Go.WideShapes Go.ChangeAt Go.RowKit

def flatP : List (Int × Int) → List Value
  | [] => []
  | m :: ms => .int .i64 m.1 :: .int .i64 m.2 :: flatP ms
theorem flatP_app : ∀ (xs ys : List (Int × Int)), flatP (xs ++ ys) = flatP xs ++ flatP ys
  | [], _ => rfl
  | m :: xs, ys => by simp only [List.cons_append, flatP, flatP_app xs ys]
theorem flatP_len : ∀ ms : List (Int × Int), (flatP ms).length = ms.length * 2
  | [] => rfl
  | m :: ms => by simp only [flatP, List.length_cons, flatP_len ms]; omega
theorem flatP_get : ∀ (ms : List (Int × Int)) (i : Nat), i < ms.length → (flatP ms)[i * 2]? = some (.int .i64 (ms.getD i (0, 0)).1) ∧ (flatP ms)[i * 2 + 1]? = some (.int .i64 (ms.getD i (0, 0)).2)
  | [], i, h => absurd h (Nat.not_lt_zero _)
  | m :: ms, 0, _ => ⟨rfl, rfl⟩
  | m :: ms, i + 1, h => by
    have := flatP_get ms i (by simpa using h)
    rw [show (i + 1) * 2 = i * 2 + 1 + 1 by omega]
    exact this
/-- Pairs that lie in memory. -/
def PairsIn (w : World) (a : Option Addr) (ms : List (Int × Int)) : Prop := ∀ i, i < ms.length → ∃ b off, a = some ⟨b, off, none⟩ ∧ b < w.heap.size ∧ w.cell? ⟨b, off + i * 2, none⟩ = some (.int .i64 (ms.getD i (0, 0)).1) ∧ w.cell? ⟨b, off + i * 2 + 1, none⟩ = some (.int .i64 (ms.getD i (0, 0)).2)
theorem pairsIn_below {w w' : World} {a : Option Addr} {ms : List (Int × Int)} (h : PairsIn w a ms) (hb : Below w.heap.size w w') : PairsIn w' a ms := fun i hi => by
  obtain ⟨b, off, ha, hlt, hc, hd⟩ := h i hi
  exact ⟨b, off, ha, Nat.lt_of_lt_of_le hlt hb.size, (hb.cell hlt).trans hc, (hb.cell hlt).trans hd⟩
/-- Pairs of the call's own. -/
def OwnPs (B : Nat) (ms : List (Int × Int)) (v : Value) (w : World) : Prop := w.ownsRow B 95 2 v ms.length (flatP ms)
theorem ownPs_in {B : Nat} {ms : List (Int × Int)} {v : Value} {w : World} (h : OwnPs B ms v w) : ∃ a c, v = .slice a ms.length c ∧ PairsIn w a ms := by
  have h0 := h
  obtain ⟨_, h2⟩ := h
  rcases h2 with ⟨rfl, hn⟩ | ⟨g, cap, cur, rfl, hb, hg, _⟩
  · exact ⟨none, 0, by rw [hn], fun i hi => by omega⟩
  · refine ⟨_, cap, rfl, fun i hi => ⟨g, 0, rfl, (Array.getElem?_eq_some_iff.1 hg).1, ?_, ?_⟩⟩
    · rw [Nat.zero_add, World.ownsRow.cellAt h0 _ (by omega)]; exact (flatP_get ms i hi).1
    · rw [Nat.zero_add, World.ownsRow.cellAt h0 _ (by omega)]; exact (flatP_get ms i hi).2
theorem ownPs_kept {B : Nat} {ms : List (Int × Int)} {v : Value} {w w' : World} (h : OwnPs B ms v w) (hb : Below w.heap.size w w') : OwnPs B ms v w' := row_kept h hb
theorem ownPs_weaken {B B' : Nat} {ms : List (Int × Int)} {v : Value} {w : World} (h : OwnPs B ms v w) (hb : B' ≤ B) : OwnPs B' ms v w := by
  obtain ⟨h1, h2⟩ := h
  refine ⟨h1, ?_⟩
  rcases h2 with hn | ⟨g, cap, cur, rfl, hB, rest⟩
  · exact .inl hn
  · exact .inr ⟨g, cap, cur, rfl, Nat.le_trans hb hB, rest⟩
theorem ownPs_nil (B : Nat) (w : World) : OwnPs B [] (.slice none 0 0) w := ⟨rfl, .inl ⟨rfl, rfl⟩⟩
theorem ownPs_none {w : World} {n B : Nat} (hn : n = w.heap.size) (hB : B ≤ w.heap.size) : OwnPs B [] (.slice (some ⟨n, 0, none⟩) 0 0) (w.alloc (.cells #[] 95)) := by
  subst hn; exact World.ownsRow_made w #[] 0 hB (Nat.zero_le _) rfl
theorem ownPs_push {B : Nat} {ms : List (Int × Int)} {x y : Int} {v : Value} {w : World} (h : w.ownsRow B 95 2 v (ms.length + 1) (flatP ms ++ [.int .i64 x, .int .i64 y])) : OwnPs B (ms ++ [(x, y)]) v w := by
  unfold OwnPs; rw [flatP_app, List.length_append]; exact h
theorem ownPs_lt {B : Nat} {ms : List (Int × Int)} {v : Value} {w : World} (h : OwnPs B ms v w) : ∀ j, v.ownBlock = some j → B ≤ j := fun j hj => (World.ownsRow.lt h j hj).1

/-- The pairs of one index with the later ones, of the first l, for which a test says yes. -/
def prI (e : Nat → Bool) (j : Nat) : Nat → List (Int × Int)
  | 0 => []
  | l + 1 => if j < l ∧ e l = true then prI e j l ++ [((j : Int), (l : Int))] else prI e j l
theorem prI_low (e : Nat → Bool) (j : Nat) : ∀ l, l ≤ j + 1 → prI e j l = []
  | 0, _ => rfl
  | l + 1, h => by show (if _ then _ else _) = _; rw [if_neg (by omega)]; exact prI_low e j l (by omega)
theorem prI_yes {e : Nat → Bool} {j l : Nat} (h : j < l) (he : e l = true) : prI e j (l + 1) = prI e j l ++ [((j : Int), (l : Int))] := if_pos ⟨h, he⟩
theorem prI_no {e : Nat → Bool} {j l : Nat} (he : e l = false) : prI e j (l + 1) = prI e j l := if_neg (fun x => by rw [he] at x; exact absurd x.2 (by simp))
theorem prI_len (e : Nat → Bool) (j : Nat) : ∀ l, (prI e j l).length ≤ l
  | 0 => Nat.le_refl _
  | l + 1 => by
    have := prI_len e j l
    show (if _ then _ else _ : List (Int × Int)).length ≤ _
    split
    · rw [List.length_append, List.length_singleton]; omega
    · omega
def prO (E : Nat → Nat → Bool) (n : Nat) : Nat → List (Int × Int)
  | 0 => []
  | j + 1 => prO E n j ++ prI (E j) j n
theorem prO_len (E : Nat → Nat → Bool) (n : Nat) : ∀ j, (prO E n j).length ≤ j * n
  | 0 => Nat.zero_le _
  | j + 1 => by
    have h1 := prO_len E n j
    have h2 := prI_len (E j) j n
    show (prO E n j ++ prI (E j) j n).length ≤ _
    rw [List.length_append, Nat.succ_mul]; omega
/-- Have two words of a list the same holes? -/
def eqh (t z : Int) (F : Int → Nat) (zs : List ByteArray) (i k : Nat) : Bool := ((hw0 t z F (zs.getD i ⟨#[]⟩) : Int) == (hw0 t z F (zs.getD k ⟨#[]⟩) : Int)) && ((hw1 t z F (zs.getD i ⟨#[]⟩) : Int) == (hw1 t z F (zs.getD k ⟨#[]⟩) : Int))
/-- A list of pairs of the call's own, and a code. -/
def AkR (c : Int) (ps : List (Int × Int)) (w : World) (e : Ending) (w' : World) : Prop := ∃ v, e = .returned (.tuple #[v, .int .i64 c]) ∧ OwnPs w.heap.size ps v w' ∧ Below w.heap.size w w'
def akL (c : Int) (ps : List (Int × Int)) : List (Int × Int) := if c = 0 then ps else []
theorem akL_no {c : Int} {ps : List (Int × Int)} (h : c ≠ 0) : akL c ps = [] := if_neg h
theorem akL_yes (ps : List (Int × Int)) : akL 0 ps = ps := rfl
theorem info_pair : (Try.prog.info? 95).map (fun i => (i.zero, i.size, i.bytes)) = some (some (.agg #[.int .i64 0, .int .i64 0]), 2, 16) := by kernel_rfl
/-- A box of the call's own: a mix. -/
def Rm (w wr : World) (t z p : Int) : Prop := wr.heap[w.heap.size]? = some (.cells #[.int .i16 t, .int .i16 z, .int .i16 p] 30 (0, 0)) ∧ Below w.heap.size w wr
theorem rm_ab {w wr w' : World} {t z p : Int} (h : Rm w wr t z p) (k : Below wr.heap.size wr w') : Rm w w' t z p := ⟨Ab.block k h.1, h.2.trans (Below.mono k h.2.size)⟩

set_option maxRecDepth 100000 in
set_option maxHeartbeats 1600000 in
theorem sAlike_any (t z p : Int) (ht : I16 t) (hz : I16 z) (hp : I16 p) (F : Int → Nat) (hF : mixOk t z p = true → StopF t z p F) (ad : Option Addr) (zs : List ByteArray) (cap : Nat) (w : World) (h : StrsIn w ad zs) (hf : Fit zs) (hl : zs.length ≤ 9223372036854775807) :
    Calls Try.prog 10 #[.agg #[.int .i16 t, .int .i16 z, .int .i16 p], .slice ad zs.length cap] w (AkR (askC (mixOk t z p) [] zs 40) (akL (askC (mixOk t z p) [] zs 40) (prO (eqh t z F zs) zs.length zs.length)) w) := by
  have R0 : Rm w (w.alloc (.cells #[.int .i16 t, .int .i16 z, .int .i16 p] 30)) t z p := ⟨block_alloc _ _, ab_new _ _⟩
  have R1 := rm_ab R0 (ab_new _ (.cells #[] 53))
  have Q := sAsk_any t z p ht hz hp w.heap.size 0 (some ⟨w.heap.size + 1, 0, none⟩) ad [] zs 0 cap 40 _ (by simp) (by simp) (by simp) (fun i hi => absurd hi (Nat.not_lt_zero _)) (strsIn_below h R1.2) hf (Nat.zero_le _) hl
  have R := Lib.hid R1
  have H := Lib.hid h
  have FT := Lib.hid hf
  generalize hc : askC (mixOk t z p) [] zs 40 = c at Q ⊢
  have Q := Lib.hid Q
  clear h hf ht hz hp R0 R1
  by_cases h0 : c = 0
  · subst h0
    have hv := ask_ok hc
    have hn := ask_words hc
    have hF := hF hv
    obtain ⟨t0, z0, tz, p1, p8, pz⟩ := mix_inv hv
    have HC := Lib.hid fun s hs W c1 c2 c3 => sHoles_any t z p s hs t0 z0 tz p1 p8 (F (ck s s.size)) (hF _ (ck_in s _).1 (ck_in s _).2) w.heap.size 0 W c1 c2 c3
    obtain ⟨i0, hi, hz0, hz1, hz2⟩ := info_parts info_pair
    rw [akL_yes]
    have EQ := Lib.hid (show ∀ i k, eqh t z F zs i k = (((hw0 t z F (zs.getD i ⟨#[]⟩) : Int) == (hw0 t z F (zs.getD k ⟨#[]⟩) : Int)) && ((hw1 t z F (zs.getD i ⟨#[]⟩) : Int) == (hw1 t z F (zs.getD k ⟨#[]⟩) : Int))) from fun _ _ => rfl)
    clear hv hF hc
    have hbw := cell_bw
    go_enter Try.func10, Try.ntmps10
    go_wp2_with (go_at_call 52; refine Q.out.mono ?_; rintro e w1 ⟨rfl, hB⟩; have r2 := Lib.hid (rm_ab R.out hB); clear hB)
    go_loopw [7, 8] (fun v i wr => ∃ j : Nat, j ≤ zs.length ∧ i = .int .i64 j ∧ OwnPs w1.heap.size (prO (eqh t z F zs) zs.length j) v wr ∧ Below w1.heap.size w1 wr) (fun _ i _ => zs.length - (intOf i).toNat)
    case atStart => exact ⟨0, Nat.zero_le _, rfl, ownPs_none rfl (Nat.le_refl _), ab_new _ _⟩
    case round =>
      obtain ⟨j, hj, rfl, O, hB⟩ := hrel
      have BB := Lib.hid hB
      have OO := Lib.hid O
      have al := prO_len (eqh t z F zs) zs.length j
      clear O hB
      by_cases hjl : j < zs.length
      · have hd : decide ((j : Int) < (zs.length : Int)) = true := by simpa using hjl
        have PO := Lib.hid (show prO (eqh t z F zs) zs.length (j + 1) = prO (eqh t z F zs) zs.length j ++ prI (eqh t z F zs j) j zs.length from rfl)
        generalize prO (eqh t z F zs) zs.length j = ys at *
        have hm : ys.length ≤ 1600 := Nat.le_trans al (Nat.le_trans (Nat.mul_le_mul (Nat.le_trans hj hn) hn) (by omega))
        clear al
        go_wp2_with fail
        go_loopw [7, 9] (fun v i wl => ∃ l : Nat, j + 1 ≤ l ∧ l ≤ zs.length ∧ i = .int .i64 l ∧ OwnPs w1.heap.size (ys ++ prI (eqh t z F zs j) j l) v wl ∧ Below w1.heap.size w1 wl) (fun _ i _ => zs.length - (intOf i).toNat)
        case atStart => exact ⟨j + 1, Nat.le_refl _, hjl, by rw [Int.natCast_succ], by rw [prI_low _ _ _ (Nat.le_refl _), List.append_nil]; exact OO.out, BB.out⟩
        case round =>
          obtain ⟨l, hjl2, hll, rfl, O, hBl⟩ := hrel
          have BL := Lib.hid hBl
          have OL := Lib.hid O
          have ll := prI_len (eqh t z F zs j) j l
          have RL := Lib.hid (rm_ab r2.out hBl)
          clear O
          by_cases hl2 : l < zs.length
          · have hd2 : decide ((l : Int) < (zs.length : Int)) = true := by simpa using hl2
            obtain ⟨b1, o1, rfl, hb1, q1⟩ := H.out j hjl
            obtain ⟨b2, o2, e2, hb2, q2⟩ := H.out l hl2
            cases e2
            have d1 := (RL.out.2.cell (p := ⟨b1, o1 + j, none⟩) hb1).trans q1
            have d2 := (RL.out.2.cell (p := ⟨b1, o1 + l, none⟩) hb1).trans q2
            have y1 := Nat.lt_of_lt_of_le hb1 RL.out.2.size
            have m0 := cell_of_block RL.out.1
            have l0 := lt_of_block RL.out.1
            have i3 : (0 : Int) ≤ (j : Int) := by omega
            have i4 : (j : Int) < (zs.length : Int) := by omega
            have i5 : (0 : Int) ≤ (l : Int) := by omega
            have C1 := HC.out (zs.getD j ⟨#[]⟩) (FT.out j hjl)
            change ∀ W : World, _ → _ → _ → Calls _ _ _ W (fun e w' => e = .returned (.agg #[.int .u64 (hw0 t z F (zs.getD j ⟨#[]⟩) : Int), .int .u64 (hw1 t z F (zs.getD j ⟨#[]⟩) : Int)]) ∧ Below W.heap.size W w') at C1
            have C2 := HC.out (zs.getD l ⟨#[]⟩) (FT.out l hl2)
            change ∀ W : World, _ → _ → _ → Calls _ _ _ W (fun e w' => e = .returned (.agg #[.int .u64 (hw0 t z F (zs.getD l ⟨#[]⟩) : Int), .int .u64 (hw1 t z F (zs.getD l ⟨#[]⟩) : Int)]) ∧ Below W.heap.size W w') at C2
            have C1 := Lib.hid C1
            have C2 := Lib.hid C2
            have e3 := EQ.out j l
            have yes := Lib.hid fun he => prI_yes (e := eqh t z F zs j) (j := j) (l := l) (by omega) he
            have no := Lib.hid fun he => prI_no (e := eqh t z F zs j) (j := j) (l := l) he
            generalize eqh t z F zs j l = x at *
            generalize prI (eqh t z F zs j) j l = qs at *
            generalize (hw0 t z F (zs.getD j ⟨#[]⟩) : Int) = U0 at *
            generalize (hw1 t z F (zs.getD j ⟨#[]⟩) : Int) = U1 at *
            generalize (hw0 t z F (zs.getD l ⟨#[]⟩) : Int) = V0 at *
            generalize (hw1 t z F (zs.getD l ⟨#[]⟩) : Int) = V1 at *
            generalize zs.getD j ⟨#[]⟩ = sj at *
            generalize zs.getD l ⟨#[]⟩ = sl at *
            have he3 : ∀ v : World, (Op.equalIn 10000 53 (.agg #[.int .u64 U0, .int .u64 U1]) (.agg #[.int .u64 V0, .int .u64 V1])).run Try.prog v = .ok x v := fun v => by rw [eq_mask, e3]
            clear e3 q1 q2 hb1 hb2 hBl
            go_wp2_with fail
            refine region_bw (by kernel_rfl) (by kernel_rfl) ?_
            repeat (go_big_quiet_step (first
              | (go_at_call_of 53 (Value.string sj); refine calls_bw (C1.out _ ?_ ?_ ?_); exact (hbw _ _ _ _ l0).trans (m0 0); exact (hbw _ _ _ _ l0).trans (m0 1); exact (hbw _ _ _ _ l0).trans (m0 2))
              | (go_at_call_of 53 (Value.string sl); refine calls_bw (C2.out _ ?_ ?_ ?_); exact (hbw _ _ _ _ l0).trans (m0 0); exact (hbw _ _ _ _ l0).trans (m0 1); exact (hbw _ _ _ _ l0).trans (m0 2))))
            refine wpQuiet_nil ?_; intro wq hq; replace hq := below_of_bw hq; obtain ⟨qc, qf, qz⟩ := bcell hq
            have O2 := Lib.hid (ownPs_kept OL.out hq)
            have B2 := Lib.hid (Ab.trans BL.out hq)
            have s2 := B2.out.size
            clear d1 d2 y1 m0 l0 he3 qc qf qz hq
            cases x
            · have N := Lib.hid (no.out rfl)
              clear yes no
              go_wp2_with fail
              exact ⟨⟨l + 1, by omega, hl2, by rw [Int.natCast_succ], by rw [N.out]; exact O2.out, B2.out⟩, by (simp [intOf]) <;> omega⟩
            · have Y := Lib.hid (yes.out rfl)
              clear yes no
              go_wp2_with (at_builtin; refine wpList_append_own _ rfl _ _ 27 rfl w1.heap.size 95 i0 (.agg #[.int .i64 0, .int .i64 0]) 2 16 Try.underlying27 hi hz0 hz1 hz2 rfl (by decide) _ _ _ rfl (World.ownsRow.alloc O2.out _) ⟨wq.heap.size, 0, none⟩ 1 1 [.int .i64 (j : Int), .int .i64 (l : Int)] rfl rfl (m_new _ _ _ _) (fun x hx => by simp at hx; rcases hx with rfl | rfl <;> rfl) (by unfold maxLen; rw [List.length_append]; omega) (by rw [List.length_append]; omega) (by simp; omega) ?_; intro v' w7 hown hgrow _; have P := Lib.hid (ownPs_push hown); have G := Lib.hid hgrow; clear hown hgrow)
              refine ⟨⟨l + 1, by omega, hl2, by rw [Int.natCast_succ], by rw [Y.out, ← List.append_assoc]; exact P.out, ?_⟩, by (simp [intOf]) <;> omega⟩
              exact Below.grown ((show Below w1.heap.size w1 wq from B2.out).alloc s2 _) G.out (by simp; omega) (fun k hk => ownPs_lt O2.out k hk)
          · have e : l = zs.length := by omega
            subst e
            have hd2 : decide ((zs.length : Int) < (zs.length : Int)) = false := by simp
            clear hBl
            go_wp2_with fail
            exact ⟨⟨j + 1, hjl, by rw [Int.natCast_succ], by rw [PO.out]; exact OL.out, BL.out⟩, by (simp [intOf]) <;> omega⟩
      · have e : j = zs.length := by omega
        subst e
        have hd : decide ((zs.length : Int) < (zs.length : Int)) = false := by simp
        clear hbw
        go_wp2
        go_ret2
        exact ⟨_, rfl, ownPs_weaken OO.out r2.out.2.size, Ab.trans r2.out.2 BB.out⟩
  · have d2 : (c != 0) = true := by simp [h0]
    rw [akL_no h0]
    clear hF hc
    go_enter Try.func10, Try.ntmps10
    go_wp2_with (go_at_call 52; refine Q.out.mono ?_; rintro e w1 ⟨rfl, hB⟩; have r2 := Lib.hid (rm_ab R.out hB); clear hB)
    go_ret2
    exact ⟨_, rfl, ownPs_none rfl r2.out.2.size, r2.out.2.trans (Below.mono (ab_new _ _) r2.out.2.size)⟩
end Go.Proofs.Ytanocllpmjhblaa
