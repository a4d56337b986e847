/- The words that have to be in a mask: the program's list of them. -/
import Derived.Test.YtoippchkhknhpaaSuI
import Derived.Test.YtoippchkhknhpaaMayW
namespace Go.Proofs.Ytoippchkhknhpaa
open Go.ChangeShapes Go.WideShapes Go.ChangeAt Go.RowKit

/-- What is in the masks but the one with an index, word by word. -/
def ot0 (ms : List (Int × Int)) (k : Nat) : Int := bits .or .u64 (jn0 (ms.take k) k) (jn0 (ms.drop (k + 1)) (ms.length - (k + 1)))
def ot1 (ms : List (Int × Int)) (k : Nat) : Int := bits .or .u64 (jn1 (ms.take k) k) (jn1 (ms.drop (k + 1)) (ms.length - (k + 1)))
/-- The indices, of the first k, without whose mask some holes are missing. -/
def su (ms : List (Int × Int)) (T0 T1 : Int) (xs : List Int) : Nat → List Int
  | 0 => []
  | k + 1 => if (ot0 ms k == T0 && ot1 ms k == T1) then su ms T0 T1 xs k else su ms T0 T1 xs k ++ [xs.getD k 0]
theorem su_no {ms : List (Int × Int)} {T0 T1 : Int} {xs : List Int} {k : Nat} (h : (ot0 ms k == T0 && ot1 ms k == T1) = true) : su ms T0 T1 xs (k + 1) = su ms T0 T1 xs k := by show (if _ then _ else _) = _; rw [if_pos h]
theorem su_yes {ms : List (Int × Int)} {T0 T1 : Int} {xs : List Int} {k : Nat} (h : (ot0 ms k == T0 && ot1 ms k == T1) = false) : su ms T0 T1 xs (k + 1) = su ms T0 T1 xs k ++ [xs.getD k 0] := by show (if _ then _ else _) = _; rw [if_neg (by rw [h]; decide)]
theorem su_len (ms : List (Int × Int)) (T0 T1 : Int) (xs : List Int) : ∀ k, (su ms T0 T1 xs k).length ≤ k
  | 0 => Nat.le_refl _
  | k + 1 => by
    have := su_len ms T0 T1 xs k
    cases h : (ot0 ms k == T0 && ot1 ms k == T1)
    · rw [su_yes h, List.length_append, List.length_singleton]; omega
    · rw [su_no h]; omega
def enB (ms : List (Int × Int)) (T0 T1 : Int) : Bool := jn0 ms ms.length == T0 && jn1 ms ms.length == T1
def suC (c : Int) (en : Bool) : Int := if c = 0 then (if en then 0 else 6) else c
def suL (c : Int) (en : Bool) (ys : List Int) : List Int := if c = 0 then (if en then ys else []) else []
theorem suC_1 {c : Int} (en : Bool) (h : c ≠ 0) : suC c en = c := if_neg h
theorem suL_1 {c : Int} (en : Bool) (ys : List Int) (h : c ≠ 0) : suL c en ys = [] := if_neg h

theorem ownMs_cap {B n c : Nat} {a : Option Addr} {ms : List (Int × Int)} {w : World} (h : OwnMs B ms (.slice a n c) w) : ms.length ≤ c := by
  obtain ⟨_, h2⟩ := h
  rcases h2 with ⟨hv, hn⟩ | ⟨g, cap, cur, hv, _, _, hc, _⟩
  · omega
  · injection hv with _ _ e; omega
theorem joinA {b o j : Nat} {ms : List (Int × Int)} (hj : j < ms.length) (hl : ms.length ≤ 40) (W : World) (cc : Nat) (hs : MasksIn W (some ⟨b, o, none⟩) ms) :
    Calls Try.prog 97 #[.slice (some ⟨b, o, none⟩) j cc] W fun e w' => e = .returned (.agg #[.int .u64 (jn0 (ms.take j) j), .int .u64 (jn1 (ms.take j) j)]) ∧ Below W.heap.size W w' := by
  have e : (ms.take j).length = j := by rw [List.length_take]; omega
  have h := iJoinAll_any (some ⟨b, o, none⟩) (ms.take j) cc W (masks_take hs) (by omega)
  rw [e] at h
  exact h
theorem joinB {b o j cu : Nat} {ms : List (Int × Int)} (hj : j < ms.length) (hl : ms.length ≤ 40) (hc : ms.length ≤ cu) (W : World) (hs : MasksIn W (some ⟨b, o, none⟩) ms) :
    Calls Try.prog 97 #[.slice (if cu = j + 1 then some ⟨b, o, none⟩ else some ⟨b, o + (j + 1) * 2, none⟩) (ms.length - (j + 1)) (cu - (j + 1))] W fun e w' => e = .returned (.agg #[.int .u64 (jn0 (ms.drop (j + 1)) (ms.length - (j + 1))), .int .u64 (jn1 (ms.drop (j + 1)) (ms.length - (j + 1)))]) ∧ Below W.heap.size W w' := by
  have e : (ms.drop (j + 1)).length = ms.length - (j + 1) := List.length_drop
  have hm : MasksIn W (if cu = j + 1 then some ⟨b, o, none⟩ else some ⟨b, o + (j + 1) * 2, none⟩) (ms.drop (j + 1)) := by
    by_cases q : cu = j + 1
    · rw [if_pos q]; exact fun i hi => by omega
    · rw [if_neg q]; exact masks_drop hs
  have h := iJoinAll_any _ (ms.drop (j + 1)) (cu - (j + 1)) W hm (by omega)
  rw [e] at h
  exact h

set_option maxRecDepth 100000 in
set_option maxHeartbeats 1600000 in
theorem iSure_any (t z p : Int) (ht : I16 t) (hz : I16 z) (F : Int → Nat) (hF : mixOk t z p = true → StopF t z p F) (a b : Int) (ad : Option Addr) (zs : List ByteArray) (cap : Nat) (w : World) (h : StrsIn w ad zs) (hf : Fit zs) (hl : zs.length ≤ 9223372036854775807)
    (C : Int) (hC : askC (mixOk t z p) [(a, b)] zs 40 = C) (xs : List Int) (ms : List (Int × Int)) (T0 T1 : Int) (hx : may (wi t z F a b) zs zs.length = xs) (hm1 : hm (wi t z F a b) (hwP t z F) zs zs.length = ms) (hT0 : bits .and .u64 a (mp0 t z) = T0) (hT1 : bits .and .u64 b (mp1 t z) = T1) :
    Calls Try.prog 46 #[.agg #[.int .i16 t, .int .i16 z, .int .i16 p], .agg #[.int .u64 a, .int .u64 b], .slice ad zs.length cap] w (MwR (suC C (enB ms T0 T1)) (suL C (enB ms T0 T1) (su ms T0 T1 xs xs.length)) w) := by
  have hA : Ab w ((w.alloc (.cells #[.int .i16 t, .int .i16 z, .int .i16 p] 30)).alloc (.cells #[.int .u64 a, .int .u64 b] 51)) := Ab.trans (ab_new _ _) (ab_new _ _)
  have I := iHintM_any t z p ht hz F hF a b ad zs cap _ (strsIn_below h hA) hf hl
  have hn : ms.length = xs.length := by rw [← hm1, ← hx]; exact hm_len _ _ _ _
  have hlen : C = 0 → ms.length ≤ 40 := fun e => by have h1 := ask_words (hC.trans e); have h2 := may_len (wi t z F a b) zs zs.length; rw [hx] at h2; omega
  rw [hC, hx, hm1, hT0, hT1] at I
  have I := Lib.hid I
  have AA := Lib.hid hA
  clear h hf hl hF ht hz hA hC hx hm1 hT0 hT1
  by_cases h0 : C = 0
  · subst h0
    rw [mayL_yes, mayM_yes, mayT_yes, mayT_yes] at I
    have hl := hlen rfl
    clear hlen
    have HN := Lib.hid hn
    clear hn
    have i0 := info_parts info_i64
    cases hen : enB ms T0 T1
    · have EN := Lib.hid hen
      clear hen
      go_enter Try.func46, Try.ntmps46
      go_wp2_with (first
        | (go_at_call 95; refine I.out.mono ?_; rintro e w1 ⟨v, u, rfl, hO, hM, hB⟩; obtain ⟨av, cv, rfl, hI⟩ := ownInts_in hO; obtain ⟨au, cu, rfl, hJ⟩ := ownMs_in hM; have J1 := Lib.hid hJ; have B1 := Lib.hid (Ab.trans AA.out hB); clear hO hM hB hI hJ)
        | (go_at_call 96; refine Calls.mono (iEnough_any T0 T1 _ au ms cu _ ?_ (by omega)) ?_; exact masksIn_below J1.out (ab_new _ _); rintro e w2 ⟨rfl, hB⟩; have EN2 := EN.out; unfold enB at EN2; have B2 := Lib.hid (Ab.trans B1.out (Ab.trans (ab_new _ _) hB)); clear hB))
      go_ret2
      exact ⟨_, rfl, u_nil _ _, B2.out⟩
    · have EN := Lib.hid hen
      clear hen
      go_enter Try.func46, Try.ntmps46
      go_wp2_with (first
        | (go_at_call 95; refine I.out.mono ?_; rintro e w1 ⟨v, u, rfl, hO, hM, hB⟩; obtain ⟨av, cv, rfl, hI⟩ := ownInts_in hO; obtain ⟨au, cu, rfl, hJ⟩ := ownMs_in hM; have hcu := ownMs_cap hM; have I1 := Lib.hid hI; have J1 := Lib.hid hJ; have B1 := Lib.hid (Ab.trans AA.out hB); clear hO hM hB hI hJ)
        | (go_at_call 96; refine Calls.mono (iEnough_any T0 T1 _ au ms cu _ ?_ (by omega)) ?_; exact masksIn_below J1.out (ab_new _ _); rintro e w2 ⟨rfl, hB⟩; have EN2 := EN.out; unfold enB at EN2; have H2 := Lib.hid (Ab.block hB (block_alloc _ _)); have I2 := Lib.hid (intsIn_below (intsIn_below I1.out (ab_new _ _)) hB); have J2 := Lib.hid (masksIn_below (masksIn_below J1.out (ab_new _ _)) hB); have B2 := Lib.hid (Ab.trans B1.out (Ab.trans (ab_new _ _) hB)); have k2 := cell_of_block H2.out; have s2 := lt_of_block H2.out; clear hB))
      have sn := B2.out.size
      clear k2
      go_loopw [10, 30] (fun v i wr => ∃ j : Nat, j ≤ xs.length ∧ i = .int .i64 j ∧ OwnInts w2.heap.size (su ms T0 T1 xs j) v wr ∧ Below w2.heap.size w2 wr) (fun _ i _ => xs.length - (intOf i).toNat)
      case atStart => exact ⟨0, Nat.zero_le _, rfl, u_nil _ _, Below.refl _ _⟩
      case round =>
        obtain ⟨j, hj, rfl, O, hB⟩ := hrel
        have BB := Lib.hid hB
        have OO := Lib.hid O
        have al := su_len ms T0 T1 xs j
        clear O
        by_cases hjl : j < xs.length
        · have hd : decide ((j : Int) < (xs.length : Int)) = true := by simpa using hjl
          obtain ⟨a10, c10, rfl, _⟩ := ownInts_in OO.out
          obtain ⟨b1, o1, rfl, hb1, p0⟩ := I2.out j hjl
          obtain ⟨b2, o2, rfl, hb2, _⟩ := J2.out j (HN.out ▸ hjl)
          have d0 := (hB.cell (p := ⟨b1, o1 + j, none⟩) hb1).trans p0
          have y1 : b1 < wr.heap.size := Nat.lt_of_lt_of_le hb1 hB.size
          have H3 := Lib.hid (Ab.block hB H2.out)
          have m3 := cell_of_block H3.out
          have y3 := lt_of_block H3.out
          have i3 : (0 : Int) ≤ (j : Int) := by omega
          have i4 : (j : Int) < (xs.length : Int) := by omega
          have i5 : j < ms.length := by have := HN.out; omega
          have JA := Lib.hid fun (W : World) (cc : Nat) (hs : MasksIn W (some ⟨b2, o2, none⟩) ms) => joinA i5 hl W cc hs
          have JB := Lib.hid fun (W : World) (hs : MasksIn W (some ⟨b2, o2, none⟩) ms) => joinB i5 hl hcu W hs
          have JM := Lib.hid (masksIn_below J2.out hB)
          have YE := Lib.hid fun h => su_yes (ms := ms) (T0 := T0) (T1 := T1) (xs := xs) (k := j) h
          have NO := Lib.hid fun h => su_no (ms := ms) (T0 := T0) (T1 := T1) (xs := xs) (k := j) h
          have OT0 : Hid (bits .or .u64 (jn0 (ms.take j) j) (jn0 (ms.drop (j + 1)) (ms.length - (j + 1))) = ot0 ms j) := Lib.hid rfl
          have OT1 : Hid (bits .or .u64 (jn1 (ms.take j) j) (jn1 (ms.drop (j + 1)) (ms.length - (j + 1))) = ot1 ms j) := Lib.hid rfl
          generalize xs.getD j 0 = q at *
          generalize su ms T0 T1 xs j = ys at *
          clear p0 hb1 hb2 hB
          go_wp2_with fail
          refine wp_region_at 12 0 (.cells #[.int .u64 0, .int .u64 0] 51) (.cells #[.int .u64 (ot0 ms j), .int .u64 (ot1 ms j)] 51) (by kernel_rfl) rfl rfl rfl (by kernel_rfl) rfl rfl (fun _ _ => by kernel_rfl) ?_
          simp only [Nat.reduceAdd, List.take_succ_cons, List.take_zero, List.drop_succ_cons, List.drop_zero]
          intro wa ha
          have e0 := cell_of_block (ha.block H3.out)
          have y0 := lt_of_block (ha.block H3.out)
          have JW := Lib.hid (masksIn_below JM.out ha)
          have hbw := cell_bw
          repeat (go_big_quiet_step (first
            | (go_at_call_of 97 (Value.slice (some ⟨b2, o2, none⟩) j cu); exact calls_bw (JA.out _ _ (masksIn_below JW.out (below_bw _ _))))
            | (go_at_call 97; exact calls_bw (JB.out _ (masksIn_below JW.out (below_bw _ _))))
            | (go_at_call 55; exact calls_bw (iJoin_below _ _ _ _ _))))
          rw [OT0.out, OT1.out]
          refine wpQuiet_nil ?_
          intro hx hhx wb hb
          refine wpQuiet_nil ?_
          refine ⟨?_, ?_⟩
          · intro w3 h3 hb3
            have f0 := cell_of_block hb3
            have f1 := free_of_block hb3
            go_simp
            exact ⟨(h3.setCell _ hhx).setCell _ hhx, block_setCell _ (block_setCell _ hb3)⟩
          intro w5 h5
          simp only [Act.put, List.setIfInBounds_toArray, List.set_cons_succ, List.set_cons_zero]
          repeat (go_big_quiet_step (fail))
          refine wpQuiet_nil ?_
          intro w9 h9 hb9
          have H9 := Lib.hid (Ab.block h9 H3.out)
          have O9 := Lib.hid (ownInts_kept OO.out h9)
          have B9 := Lib.hid (BB.out.trans (h9.mono BB.out.size))
          have c9 := cell_of_block hb9
          have g9 := cell_of_block H9.out
          have l9 := lt_of_block hb9
          have n9 := lt_of_block H9.out
          have s9 := B9.out.size
          clear e0 y0 ha hb h5 h9 hb9 hbw m3 y3 y1 d0
          have he := eq_mask
          generalize ot0 ms j = P0 at *
          generalize ot1 ms j = P1 at *
          cases hp : (P0 == T0 && P1 == T1)
          · have Y := Lib.hid (YE.out hp)
            have he3 : ∀ v : World, (Op.equalIn 10000 51 (.agg #[.int .u64 P0, .int .u64 P1]) (.agg #[.int .u64 T0, .int .u64 T1])).run Try.prog v = .ok false v := fun v => by rw [eq_mask, hp]
            clear hp he YE NO
            obtain ⟨i0, hi, hz0, hz1, hz2⟩ := i0
            go_wp2_with (at_builtin; refine wpList_append_own _ rfl _ _ 39 rfl w2.heap.size 2 i0 (.int .i64 0) 1 8 Try.underlying39 hi hz0 hz1 hz2 rfl (by decide) _ _ _ rfl (O9.out.alloc _) ⟨w9.heap.size, 0, none⟩ 1 1 [.int .i64 q] rfl rfl (u_one_new _ _ _) (fun x hx => by simp at hx; subst hx; rfl) (by unfold maxLen; omega) (by omega) (by simp; omega) ?_; intro v' w4 hown hgrow _; have P := Lib.hid (u_push hown); have G := Lib.hid hgrow; clear hown hgrow)
            refine ⟨⟨j + 1, hjl, by rw [Int.natCast_succ], by rw [Y.out]; exact P.out, ?_⟩, by (simp [intOf]) <;> omega⟩
            exact Below.grown (B9.out.alloc s9 _) G.out (by simp; omega) (fun k hk => u_lt O9.out k hk)
          · have Y := Lib.hid (NO.out hp)
            have he3 : ∀ v : World, (Op.equalIn 10000 51 (.agg #[.int .u64 P0, .int .u64 P1]) (.agg #[.int .u64 T0, .int .u64 T1])).run Try.prog v = .ok true v := fun v => by rw [eq_mask, hp]
            clear hp he YE NO
            go_wp2
            exact ⟨⟨j + 1, hjl, by rw [Int.natCast_succ], by rw [Y.out]; exact O9.out, B9.out⟩, by (simp [intOf]) <;> omega⟩
        · have e : j = xs.length := by omega
          subst e
          have hd : decide ((xs.length : Int) < (xs.length : Int)) = false := by simp
          clear hB
          go_wp2
          go_ret2
          exact ⟨_, rfl, u_weaken OO.out B2.out.size, Ab.trans B2.out BB.out⟩
  · have d2 : (C != 0) = true := by simp [h0]
    rw [suC_1 _ h0, suL_1 _ _ h0]
    go_enter Try.func46, Try.ntmps46
    go_wp2_with (go_at_call 95; refine I.out.mono ?_; rintro e w1 ⟨v, u, rfl, hO, hM, hB⟩; obtain ⟨av, cv, rfl, _⟩ := ownInts_in hO; obtain ⟨au, cu, rfl, _⟩ := ownMs_in hM; have B1 := Lib.hid (Ab.trans AA.out hB); clear hO hM hB)
    go_ret2
    exact ⟨_, rfl, u_nil _ _, Ab.trans B1.out (ab_new _ _)⟩
end Go.Proofs.Ytoippchkhknhpaa
