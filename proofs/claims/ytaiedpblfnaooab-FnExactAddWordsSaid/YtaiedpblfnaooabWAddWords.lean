/- AddWords answers, for every mix, every mask and every list of texts, as its model does. No conditions. -/
import Derived.Test.YtaiedpblfnaooabAdd
import Derived.Test.YtaiedpblfnaooabStrL
import Derived.Test.YtaiedpblfnaooabDriftC
namespace Go.Proofs.Ytaiedpblfnaooab
open Go.ChangeShapes Go.WideShapes Go.ChangeAt Go.RowKit

theorem toMask_ab (a b : Int) (w : World) : Calls Try.prog 33 #[.agg #[.int .u64 a, .int .u64 b]] w fun e w' => e = .returned (.agg #[.int .u64 a, .int .u64 b]) ∧ Below w.heap.size w w' :=
  (toMask_any a b w).mono fun e w' ⟨he, hw⟩ => ⟨he, by subst hw; exact (by repeat' (first | (with_reducible exact Below.refl _ _) | (with_reducible assumption) | (with_reducible refine below_drewN ?_ _) | (with_reducible refine Below.drew ?_) | (with_reducible refine below_new ?_ _) | (with_reducible refine below_next ?_ (by with_reducible assumption)) | (with_reducible refine Below.setCell ?_ ?_ _) | go_size))⟩
theorem addV_parts (c x y : Int) : ∃ u v k : Int, addV c x y = .tuple #[.agg #[.int .u64 u, .int .u64 v], .int .i64 k] := ⟨_, _, _, rfl⟩

set_option maxHeartbeats 1600000 in
theorem fnExactAddWords_walk (t z p : Int) (ht : I16 t) (hz : I16 z) (hp : I16 p) (a b : Int) (_ha : U64 a) (_hb : U64 b) (ad : Option Addr) (zs : List ByteArray) (cap : Nat) (w : World) (h : StrsIn w ad zs) (hf : Fit zs) (hl : zs.length ≤ maxLen) :
    Calls Try.prog 9 #[.agg #[.int .i16 t, .int .i16 z, .int .i16 p], .agg #[.int .u64 a, .int .u64 b], .slice ad zs.length cap] w fun e w' => e = .returned (.bool true) ∧ Below w.heap.size w w' := by
  unfold maxLen at hl
  clear _ha _hb
  have SZ := Lib.hid fun W hs => szStrs_any ad zs cap 1048576 W hs hf (by omega) (Nat.le_refl _)
  have H := Lib.hid h
  have hbs := block_alloc2 w (.cells #[.int .i16 t, .int .i16 z, .int .i16 p] 56) (.cells #[.int .u64 a, .int .u64 b] 48)
  have hVw : Below w.heap.size w ((w.alloc (.cells #[.int .i16 t, .int .i16 z, .int .i16 p] 56)).alloc (.cells #[.int .u64 a, .int .u64 b] 48)) := below_new (below_new (Below.refl _ _) _) _
  have HB := Lib.hid hbs
  have VW := Lib.hid hVw
  clear hbs hVw
  by_cases h1 : totS zs zs.length ≤ 1048576
  · have e1 : leftS zs 1048576 = 1048576 - (totS zs zs.length : Int) := leftS_yes h1
    have hn : zs.length ≤ 1048576 := Nat.le_trans (totS_len zs zs.length) h1
    rw [e1] at SZ
    obtain ⟨F, hF⟩ : ∃ F, mixOk t z p = true → StopF t z p F := by
      cases h : mixOk t z p
      · exact ⟨fun _ => 0, fun e => absurd e (by decide)⟩
      · obtain ⟨t0, z0, tz, p1, p8, pz⟩ := mix_inv h
        obtain ⟨F, hF⟩ := stopF_some (p := p) t0 (show 0 < z by omega) tz (by omega)
        exact ⟨F, fun _ => hF⟩
    have I := fun W x c hs => iAdd_any t z p ht hz F hF a b x zs c W hs hf (by omega)
    have S := fun W x c hs => sAdd_any t z p ht hz hp F hF a b x zs c W hs hf (by omega)
    obtain ⟨u, v, k, hx⟩ := addV_parts (askC (mixOk t z p) [(a, b)] zs 12) (AX a t z F zs) (AY b t z F zs)
    rw [hx] at I S
    have I := Lib.hid I
    have S := Lib.hid S
    have TO := Lib.hid fun W hs => toStrs_any ad zs cap W hs hn
    have EQ := Lib.hid fun x y c d W hx hy => eqStrs_same x y zs c d W hx hy (by omega)
    have d1 : decide ((1048576 : Int) - (totS zs zs.length : Int) < 0) = false := by simp; omega
    generalize totS zs zs.length = T at *
    clear hx e1 ht hz hp h hf hF hl
    have hbw := cell_bw
    go_enter Try.func9, Try.ntmps9
    go_upto_region 5 with (go_at_call 41; refine (SZ.out _ (strsIn_below H.out VW.out)).mono ?_; rintro e w1 ⟨rfl, rfl⟩)
    generalize hV : (w.alloc (.cells #[.int .i16 t, .int .i16 z, .int .i16 p] 56)).alloc (.cells #[.int .u64 a, .int .u64 b] 48) = V at *
    clear hV
    refine wp_region_drift_at 5 3 (fun x w => StrsIn w x zs) (fun x w w' h k => strsIn_below h k) (fun x => .slice x zs.length zs.length) (.cells #[.int .u64 0, .int .u64 0] 50) (.cells #[.int .u64 u, .int .u64 v] 50) (by kernel_rfl) rfl rfl rfl (by kernel_rfl) rfl rfl rfl rfl rfl (fun _ _ => by kernel_rfl) ?_
    simp only [Nat.reduceAdd, List.take_succ_cons, List.take_zero, List.drop_succ_cons, List.drop_zero]
    intro w1 h1
    have e0 := cell_of_block (h1.block HB.out.1)
    have e1 := cell_of_block (h1.block HB.out.2)
    have z0 := lt_of_block (h1.block HB.out.1)
    have z1 := lt_of_block (h1.block HB.out.2)
    repeat (go_big_quiet_step (first | (go_at_call 38; exact calls_bw (toMix_any _ _ _ _)) | (go_at_call 33; exact calls_bw (toMask_ab _ _ _))))
    refine wpQuiet_nil ?_
    clear e0 e1 z0 z1 h1 w1
    refine ⟨?_, ?_⟩
    · intro w2 h2
      go_simp
      simp only [Yld]
      refine ⟨trivial, (TO.out _ (strsIn_below H.out (VW.out.trans (Below.mono h2 VW.out.size)))).mono ?_⟩
      rintro e w3 ⟨v3, rfl, hv, hB⟩
      obtain ⟨x, rfl, hs⟩ := newStrs_in hv
      exact ⟨_, rfl, x, rfl, hB, hs⟩
    intro x
    refine ⟨.tuple #[.agg #[.int .u64 u, .int .u64 v], .int .i64 k], ?_, ?_⟩
    · intro w2 h2 hj
      have hj := Lib.hid hj
      go_simp
      first | exact S.out w2 x _ hj.out | exact ⟨trivial, S.out w2 x _ hj.out⟩ | exact ⟨rfl, S.out w2 x _ hj.out⟩
    intro w2 h2
    simp only [Act.put, List.setIfInBounds_toArray, List.set_cons_succ, List.set_cons_zero]
    repeat (go_big_quiet_step (fail))
    refine wpQuiet_nil ?_
    intro g hg
    refine ⟨?_, ?_⟩
    · intro w3 h3 hb3
      have f0 := cell_of_block hb3
      have f1 := free_of_block hb3
      simp only [List.setIfInBounds_toArray, List.set_cons_succ, List.set_cons_zero]
      go_simp
      exact ⟨(h3.setCell _ hg).setCell _ hg, block_setCell _ (block_setCell _ hb3)⟩
    intro w6 h6 hb6
    simp only [pureRun, pureVal, Act.put, Act.eval, List.setIfInBounds_toArray, List.set_cons_succ, List.set_cons_zero, Array.getD_eq_getD_getElem?, List.getElem?_toArray, List.getElem?_cons_succ, List.getElem?_cons_zero, Option.getD_some]
    have hb0 := h6.block HB.out.1
    have hb1 := h6.block HB.out.2
    have VW6 := VW.out.trans (Below.mono h6 VW.out.size)
    have VZ := VW.out.size
    clear h2 w2 h6 HB VW
    have HB := Lib.hid (And.intro hb0 hb1)
    have hb6 := Lib.hid hb6
    have VW := Lib.hid VW6
    clear hb0 hb1 VW6
    go_upto_region 7 with (go_at_call 43; refine (TO.out _ (strsIn_below H.out VW.out)).mono ?_; rintro e w7 ⟨v7, rfl, hv, hB⟩; obtain ⟨x7, rfl, hs⟩ := newStrs_in hv; have S7 := Lib.hid hs; have VW7 := Lib.hid (VW.out.trans (Below.mono hB VW.out.size)); have HB7 := Lib.hid (And.intro (Ab.block hB HB.out.1) (Ab.block hB HB.out.2)); have hb7 := Lib.hid (Ab.block hB hb6.out); clear hB hs hv)
    refine wp_region_at 9 0 (.cells #[.int .u64 0, .int .u64 0] 50) (.cells #[.int .u64 u, .int .u64 v] 50) (by kernel_rfl) rfl rfl rfl (by kernel_rfl) rfl rfl (fun _ _ => by kernel_rfl) ?_
    simp only [Nat.reduceAdd, List.take_succ_cons, List.take_zero, List.drop_succ_cons, List.drop_zero]
    intro w1 h1
    have e0 := cell_of_block (h1.block HB7.out.1)
    have e1 := cell_of_block (h1.block HB7.out.2)
    have z0 := lt_of_block (h1.block HB7.out.1)
    have z1 := lt_of_block (h1.block HB7.out.2)
    have I1 := Lib.hid fun q : Regrown => I.out (bw w1 q) x7 zs.length (strsIn_below (strsIn_below S7.out h1) (below_bw w1 q))
    repeat (go_big_quiet_step (first | (go_at_call 38; exact calls_bw (toMix_any _ _ _ _)) | (go_at_call 33; exact calls_bw (toMask_ab _ _ _)) | (go_at_call 44; exact calls_bw (I1.out _))))
    refine wpQuiet_nil ?_
    intro c hc w2 h2
    refine wpQuiet_nil ?_
    refine ⟨?_, ?_⟩
    · intro w3 h3 hb3
      have f0 := cell_of_block hb3
      have f1 := free_of_block hb3
      go_simp
      exact ⟨(h3.setCell _ hc).setCell _ hc, block_setCell _ (block_setCell _ hb3)⟩
    intro w5 h5
    simp only [Act.put, List.setIfInBounds_toArray, List.set_cons_succ, List.set_cons_zero]
    repeat (go_big_quiet_step (fail))
    refine wpQuiet_nil ?_
    intro w9 h9 hb9
    have b9 := Lib.hid (VW7.out.trans (Below.mono h9 VW7.out.size))
    have s9 := Lib.hid (strsIn_below S7.out h9)
    have hb8 := h9.block hb7.out
    clear h1 e0 e1 z0 z1 h2 h5 h9 I1 hbw
    clear w5 w2 w1
    have e0 := cell_of_block hb8
    have e1 := cell_of_block hb9
    have y0 := lt_of_block hb8
    have y1 := lt_of_block hb9
    have hb8 := Lib.hid hb8
    have hb9 := Lib.hid hb9
    go_wp2_with (first
      | (go_at_call 40; refine (eqMask_same _ _ _).mono ?_; rintro e wa ⟨rfl, hB⟩; have b10 := Lib.hid (b9.out.trans (Below.mono hB b9.out.size)); have s10 := Lib.hid (strsIn_below s9.out hB); clear hB)
      | (go_at_call 43; refine (TO.out _ (strsIn_below H.out b10.out)).mono ?_; rintro e wb ⟨vb, rfl, hv, hB⟩; obtain ⟨xb, rfl, hs⟩ := newStrs_in hv; have b11 := Lib.hid (b10.out.trans (Below.mono hB b10.out.size)); have s11 := Lib.hid (strsIn_below s10.out hB); have r11 := Lib.hid hs; clear hB hv hs)
      | (go_at_call 45; refine (EQ.out _ _ _ _ _ s11.out r11.out).mono ?_; rintro e wc ⟨rfl, hB⟩; have b12 := Lib.hid (b11.out.trans (Below.mono hB b11.out.size)); clear hB))
    all_goals go_returns
    all_goals exact ⟨rfl, b12.out⟩
  · have e1 : leftS zs 1048576 = -1 := leftS_no (Nat.le_refl _) (by omega)
    rw [e1] at SZ
    clear e1 ht hz hp h hf hl h1
    go_enter Try.func9, Try.ntmps9
    go_wp2_with (go_at_call 41; refine (SZ.out _ (strsIn_below H.out VW.out)).mono ?_; rintro e w1 ⟨rfl, rfl⟩)
    go_returns
    exact ⟨rfl, VW.out⟩
/-! ### The frame round the walk -/
section
set_option maxRecDepth 100000 in
theorem fnExactAddWords_lifted (os : Os) (started : os.Started) (H : Type) (enc : TypeId × Value → H) :
    ReturnsInHanded {} Try.checked os 9 .any (Rows.fnExactAddWordsSpec.pre6 enc Try.prog Try.f9 Rows.fnExactAddWordsRow.domain false) (Rows.fnExactAddWordsSpec.post enc Try.prog Try.f9 false true false false) := by
  refine returnsInHanded_of_change_sized (C := Try.checked) own started (by kernel_rfl) Try.func9
    (ChangeSpec.witness6 (enc := enc) (C := Try.checked) false ⟨#[], #[.agg #[.int .i16 0, .int .i16 0, .int .i16 0], .agg #[.int .u64 0, .int .u64 0], .slice none 0 0], []⟩ 8 (by kernel_rfl) (by kernel_rfl) (by kernel_rfl) (by kernel_rfl)) ?_
  intro W base args ds gs before hval hW _ hsz _
  have hW' := hW
  obtain ⟨p, q, hA, hV, rfl, _, _⟩ := hW
  obtain ⟨rfl, rfl⟩ := trodVars_none hV
  have hlt : ∀ x ∈ p, x.block < W.heap.size := fun x hx => by simpa using hW'.lt x (by simpa using hx)
  rw [Try.params9] at hA hval hsz
  obtain ⟨v0, vs0, d0, ds0, p0, q0, hargs, rfl, rfl, h0, r0⟩ := trodAll_cons hA
  obtain ⟨v1, vs1, d1, ds1, p1, q1, rfl, rfl, rfl, h1, r1⟩ := trodAll_cons r0
  obtain ⟨v2, vs2, d2, ds2, p2, q2, rfl, rfl, rfl, h2, r2⟩ := trodAll_cons r1
  obtain ⟨rfl, rfl, rfl⟩ := trodAll_nil r2
  obtain rfl : args = #[v0, v1, v2] := by cases args; simp_all
  obtain ⟨t0, z0, p0, rfl, ht0, hz0, hp0⟩ := open_mix (e := 23) Try.underlying56 (by kernel_rfl) (by kernel_rfl) (by kernel_rfl) (hval 0 56 v0 rfl rfl)
  obtain ⟨a1, b1, rfl, ha1, hb1⟩ := open_mask (e := 47) (by kernel_rfl) (by kernel_rfl) (by kernel_rfl) (by kernel_rfl) (hval 1 48 v1 rfl rfl)
  obtain ⟨a2, zs2, c2, rfl, hs2, hf2, hl2⟩ := open_strS (e := 9) (by kernel_rfl) (by kernel_rfl) (by kernel_rfl) (hval 2 63 v2 rfl rfl) h2
  refine (fnExactAddWords_walk t0 z0 p0 ht0 hz0 hp0 a1 b1 ha1 hb1 a2 zs2 c2 W hs2 hf2 hl2).mono fun e W' ⟨he, hb⟩ => ?_
  subst he
  exact ⟨_, rfl, law_post laidOut rfl Try.underlying4 (of_all (by kernel_rfl)) rfl hW' rfl rfl rfl hb⟩

theorem fnExactAddWords_over : Rows.fnExactAddWordsRow.holds Try.pinned (OpenSpec.ofChange Rows.fnExactAddWordsSpec) :=
  OpenClaim.holds_of_wide 9 Try.f9 rfl rfl rfl rfl rfl rfl rfl ⟨rfl, rfl, rfl, rfl, rfl⟩ rfl rfl rfl rfl rfl (by kernel_rfl) Try.func9 (by kernel_rfl)
    (of_decide_eq_true (by kernel_rfl)) (by unfold Func.isWrapper; rw [if_neg (of_decide_eq_false (by kernel_rfl))]; exact ⟨rfl, rfl⟩)
    (fun os started H enc _ => fnExactAddWords_lifted os started H enc)

/-- The statement. -/
theorem fnExactAddWords_holds : Rows.FnExactAddWordsSaid := fnExactAddWords_over
end
end Go.Proofs.Ytaiedpblfnaooab
