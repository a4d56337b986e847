/- Drops answers, for every mix, every mask and every list of texts, as its model does. No conditions. -/
import Derived.Test.YtoippchkhknhpaaDrp
import Derived.Test.YtoippchkhknhpaaStrL
import Derived.Test.YtoippchkhknhpaaMake1
import Derived.Deep.DeepCutAuto
namespace Go.Proofs.Ytoippchkhknhpaa
open Go.ChangeShapes Go.WideShapes Go.ChangeAt Go.RowKit

theorem toMask_ab (a b : Int) (w : World) : Calls Try.prog 33 #[.agg #[.int .u64 a, .int .u64 b]] w fun e w' => e = .returned (.agg #[.int .u64 a, .int .u64 b]) ∧ Below w.heap.size w w' :=
  (toMask_any a b w).mono fun e w' ⟨he, hw⟩ => ⟨he, by subst hw; exact (by repeat' (first | (with_reducible exact Below.refl _ _) | (with_reducible assumption) | (with_reducible refine below_drewN ?_ _) | (with_reducible refine Below.drew ?_) | (with_reducible refine below_new ?_ _) | (with_reducible refine below_next ?_ (by with_reducible assumption)) | (with_reducible refine Below.setCell ?_ ?_ _) | go_size))⟩
/-- The law's own boxes: the mix, the mask. -/
def Lb (w W : World) (t z p a b : Int) : Prop := W.heap[w.heap.size]? = some (.cells #[.int .i16 t, .int .i16 z, .int .i16 p] 24 (0, 0)) ∧ W.heap[w.heap.size + 1]? = some (.cells #[.int .u64 a, .int .u64 b] 48 (0, 0)) ∧ Below w.heap.size w W
theorem lb_start (w : World) (t z p a b : Int) : Lb w ((w.alloc (.cells #[.int .i16 t, .int .i16 z, .int .i16 p] 24)).alloc (.cells #[.int .u64 a, .int .u64 b] 48)) t z p a b := ⟨(block_alloc2 _ _ _).1, (block_alloc2 _ _ _).2, Ab.trans (ab_new _ _) (ab_new _ _)⟩
theorem lb_ab {w W W' : World} {t z p a b : Int} (h : Lb w W t z p a b) (hb : Ab W W') : Lb w W' t z p a b := ⟨Ab.block hb h.1, Ab.block hb h.2.1, h.2.2.trans (Below.mono hb h.2.2.size)⟩
theorem drpV_parts (c : Int) (q : Bool) : ∃ x k, drpV c q = .tuple #[.bool x, .int .i64 k] := ⟨_, _, rfl⟩

set_option maxRecDepth 100000 in
set_option maxHeartbeats 3200000 in
theorem fnExactDrops_walk (t z p : Int) (ht : I16 t) (hz : I16 z) (hp : I16 p) (a b : Int) (ha : U64 a) (hb : U64 b) (ad : Option Addr) (zs : List ByteArray) (cap : Nat) (w : World) (h : StrsIn w ad zs) (hf : Fit zs) (hl : zs.length ≤ maxLen) :
    Calls Try.prog 5 #[.agg #[.int .i16 t, .int .i16 z, .int .i16 p], .agg #[.int .u64 a, .int .u64 b], .slice ad zs.length cap] w fun e w' => e = .returned (.bool true) ∧ Below w.heap.size w w' := by
  unfold maxLen at hl
  have SZ := Lib.hid fun W hs => szStrs_any ad zs cap 1048576 W hs hf (by omega) (Nat.le_refl _)
  have H := Lib.hid h
  have B0 := Lib.hid (lb_start w t z p a b)
  by_cases h1 : totS zs zs.length ≤ 1048576
  · have e1 : leftS zs 1048576 = 1048576 - (totS zs zs.length : Int) := leftS_yes h1
    have hn1 : zs.length ≤ 1048576 := Nat.le_trans (totS_len zs zs.length) h1
    rw [e1] at SZ
    obtain ⟨F, hF⟩ : ∃ F, mixOk t z p = true → StopF t z p F := by
      cases h : mixOk t z p
      · exact ⟨fun _ => 0, fun e => absurd e (by decide)⟩
      · obtain ⟨t0, z0, tz, p1, p8, pz⟩ := mix_inv h
        obtain ⟨F, hF⟩ := stopF_some (p := p) t0 (show 0 < z by omega) tz (by omega)
        exact ⟨F, fun _ => hF⟩
    have I := fun W x c hs => iDrops_any t z p ht hz F hF a b x zs c W hs hf (by omega)
    have S := fun W x c hs => sDrops_any t z p ht hz hp F hF a b ha hb x zs c W hs hf (by omega)
    obtain ⟨q, k, hx⟩ := drpV_parts (askC (mixOk t z p) [(a, b)] zs 12) (drpB t z F a b zs)
    rw [hx] at I S
    have I := Lib.hid I
    have S := Lib.hid S
    have TO := Lib.hid fun W hs => toStrs_any ad zs cap W hs hn1
    have EQ := Lib.hid fun x y c d W hx hy => eqStrs_same x y zs c d W hx hy (by omega)
    have d1 : decide ((1048576 : Int) - (totS zs zs.length : Int) < 0) = false := by simp; omega
    have n2 : (k != k) = false := by simp
    have n3 : (q != q) = false := by simp
    generalize totS zs zs.length = T at *
    clear e1 ht hz hp h hf hF hl h1 hn1 ha hb hx
    go_enter Try.func5, Try.ntmps5
    go_upto_region 5 with (go_at_call 23; refine (SZ.out _ (strsIn_below H.out B0.out.2.2)).mono ?_; rintro e w1 ⟨rfl, rfl⟩)
    generalize (w.alloc (.cells #[.int .i16 t, .int .i16 z, .int .i16 p] 24)).alloc (.cells #[.int .u64 a, .int .u64 b] 48) = W0 at *
    refine wp_region_make1_at (Y := Unit) 5 0 (fun x W => StrsIn W x zs) (fun _ _ => True) (fun _ _ _ h hb => strsIn_below h hb) (fun _ _ _ _ _ => trivial) (fun x => .slice x zs.length zs.length) (fun _ => .tuple #[.bool q, .int .i64 k]) (by kernel_rfl) rfl rfl rfl (by kernel_rfl) rfl rfl () ?_
    simp only [Nat.reduceAdd, List.take_succ_cons, List.take_zero, List.drop_succ_cons, List.drop_zero]
    have hbw := cell_bw
    intro v1 hv1
    have e0 := cell_of_block (lb_ab B0.out hv1).1
    have e1 := cell_of_block (lb_ab B0.out hv1).2.1
    have z0 := lt_of_block (lb_ab B0.out hv1).1
    have z1 := lt_of_block (lb_ab B0.out hv1).2.1
    repeat (go_big_quiet_step (first | (go_at_call 15; exact calls_bw (toMix_any _ _ _ _)) | (go_at_call 33; exact calls_bw (toMask_ab _ _ _))))
    refine wpQuiet_nil ?_
    clear e0 e1 z0 z1
    refine ⟨?_, ?_⟩
    · intro v2 hv2
      go_simp
      simp only [Yld]
      refine ⟨trivial, (TO.out v2 (strsIn_below H.out (lb_ab B0.out hv2).2.2)).mono ?_⟩
      rintro e v3 ⟨v, rfl, hv, hB⟩
      obtain ⟨x, rfl, hs⟩ := newStrs_in hv
      exact ⟨_, rfl, x, rfl, hB, hs⟩
    intro x v2 hv2
    simp only [Act.put, List.setIfInBounds_toArray, List.set_cons_succ, List.set_cons_zero]
    refine wpQuiet_nil ?_
    refine ⟨?_, ?_⟩
    · intro v3 hv3 hx
      go_simp
      simp only [Yld]
      refine ⟨trivial, (S.out v3 x zs.length hx).mono ?_⟩
      rintro e v4 ⟨rfl, hb⟩
      first | exact ⟨_, rfl, rfl, hb⟩ | exact ⟨_, rfl, rfl, hb, trivial⟩
    intro _
    simp only [List.setIfInBounds_toArray, List.set_cons_succ, List.set_cons_zero]
    refine ⟨rfl, .tuple #[.bool q, .int .i64 k], fun _ => rfl, ?_⟩
    simp only [Act.put, List.setIfInBounds_toArray, List.set_cons_succ, List.set_cons_zero]
    refine ⟨rfl, .bool q, fun _ => rfl, ?_⟩
    simp only [Act.put, List.setIfInBounds_toArray, List.set_cons_succ, List.set_cons_zero]
    refine ⟨rfl, .int .i64 k, fun _ => rfl, ?_⟩
    simp only [Act.put, List.setIfInBounds_toArray, List.set_cons_succ, List.set_cons_zero]
    refine ⟨rfl, .bool q, fun _ => rfl, ?_⟩
    simp only [Act.put, List.setIfInBounds_toArray, List.set_cons_succ, List.set_cons_zero]
    refine ⟨rfl, .int .i64 k, fun _ => rfl, ?_⟩
    simp only [Act.put, List.setIfInBounds_toArray, List.set_cons_succ, List.set_cons_zero]
    intro w5 hw5 _ _
    have B5 := Lib.hid (lb_ab B0.out hw5)
    clear hw5 hv1 hv2
    go_wp2_with (go_at_call 25; refine (TO.out _ (strsIn_below H.out B5.out.2.2)).mono ?_; rintro e w6 ⟨v6, rfl, hv, hB⟩; obtain ⟨x6, rfl, hs⟩ := newStrs_in hv; have X6 := Lib.hid hs; have B6 := Lib.hid (lb_ab B5.out hB); clear hB hv hs)
    have e0 := cell_of_block B6.out.1
    have e1 := cell_of_block B6.out.2.1
    have z0 := lt_of_block B6.out.1
    have z1 := lt_of_block B6.out.2.1
    have I2 := Lib.hid fun q : Regrown => I.out (bw w6 q) x6 zs.length (strsIn_below X6.out (below_bw w6 q))
    refine region_bw (by kernel_rfl) (by kernel_rfl) ?_
    repeat (go_big_quiet_step (first | (go_at_call 15; exact calls_bw (toMix_any _ _ _ _)) | (go_at_call 33; exact calls_bw (toMask_ab _ _ _)) | (go_at_call 34; exact calls_bw (I2.out _))))
    refine wpQuiet_nil ?_; intro wq hq; replace hq := below_of_bw hq; obtain ⟨qc, qf, qz⟩ := bcell hq
    have B7 := Lib.hid (lb_ab B6.out hq)
    have X7 := Lib.hid (strsIn_below X6.out hq)
    clear hbw e0 e1 z0 z1 hq qc qf qz
    go_wp2_with (first
      | (go_at_call 25; refine (TO.out _ (strsIn_below H.out B7.out.2.2)).mono ?_; rintro e w8 ⟨v8, rfl, hv, hB⟩; obtain ⟨x8, rfl, hs⟩ := newStrs_in hv; have Z8 := Lib.hid hs; have X8 := Lib.hid (strsIn_below X7.out hB); have B8 := Lib.hid (lb_ab B7.out hB); clear hB hv hs)
      | (go_at_call 28; refine (EQ.out _ _ _ _ _ X8.out Z8.out).mono ?_; rintro e w9 ⟨rfl, hB⟩; have B9 := Lib.hid (lb_ab B8.out hB); clear hB))
    all_goals go_returns
    all_goals exact ⟨rfl, B9.out.2.2⟩
  · have e1 : leftS zs 1048576 = -1 := leftS_no (Nat.le_refl _) (by omega)
    rw [e1] at SZ
    clear e1 ht hz hp h hf hl h1 ha hb
    go_enter Try.func5, Try.ntmps5
    go_wp2_with (go_at_call 23; refine (SZ.out _ (strsIn_below H.out B0.out.2.2)).mono ?_; rintro e w1 ⟨rfl, rfl⟩)
    go_returns
    exact ⟨rfl, B0.out.2.2⟩
/-! ### The frame round the walk -/
section
set_option maxRecDepth 100000 in
theorem fnExactDrops_lifted (os : Os) (started : os.Started) (H : Type) (enc : TypeId × Value → H) :
    ReturnsInHanded {} Try.checked os 5 .any (Rows.fnExactDropsSpec.pre6 enc Try.prog Try.f5 Rows.fnExactDropsRow.domain false) (Rows.fnExactDropsSpec.post enc Try.prog Try.f5 false true false false) := by
  refine returnsInHanded_of_change_sized (C := Try.checked) own started (by kernel_rfl) Try.func5
    (ChangeSpec.witness6 (enc := enc) (C := Try.checked) false ⟨#[], #[.agg #[.int .i16 0, .int .i16 0, .int .i16 0], .agg #[.int .u64 0, .int .u64 0], .slice none 0 0], []⟩ 8 (by kernel_rfl) (by kernel_rfl) (by kernel_rfl) (by kernel_rfl)) ?_
  intro W base args ds gs before hval hW _ hsz _
  have hW' := hW
  obtain ⟨p, q, hA, hV, rfl, _, _⟩ := hW
  obtain ⟨rfl, rfl⟩ := trodVars_none hV
  have hlt : ∀ x ∈ p, x.block < W.heap.size := fun x hx => by simpa using hW'.lt x (by simpa using hx)
  rw [Try.params5] at hA hval hsz
  obtain ⟨v0, vs0, d0, ds0, p0, q0, hargs, rfl, rfl, h0, r0⟩ := trodAll_cons hA
  obtain ⟨v1, vs1, d1, ds1, p1, q1, rfl, rfl, rfl, h1, r1⟩ := trodAll_cons r0
  obtain ⟨v2, vs2, d2, ds2, p2, q2, rfl, rfl, rfl, h2, r2⟩ := trodAll_cons r1
  obtain ⟨rfl, rfl, rfl⟩ := trodAll_nil r2
  obtain rfl : args = #[v0, v1, v2] := by cases args; simp_all
  obtain ⟨t0, z0, p0, rfl, ht0, hz0, hp0⟩ := open_mix (e := 22) Try.underlying24 (by kernel_rfl) (by kernel_rfl) (by kernel_rfl) (hval 0 24 v0 rfl rfl)
  obtain ⟨a1, b1, rfl, ha1, hb1⟩ := open_mask (e := 47) (by kernel_rfl) (by kernel_rfl) (by kernel_rfl) (by kernel_rfl) (hval 1 48 v1 rfl rfl)
  obtain ⟨a2, zs2, c2, rfl, hs2, hf2, hl2⟩ := open_strS (e := 9) (by kernel_rfl) (by kernel_rfl) (by kernel_rfl) (hval 2 37 v2 rfl rfl) h2
  refine (fnExactDrops_walk t0 z0 p0 ht0 hz0 hp0 a1 b1 ha1 hb1 a2 zs2 c2 W hs2 hf2 hl2).mono fun e W' ⟨he, hb⟩ => ?_
  subst he
  exact ⟨_, rfl, law_post laidOut rfl Try.underlying4 (of_all (by kernel_rfl)) rfl hW' rfl rfl rfl hb⟩

theorem fnExactDrops_over : Rows.fnExactDropsRow.holds Try.pinned (OpenSpec.ofChange Rows.fnExactDropsSpec) :=
  OpenClaim.holds_of_wide 5 Try.f5 rfl rfl rfl rfl rfl rfl rfl ⟨rfl, rfl, rfl, rfl, rfl⟩ rfl rfl rfl rfl rfl (by kernel_rfl) Try.func5 (by kernel_rfl)
    (of_decide_eq_true (by kernel_rfl)) (by unfold Func.isWrapper; rw [if_neg (of_decide_eq_false (by kernel_rfl))]; exact ⟨rfl, rfl⟩)
    (fun os started H enc _ => fnExactDrops_lifted os started H enc)

/-- The statement. -/
theorem fnExactDrops_holds : Rows.FnExactDropsSaid := fnExactDrops_over
end
end Go.Proofs.Ytoippchkhknhpaa
