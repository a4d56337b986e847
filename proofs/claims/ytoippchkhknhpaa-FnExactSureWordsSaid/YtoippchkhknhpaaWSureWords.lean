/- SureWords answers, for every mix, every mask and every vocabulary, as its model does; its answer is memory of its own. No conditions. -/
import Derived.Test.YtoippchkhknhpaaSuS
import Derived.Test.YtoippchkhknhpaaMarkS
import Derived.Test.YtoippchkhknhpaaStrL
import Derived.Test.YtoippchkhknhpaaMake1
import Derived.Deep.DeepCutAuto
namespace Go.Proofs.Ytoippchkhknhpaa
open Go.ChangeShapes Go.WideShapes Go.ChangeAt Go.RowKit

theorem intsIn_up {B : Nat} {w w' : World} {a : Option Addr} {zs : List Int} (h : IntsIn w a zs) (hB : w.heap.size ≤ B) (hb : Below B w w') : IntsIn w' a zs := fun i hi => by
  obtain ⟨b, off, ha, hlt, hc⟩ := h i hi
  exact ⟨b, off, ha, Nat.lt_of_lt_of_le hlt hb.size, (hb.cell (Nat.lt_of_lt_of_le hlt hB)).trans hc⟩
theorem toMask_ab (a b : Int) (w : World) : Calls Try.prog 33 #[.agg #[.int .u64 a, .int .u64 b]] w fun e w' => e = .returned (.agg #[.int .u64 a, .int .u64 b]) ∧ Below w.heap.size w w' :=
  (toMask_any a b w).mono fun e w' ⟨he, hw⟩ => ⟨he, by subst hw; exact (by repeat' (first | (with_reducible exact Below.refl _ _) | (with_reducible assumption) | (with_reducible refine below_drewN ?_ _) | (with_reducible refine Below.drew ?_) | (with_reducible refine below_new ?_ _) | (with_reducible refine below_next ?_ (by with_reducible assumption)) | (with_reducible refine Below.setCell ?_ ?_ _) | go_size))⟩
theorem ch_next {B : Nat} {w a b : World} (h : Below B w a) (hB : B ≤ w.heap.size) (k : Below a.heap.size a b) : Below B w b := h.trans (Below.mono k (Nat.le_trans hB h.size))
theorem wr_strs {w : World} {g : Nat} {zs : List ByteArray} (h : ∀ i, i < zs.length → w.cell? ⟨g, i, none⟩ = some (.string (zs.getD i ⟨#[]⟩)) ∧ w.frozen? ⟨g, i, none⟩ = false) : Wb w g zs.length := ⟨fun j hj => ⟨_, (h j hj).1⟩, fun j hj => (h j hj).2⟩
theorem strs_in {w : World} {g : Nat} {zs : List ByteArray} (hg : g < w.heap.size) (h : ∀ i, i < zs.length → w.cell? ⟨g, i, none⟩ = some (.string (zs.getD i ⟨#[]⟩)) ∧ w.frozen? ⟨g, i, none⟩ = false) : StrsIn w (some ⟨g, 0, none⟩) zs := fun i hi => ⟨g, 0, rfl, hg, by rw [Nat.zero_add]; exact (h i hi).1⟩

theorem suL_len {n : Nat} {ys : List Int} (c : Int) (en : Bool) (h : ys.length ≤ n) : (suL c en ys).length ≤ n := by
  unfold suL
  split
  · split
    · exact h
    · simp
  · simp
/-- The law's own boxes: the mix, the mask. -/
def Lb (w W : World) (t z p a b : Int) : Prop := W.heap[w.heap.size]? = some (.cells #[.int .i16 t, .int .i16 z, .int .i16 p] 24 (0, 0)) ∧ W.heap[w.heap.size + 1]? = some (.cells #[.int .u64 a, .int .u64 b] 48 (0, 0)) ∧ Below w.heap.size w W
theorem lb_start (w : World) (t z p a b : Int) : Lb w ((w.alloc (.cells #[.int .i16 t, .int .i16 z, .int .i16 p] 24)).alloc (.cells #[.int .u64 a, .int .u64 b] 48)) t z p a b := ⟨(block_alloc2 _ _ _).1, (block_alloc2 _ _ _).2, Ab.trans (ab_new _ _) (ab_new _ _)⟩
theorem lb_ab {w W W' : World} {t z p a b : Int} (h : Lb w W t z p a b) (hb : Ab W W') : Lb w W' t z p a b := ⟨Ab.block hb h.1, Ab.block hb h.2.1, h.2.2.trans (Below.mono hb h.2.2.size)⟩

set_option maxRecDepth 100000 in
set_option maxHeartbeats 3200000 in
theorem fnExactSureWords_walk (t z p : Int) (ht : I16 t) (hz : I16 z) (hp : I16 p) (a b : Int) (ha : U64 a) (hb : U64 b) (ad : Option Addr) (zs : List ByteArray) (cap : Nat) (w : World) (h : StrsIn w ad zs) (hf : Fit zs) (hl : zs.length ≤ maxLen) :
    Calls Try.prog 10 #[.agg #[.int .i16 t, .int .i16 z, .int .i16 p], .agg #[.int .u64 a, .int .u64 b], .slice ad zs.length cap] w fun e w' => e = .returned (.bool true) ∧ Below w.heap.size w w' := by
  unfold maxLen at hl
  have SZ := Lib.hid fun W hs => szStrs_any ad zs cap 1048576 W hs hf (by omega) (Nat.le_refl _)
  have H := Lib.hid h
  have B0 := Lib.hid (lb_start w t z p a b)
  by_cases h1 : totS zs zs.length ≤ 1048576
  · have e1 : leftS zs 1048576 = 1048576 - (totS zs zs.length : Int) := leftS_yes h1
    have hn1 : zs.length ≤ 1048576 := Nat.le_trans (totS_len zs zs.length) h1
    rw [e1] at SZ
    obtain ⟨F, hF⟩ : ∃ F, mixOk t z p = true → StopF t z p F := by
      cases h : mixOk t z p
      · exact ⟨fun _ => 0, fun e => absurd e (by decide)⟩
      · obtain ⟨t0, z0, tz, p1, p8, pz⟩ := mix_inv h
        obtain ⟨F, hF⟩ := stopF_some (p := p) t0 (show 0 < z by omega) tz (by omega)
        exact ⟨F, fun _ => hF⟩
    have I := fun W x c hs => iSure_any t z p ht hz F hF a b x zs c W hs hf (by omega) _ rfl _ _ _ _ rfl rfl rfl rfl
    have S := fun W x c hs => sSure_any t z p ht hz hp F hF a b ha hb x zs c W hs hf (by omega) _ rfl _ _ _ _ rfl rfl rfl rfl
    have hxl : (suL (askC (mixOk t z p) [(a, b)] zs 40) (enB (hm (wi t z F a b) (hwP t z F) zs zs.length) (bits .and .u64 a (mp0 t z)) (bits .and .u64 b (mp1 t z))) (su (hm (wi t z F a b) (hwP t z F) zs zs.length) (bits .and .u64 a (mp0 t z)) (bits .and .u64 b (mp1 t z)) (may (wi t z F a b) zs zs.length) (may (wi t z F a b) zs zs.length).length)).length ≤ zs.length := suL_len _ _ (Nat.le_trans (su_len _ _ _ _ _) (may_len _ _ _))
    generalize suL (askC (mixOk t z p) [(a, b)] zs 40) (enB (hm (wi t z F a b) (hwP t z F) zs zs.length) (bits .and .u64 a (mp0 t z)) (bits .and .u64 b (mp1 t z))) (su (hm (wi t z F a b) (hwP t z F) zs zs.length) (bits .and .u64 a (mp0 t z)) (bits .and .u64 b (mp1 t z)) (may (wi t z F a b) zs zs.length) (may (wi t z F a b) zs zs.length).length) = xs at *
    generalize suC (askC (mixOk t z p) [(a, b)] zs 40) (enB (hm (wi t z F a b) (hwP t z F) zs zs.length) (bits .and .u64 a (mp0 t z)) (bits .and .u64 b (mp1 t z))) = cd at *
    have I := Lib.hid I
    have S := Lib.hid S
    have TO := Lib.hid fun W hs => toStrs_any ad zs cap W hs hn1
    have EQ := Lib.hid fun x y c d W hx hy => eqStrs_same x y zs c d W hx hy (by omega)
    have d1 : decide ((1048576 : Int) - (totS zs zs.length : Int) < 0) = false := by simp; omega
    have hn : xs.length ≤ 17592186044404 := by omega
    have hk : 1 + zs.length ≤ 4000000 := by omega
    have MK := fun g W hW hg => markStrs_any zs.length g 1 zs.length W hW hg hk
    generalize 1 + zs.length = kk at *
    have MK := Lib.hid MK
    have k0 : decide ((kk : Int) < 0) = false := by simp
    have n0 : decide ((1 : Int) + (xs.length : Int) < 0) = false := by simp; omega
    have n3 : ((1 : Int) + (xs.length : Int) != (1 : Int) + (xs.length : Int)) = false := by simp
    have n2 : (cd != cd) = false := by simp
    generalize totS zs zs.length = T at *
    clear e1 ht hz hp h hf hF hl h1 hk hn1 hxl ha hb
    go_enter Try.func10, Try.ntmps10
    go_upto_region 5 with (go_at_call 23; refine (SZ.out _ (strsIn_below H.out B0.out.2.2)).mono ?_; rintro e w1 ⟨rfl, rfl⟩)
    generalize (w.alloc (.cells #[.int .i16 t, .int .i16 z, .int .i16 p] 24)).alloc (.cells #[.int .u64 a, .int .u64 b] 48) = W0 at *
    refine wp_region_make1_at (Y := Option Addr × Nat) 5 0 (fun x W => StrsIn W x zs) (fun y W => IntsIn W y.1 xs) (fun _ _ _ h hb => strsIn_below h hb) (fun _ _ _ h hb => intsIn_below h hb) (fun x => .slice x zs.length zs.length) (fun y => .tuple #[.slice y.1 xs.length y.2, .int .i64 cd]) (by kernel_rfl) rfl rfl rfl (by kernel_rfl) rfl rfl (none, 0) ?_
    simp only [Nat.reduceAdd, List.take_succ_cons, List.take_zero, List.drop_succ_cons, List.drop_zero]
    have hbw := cell_bw
    intro v1 hv1
    have e0 := cell_of_block (lb_ab B0.out hv1).1
    have e1 := cell_of_block (lb_ab B0.out hv1).2.1
    have z0 := lt_of_block (lb_ab B0.out hv1).1
    have z1 := lt_of_block (lb_ab B0.out hv1).2.1
    repeat (go_big_quiet_step (first | (go_at_call 15; exact calls_bw (toMix_any _ _ _ _)) | (go_at_call 33; exact calls_bw (toMask_ab _ _ _))))
    refine wpQuiet_nil ?_
    clear e0 e1 z0 z1
    refine ⟨?_, ?_⟩
    · intro v2 hv2
      go_simp
      simp only [Yld]
      refine ⟨trivial, (TO.out v2 (strsIn_below H.out (lb_ab B0.out hv2).2.2)).mono ?_⟩
      rintro e v3 ⟨v, rfl, hv, hB⟩
      obtain ⟨x, rfl, hs⟩ := newStrs_in hv
      exact ⟨_, rfl, x, rfl, hB, hs⟩
    intro x v2 hv2
    simp only [Act.put, List.setIfInBounds_toArray, List.set_cons_succ, List.set_cons_zero]
    refine wpQuiet_nil ?_
    refine ⟨?_, ?_⟩
    · intro v3 hv3 hx
      go_simp
      simp only [Yld]
      refine ⟨trivial, (S.out v3 x zs.length hx).mono ?_⟩
      rintro e v4 ⟨v, rfl, hO, hb⟩
      obtain ⟨ai, ci, rfl, hi⟩ := ownInts_in hO
      exact ⟨_, rfl, ai, ⟨ci, rfl⟩, hb, hi⟩
    rintro ⟨ay, cy⟩
    simp only [List.setIfInBounds_toArray, List.set_cons_succ, List.set_cons_zero]
    refine ⟨rfl, _, fun _ => rfl, ?_⟩
    simp only [Act.put, List.setIfInBounds_toArray, List.set_cons_succ, List.set_cons_zero]
    refine ⟨rfl, _, fun _ => rfl, ?_⟩
    simp only [Act.put, List.setIfInBounds_toArray, List.set_cons_succ, List.set_cons_zero]
    refine ⟨rfl, _, fun _ => rfl, ?_⟩
    simp only [Act.put, List.setIfInBounds_toArray, List.set_cons_succ, List.set_cons_zero]
    refine ⟨rfl, _, fun _ => rfl, ?_⟩
    simp only [Act.put, List.setIfInBounds_toArray, List.set_cons_succ, List.set_cons_zero]
    refine ⟨rfl, _, fun _ => rfl, ?_⟩
    simp only [Act.put, List.setIfInBounds_toArray, List.set_cons_succ, List.set_cons_zero]
    intro w5 hw5 _ hy
    have B5 := Lib.hid (lb_ab B0.out hw5)
    have S5 := Lib.hid hy
    clear hw5 hv1 hv2 hy
    go_upto_region 7 with (go_at_call 25; refine (TO.out _ (strsIn_below H.out B5.out.2.2)).mono ?_; rintro e w6 ⟨v6, rfl, ⟨g6, rfl, hg6, hl6, hs6⟩, hB⟩; have C6 := Lib.hid hB; have G6 := Lib.hid hg6; have L6 := Lib.hid hl6; have X6 := Lib.hid (strs_in hl6 hs6); have W6 := Lib.hid (wr_strs hs6); have B6 := Lib.hid (lb_ab B5.out hB); clear hB hg6 hl6 hs6)
    refine wp_region_make1_at (Y := Option Addr × Nat) 4 0 (fun _ _ => True) (fun y W => OwnInts w6.heap.size xs (.slice y.1 xs.length y.2) W) (fun _ _ _ _ _ => trivial) (fun _ _ _ h hb => ownInts_kept h hb) (fun _ => .slice (some ⟨g6, 0, none⟩) zs.length zs.length) (fun y => .tuple #[.slice y.1 xs.length y.2, .int .i64 cd]) (by kernel_rfl) rfl rfl rfl (by kernel_rfl) rfl rfl (none, 0) ?_
    simp only [Nat.reduceAdd, List.take_succ_cons, List.take_zero, List.drop_succ_cons, List.drop_zero]
    intro v1 hv1
    have e0 := cell_of_block (lb_ab B6.out hv1).1
    have e1 := cell_of_block (lb_ab B6.out hv1).2.1
    have z0 := lt_of_block (lb_ab B6.out hv1).1
    have z1 := lt_of_block (lb_ab B6.out hv1).2.1
    repeat (go_big_quiet_step (first | (go_at_call 15; exact calls_bw (toMix_any _ _ _ _)) | (go_at_call 33; exact calls_bw (toMask_ab _ _ _))))
    refine wpQuiet_nil ?_
    clear e0 e1 z0 z1
    refine ⟨?_, ?_⟩
    · intro v2 hv2
      go_simp
      simp only [Yld]
      exact ⟨trivial, Below.refl _ _⟩
    intro x7 v2 hv2
    simp only [Act.put, List.setIfInBounds_toArray, List.set_cons_succ, List.set_cons_zero]
    refine wpQuiet_nil ?_
    refine ⟨?_, ?_⟩
    · intro v3 hv3 _
      go_simp
      simp only [Yld]
      refine ⟨trivial, (I.out v3 (some ⟨g6, 0, none⟩) zs.length (strsIn_below X6.out hv3)).mono ?_⟩
      rintro e v4 ⟨v, rfl, hO, hb⟩
      obtain ⟨ai, ci, rfl, _⟩ := ownInts_in hO
      exact ⟨_, rfl, ai, ci, rfl, hb, u_weaken hO hv3.size⟩
    rintro ⟨a8, c8⟩
    simp only [List.setIfInBounds_toArray, List.set_cons_succ, List.set_cons_zero]
    refine ⟨rfl, _, fun _ => rfl, ?_⟩
    simp only [Act.put, List.setIfInBounds_toArray, List.set_cons_succ, List.set_cons_zero]
    refine ⟨rfl, _, fun _ => rfl, ?_⟩
    simp only [Act.put, List.setIfInBounds_toArray, List.set_cons_succ, List.set_cons_zero]
    refine ⟨rfl, _, fun _ => rfl, ?_⟩
    simp only [Act.put, List.setIfInBounds_toArray, List.set_cons_succ, List.set_cons_zero]
    refine ⟨rfl, _, fun _ => rfl, ?_⟩
    simp only [Act.put, List.setIfInBounds_toArray, List.set_cons_succ, List.set_cons_zero]
    refine ⟨rfl, _, fun _ => rfl, ?_⟩
    simp only [Act.put, List.setIfInBounds_toArray, List.set_cons_succ, List.set_cons_zero]
    intro w8 hw8 _ hy
    have C8 := Lib.hid (ch_next C6.out (Nat.le_refl _) hw8)
    have D8 := Lib.hid hw8
    have O8 := Lib.hid hy
    have X8 := Lib.hid (strsIn_below X6.out hw8)
    clear hw8 hv1 hv2 hy
    have tk1 : True := trivial
    have tk2 : True := trivial
    have tk3 : True := trivial
    have tk4 : True := trivial
    have tk5 : True := trivial
    have tk6 : True := trivial
    have tk7 : True := trivial
    go_upto_region 24 with (first
      | (go_at_call 27; have _t := tk1; clear _t tk1; have hx := O8.out; obtain ⟨_, _, hv, hi⟩ := ownInts_in hx; cases hv; refine (eqInts_same _ _ _ _ _ _ hi (intsIn_up S5.out (Nat.le_refl _) C8.out) hn).mono ?_; rintro e w9 ⟨rfl, hB⟩; have C9 := Lib.hid (ch_next C8.out (Nat.le_refl _) hB); have D9 := Lib.hid (ch_next D8.out (Nat.le_refl _) hB); have X9 := Lib.hid (strsIn_below X8.out hB); have O9 := Lib.hid (ownInts_kept O8.out hB); clear hB hx hi)
      | (go_at_call 25; have _t := tk2; clear _t tk2; refine (TO.out _ (strsIn_below H.out (lb_ab B5.out C9.out).2.2)).mono ?_; rintro e w10 ⟨v10, rfl, hv, hB⟩; obtain ⟨x10, rfl, hs⟩ := newStrs_in hv; have Z10 := Lib.hid hs; have C10 := Lib.hid (ch_next C9.out (Nat.le_refl _) hB); have D10 := Lib.hid (ch_next D9.out (Nat.le_refl _) hB); have X10 := Lib.hid (strsIn_below X9.out hB); have O10 := Lib.hid (ownInts_kept O9.out hB); clear hB hs hv)
      | (go_at_call 28; have _t := tk3; clear _t tk3; refine (EQ.out _ _ _ _ _ X10.out Z10.out).mono ?_; rintro e w11 ⟨rfl, hB⟩; have C11 := Lib.hid (ch_next C10.out (Nat.le_refl _) hB); have D11 := Lib.hid (ch_next D10.out (Nat.le_refl _) hB); have O11 := Lib.hid (ownInts_kept O10.out hB); clear hB)
      | (go_at_call 29; have _t := tk4; clear _t tk4; refine (MK.out _ _ (W6.out.below D11.out L6.out) (Nat.lt_of_lt_of_le L6.out D11.out.size)).mono ?_; rintro e w12 ⟨rfl, hO⟩; have O12 := Lib.hid (own_oth O11.out hO L6.out); have C12 := Lib.hid (C11.out.trans (Below.mono (hO.below (Nat.le_of_lt (Nat.lt_of_lt_of_le L6.out D11.out.size))) G6.out)); clear hO)
      | (go_at_call 27; have _t := tk5; clear _t tk5; have hx := O12.out; obtain ⟨_, _, hv, hi⟩ := ownInts_in hx; cases hv; refine (eqInts_same _ _ _ _ _ _ hi (intsIn_up S5.out (Nat.le_refl _) C12.out) hn).mono ?_; rintro e w13 ⟨rfl, hB⟩; have C13 := Lib.hid (ch_next C12.out (Nat.le_refl _) hB); have O13 := Lib.hid (ownInts_kept O12.out hB); clear hB hx hi)
      | (go_at_call 30; have _t := tk6; clear _t tk6; refine (markInts_any _ _ _ _ _ O13.out hn (by omega) (by omega)).mono ?_; rintro e w14 ⟨rfl, hO, hB⟩; obtain ⟨am, cm, hv, hi⟩ := ownInts_in hO; rw [marks_len] at hv; cases hv; have M14 := Lib.hid hi; have C14 := Lib.hid (C13.out.trans (hB.mono C6.out.size)); clear hO hB hi)
      | (go_at_call 31; have _t := tk7; clear _t tk7; refine (heldInts_any _ _ _ _ _ M14.out hn (by omega) (by omega)).mono ?_; rintro e wh ⟨rfl, rfl⟩))
    have B14 := Lib.hid (lb_ab B5.out C14.out)
    refine wp_region_make1_at (Y := Option Addr × Nat) 5 0 (fun x W => StrsIn W x zs) (fun y W => IntsIn W y.1 xs) (fun _ _ _ h hb => strsIn_below h hb) (fun _ _ _ h hb => intsIn_below h hb) (fun x => .slice x zs.length zs.length) (fun y => .tuple #[.slice y.1 xs.length y.2, .int .i64 cd]) (by kernel_rfl) rfl rfl rfl (by kernel_rfl) rfl rfl (none, 0) ?_
    simp only [Nat.reduceAdd, List.take_succ_cons, List.take_zero, List.drop_succ_cons, List.drop_zero]
    intro v1 hv1
    have e0 := cell_of_block (lb_ab B14.out hv1).1
    have e1 := cell_of_block (lb_ab B14.out hv1).2.1
    have z0 := lt_of_block (lb_ab B14.out hv1).1
    have z1 := lt_of_block (lb_ab B14.out hv1).2.1
    repeat (go_big_quiet_step (first | (go_at_call 15; exact calls_bw (toMix_any _ _ _ _)) | (go_at_call 33; exact calls_bw (toMask_ab _ _ _))))
    refine wpQuiet_nil ?_
    clear e0 e1 z0 z1
    refine ⟨?_, ?_⟩
    · intro v2 hv2
      go_simp
      simp only [Yld]
      refine ⟨trivial, (TO.out v2 (strsIn_below H.out (lb_ab B14.out hv2).2.2)).mono ?_⟩
      rintro e v3 ⟨v, rfl, hv, hB⟩
      obtain ⟨x, rfl, hs⟩ := newStrs_in hv
      exact ⟨_, rfl, x, rfl, hB, hs⟩
    intro x v2 hv2
    simp only [Act.put, List.setIfInBounds_toArray, List.set_cons_succ, List.set_cons_zero]
    refine wpQuiet_nil ?_
    refine ⟨?_, ?_⟩
    · intro v3 hv3 hx
      go_simp
      simp only [Yld]
      refine ⟨trivial, (I.out v3 x zs.length hx).mono ?_⟩
      rintro e v4 ⟨v, rfl, hO, hb⟩
      obtain ⟨ai, ci, rfl, hi⟩ := ownInts_in hO
      exact ⟨_, rfl, ai, ⟨ci, rfl⟩, hb, hi⟩
    rintro ⟨az, cz⟩
    simp only [List.setIfInBounds_toArray, List.set_cons_succ, List.set_cons_zero]
    refine ⟨rfl, _, fun _ => rfl, ?_⟩
    simp only [Act.put, List.setIfInBounds_toArray, List.set_cons_succ, List.set_cons_zero]
    refine ⟨rfl, _, fun _ => rfl, ?_⟩
    simp only [Act.put, List.setIfInBounds_toArray, List.set_cons_succ, List.set_cons_zero]
    refine ⟨rfl, _, fun _ => rfl, ?_⟩
    simp only [Act.put, List.setIfInBounds_toArray, List.set_cons_succ, List.set_cons_zero]
    refine ⟨rfl, _, fun _ => rfl, ?_⟩
    simp only [Act.put, List.setIfInBounds_toArray, List.set_cons_succ, List.set_cons_zero]
    refine ⟨rfl, _, fun _ => rfl, ?_⟩
    simp only [Act.put, List.setIfInBounds_toArray, List.set_cons_succ, List.set_cons_zero]
    intro w15 hw15 _ hy
    have C15 := Lib.hid (ch_next C14.out (Nat.le_refl _) hw15)
    have S15 := Lib.hid hy
    have M15 := Lib.hid (intsIn_below M14.out hw15)
    clear hw15 hv1 hv2 hbw hy
    go_wp2_with (first
      | (go_at_call 27; refine (eqInts_same _ _ _ _ _ _ S15.out (intsIn_up S5.out (Nat.le_refl _) C15.out) hn).mono ?_; rintro e w16 ⟨rfl, hB⟩; have C16 := Lib.hid (ch_next C15.out (Nat.le_refl _) hB); have M16 := Lib.hid (intsIn_below M15.out hB); clear hB)
      | (go_at_call 31; refine (heldInts_any _ _ _ _ _ M16.out hn (by omega) (by omega)).mono ?_; rintro e wh ⟨rfl, rfl⟩))
    all_goals go_returns
    all_goals exact ⟨rfl, (lb_ab B5.out C16.out).2.2⟩
  · have e1 : leftS zs 1048576 = -1 := leftS_no (Nat.le_refl _) (by omega)
    rw [e1] at SZ
    clear e1 ht hz hp h hf hl h1 ha hb
    go_enter Try.func10, Try.ntmps10
    go_wp2_with (go_at_call 23; refine (SZ.out _ (strsIn_below H.out B0.out.2.2)).mono ?_; rintro e w1 ⟨rfl, rfl⟩)
    go_returns
    exact ⟨rfl, B0.out.2.2⟩
/-! ### The frame round the walk -/
section
set_option maxRecDepth 100000 in
theorem fnExactSureWords_lifted (os : Os) (started : os.Started) (H : Type) (enc : TypeId × Value → H) :
    ReturnsInHanded {} Try.checked os 10 .any (Rows.fnExactSureWordsSpec.pre6 enc Try.prog Try.f10 Rows.fnExactSureWordsRow.domain false) (Rows.fnExactSureWordsSpec.post enc Try.prog Try.f10 false true false false) := by
  refine returnsInHanded_of_change_sized (C := Try.checked) own started (by kernel_rfl) Try.func10
    (ChangeSpec.witness6 (enc := enc) (C := Try.checked) false ⟨#[], #[.agg #[.int .i16 0, .int .i16 0, .int .i16 0], .agg #[.int .u64 0, .int .u64 0], .slice none 0 0], []⟩ 8 (by kernel_rfl) (by kernel_rfl) (by kernel_rfl) (by kernel_rfl)) ?_
  intro W base args ds gs before hval hW _ hsz _
  have hW' := hW
  obtain ⟨p, q, hA, hV, rfl, _, _⟩ := hW
  obtain ⟨rfl, rfl⟩ := trodVars_none hV
  have hlt : ∀ x ∈ p, x.block < W.heap.size := fun x hx => by simpa using hW'.lt x (by simpa using hx)
  rw [Try.params10] at hA hval hsz
  obtain ⟨v0, vs0, d0, ds0, p0, q0, hargs, rfl, rfl, h0, r0⟩ := trodAll_cons hA
  obtain ⟨v1, vs1, d1, ds1, p1, q1, rfl, rfl, rfl, h1, r1⟩ := trodAll_cons r0
  obtain ⟨v2, vs2, d2, ds2, p2, q2, rfl, rfl, rfl, h2, r2⟩ := trodAll_cons r1
  obtain ⟨rfl, rfl, rfl⟩ := trodAll_nil r2
  obtain rfl : args = #[v0, v1, v2] := by cases args; simp_all
  obtain ⟨t0, z0, p0, rfl, ht0, hz0, hp0⟩ := open_mix (e := 22) Try.underlying24 (by kernel_rfl) (by kernel_rfl) (by kernel_rfl) (hval 0 24 v0 rfl rfl)
  obtain ⟨a1, b1, rfl, ha1, hb1⟩ := open_mask (e := 47) (by kernel_rfl) (by kernel_rfl) (by kernel_rfl) (by kernel_rfl) (hval 1 48 v1 rfl rfl)
  obtain ⟨a2, zs2, c2, rfl, hs2, hf2, hl2⟩ := open_strS (e := 9) (by kernel_rfl) (by kernel_rfl) (by kernel_rfl) (hval 2 37 v2 rfl rfl) h2
  refine (fnExactSureWords_walk t0 z0 p0 ht0 hz0 hp0 a1 b1 ha1 hb1 a2 zs2 c2 W hs2 hf2 hl2).mono fun e W' ⟨he, hb⟩ => ?_
  subst he
  exact ⟨_, rfl, law_post laidOut rfl Try.underlying4 (of_all (by kernel_rfl)) rfl hW' rfl rfl rfl hb⟩

theorem fnExactSureWords_over : Rows.fnExactSureWordsRow.holds Try.pinned (OpenSpec.ofChange Rows.fnExactSureWordsSpec) :=
  OpenClaim.holds_of_wide 10 Try.f10 rfl rfl rfl rfl rfl rfl rfl ⟨rfl, rfl, rfl, rfl, rfl⟩ rfl rfl rfl rfl rfl (by kernel_rfl) Try.func10 (by kernel_rfl)
    (of_decide_eq_true (by kernel_rfl)) (by unfold Func.isWrapper; rw [if_neg (of_decide_eq_false (by kernel_rfl))]; exact ⟨rfl, rfl⟩)
    (fun os started H enc _ => fnExactSureWords_lifted os started H enc)

/-- The statement. -/
theorem fnExactSureWords_holds : Rows.FnExactSureWordsSaid := fnExactSureWords_over
end
end Go.Proofs.Ytoippchkhknhpaa
