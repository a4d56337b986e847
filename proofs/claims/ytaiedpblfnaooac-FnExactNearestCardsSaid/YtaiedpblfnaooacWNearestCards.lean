/- NearestCards answers, for every deck and every mask, as its model does; its answer is memory of its own. No conditions. -/
import Derived.Test.YtaiedpblfnaooacNear
import Derived.Test.YtaiedpblfnaooacMark
import Derived.Test.YtaiedpblfnaooacDeck3
import Derived.Test.YtaiedpblfnaooacMake1
import Derived.Deep.DeepCutAuto
namespace Go.Proofs.Ytaiedpblfnaooac
open Go.ChangeShapes Go.WideShapes Go.ChangeAt Go.RowKit

theorem intsIn_up {B : Nat} {w w' : World} {a : Option Addr} {zs : List Int} (h : IntsIn w a zs) (hB : w.heap.size ≤ B) (hb : Below B w w') : IntsIn w' a zs := fun i hi => by
  obtain ⟨b, off, ha, hlt, hc⟩ := h i hi
  exact ⟨b, off, ha, Nat.lt_of_lt_of_le hlt hb.size, (hb.cell (Nat.lt_of_lt_of_le hlt hB)).trans hc⟩
theorem wr_cards {w : World} {g : Nat} {cs : List Cd} (h : CardsIn w (some ⟨g, 0, none⟩) cs) (hf : ∀ j, w.frozen? ⟨g, j, none⟩ = false) : Wb w g (cs.length * 3) := by
  refine ⟨fun j hj => ?_, fun j _ => hf j⟩
  obtain ⟨_, b, off, he, _, h0, h1, h2⟩ := h (j / 3) (by omega)
  cases he
  rcases (show j % 3 = 0 ∨ j % 3 = 1 ∨ j % 3 = 2 by omega) with e | e | e
  · exact ⟨.string (cdAt cs (j / 3)).s, by rw [show (⟨g, j, none⟩ : Addr) = ⟨g, 0 + j / 3 * 3, none⟩ from by congr 1; omega]; exact h0⟩
  · exact ⟨.int .u64 (cdAt cs (j / 3)).a, by rw [show (⟨g, j, none⟩ : Addr) = ⟨g, 0 + j / 3 * 3 + 1, none⟩ from by congr 1; omega]; exact h1⟩
  · exact ⟨.int .u64 (cdAt cs (j / 3)).b, by rw [show (⟨g, j, none⟩ : Addr) = ⟨g, 0 + j / 3 * 3 + 2, none⟩ from by congr 1; omega]; exact h2⟩

theorem nrX_len (ok : Bool) (f : Nat → Nat) (n : Nat) : (nrX ok f n).length ≤ n := by
  unfold nrX
  split
  · split
    · simp
    · exact atF_len _ _ _
  · simp
theorem toMask_w (a b : Int) (w : World) : Calls Try.prog 35 #[.agg #[.int .u64 a, .int .u64 b]] w fun e w' => e = .returned (.agg #[.int .u64 a, .int .u64 b]) ∧ Below w.heap.size w w' :=
  (toMask_any a b w).mono fun e w' ⟨he, hw⟩ => ⟨he, by subst hw; exact (by repeat' (first | (with_reducible exact Below.refl _ _) | (with_reducible assumption) | (with_reducible refine below_drewN ?_ _) | (with_reducible refine Below.drew ?_) | (with_reducible refine below_new ?_ _) | (with_reducible refine below_next ?_ (by with_reducible assumption)) | (with_reducible refine Below.setCell ?_ ?_ _) | go_size))⟩

/-- The query's box of the law's own. -/
def LBox (w W : World) (a b : Int) : Prop := W.heap[w.heap.size]? = some (.cells #[.int .u64 a, .int .u64 b] 24 (0, 0)) ∧ Below w.heap.size w W
theorem lBox_start (w : World) (a b : Int) : LBox w (w.alloc (.cells #[.int .u64 a, .int .u64 b] 24)) a b := ⟨block_alloc _ _, below_new (Below.refl _ _) _⟩
theorem lBox_ab {w W W' : World} {a b : Int} (h : LBox w W a b) (hb : Ab W W') : LBox w W' a b := ⟨hb.block h.1, h.2.trans (Below.mono hb h.2.size)⟩
theorem lBox_up {w W W' : World} {a b : Int} (h : LBox w W a b) (hb : Below W.heap.size W W') : LBox w W' a b := lBox_ab h hb
/-- One step behind a world whose own things stay. -/
theorem ch_next {B : Nat} {w a b : World} (h : Below B w a) (hB : B ≤ w.heap.size) (k : Below a.heap.size a b) : Below B w b := h.trans (Below.mono k (Nat.le_trans hB h.size))

set_option maxRecDepth 100000 in
set_option maxHeartbeats 3200000 in
theorem fnExactNearestCards_walk (a1 : Option Addr) (cs : List Cd) (c1 : Nat) (a b : Int) (ha : U64 a) (hb : U64 b) (w : World) (h1 : CardsIn w a1 cs) (l1 : cs.length ≤ maxLen) :
    Calls Try.prog 9 #[.slice a1 cs.length c1, .agg #[.int .u64 a, .int .u64 b]] w fun e w' => e = .returned (.bool true) ∧ Below w.heap.size w w' := by
  unfold maxLen at l1
  have B0 := Lib.hid (lBox_start w a b)
  have H1 := Lib.hid (cardsIn_below h1 B0.out.2)
  have Z1 := Lib.hid fun W hs => szCardS_any a1 cs c1 1048576 W hs (by decide) (by decide) (by omega)
  clear l1
  have H0 := Lib.hid h1
  clear h1
  go_enter Try.func9, Try.ntmps9
  go_upto_region 3 with (go_at_call 12; refine (Z1.out _ H1.out).mono ?_; rintro e w1 ⟨z, rfl, z0, z1, z2, hB⟩; have B1 := Lib.hid (lBox_ab B0.out hB); have c0 := cell_of_block B1.out.1; clear hB)
  by_cases hz0 : z < 0
  · have d1 : decide (z < 0) = true := decide_eq_true hz0
    go_wp2
    go_returns
    exact ⟨rfl, B1.out.2⟩
  have d1 : decide (z < 0) = false := decide_eq_false hz0
  have n1 : cs.length ≤ 1048576 := z2 (by omega)
  clear z0 z1 z2 hz0
  have T1 := Lib.hid fun W hs => toCardS_any a1 cs c1 W hs n1
  have TQ := Lib.hid fun W => toMask_w a b W
  have E1 := Lib.hid fun a b c d W ha hb => eqCardS_same a b cs c d W ha hb n1
  have S := fun x c1 W hx => sNear_any x cs c1 a b ha hb W hx
  have I := fun x c1 W hx => iNear_any x cs c1 a b ha hb W hx
  have hzl := nrX_len (deckOk cs && maskOk b) (farK cs a b) cs.length
  generalize nrX (deckOk cs && maskOk b) (farK cs a b) cs.length = zs at *
  generalize nrL (deckOk cs && maskOk b) (farK cs a b) cs.length = ld at *
  generalize nrC (deckOk cs && maskOk b) cs.length = cd at *
  have hn : zs.length ≤ 17592186044404 := by omega
  have hm : cs.length * 3 ≤ 3145728 := by omega
  have hk : 1 + 3 * cs.length ≤ 4000000 := by omega
  have S := Lib.hid S
  have I := Lib.hid I
  clear hzl ha hb n1
  obtain ⟨kk, hkk⟩ : ∃ kk : Nat, kk = 1 + 3 * cs.length := ⟨_, rfl⟩
  have MK := fun g W hW hg => markCards_any cs.length g 1 cs.length W hW hg hk
  rw [← hkk] at MK
  have MK := Lib.hid MK
  have k0 : decide ((kk : Int) < 0) = false := by simp
  have n0 : decide ((1 : Int) + (zs.length : Int) < 0) = false := by simp; omega
  have n3 : ((1 : Int) + (zs.length : Int) != (1 : Int) + (zs.length : Int)) = false := by simp
  have n2 : (cd != cd) = false := by simp
  have n4 : (ld != ld) = false := by simp
  clear hkk hm hk
  go_upto_region 5 with fail
  clear c0
  refine wp_region_make1_at (Y := Option Addr × Nat) 1 2 (fun x W => CardsIn W x cs) (fun y W => IntsIn W y.1 zs) (fun _ _ _ h hb => cardsIn_below h hb) (fun _ _ _ h hb => intsIn_below h hb) (fun x => .slice x cs.length cs.length) (fun y => .tuple #[.slice y.1 zs.length y.2, .int .i64 ld, .int .i64 cd]) (by kernel_rfl) rfl rfl rfl (by kernel_rfl) rfl rfl (none, 0) ?_
  simp only [Nat.reduceAdd, List.take_succ_cons, List.take_zero, List.drop_succ_cons, List.drop_zero]
  have hbw := cell_bw
  intro v1 hv1
  repeat (go_big_quiet_step (fail))
  refine wpQuiet_nil ?_
  refine ⟨?_, ?_⟩
  · intro v2 hv2
    go_simp
    simp only [Yld]
    refine ⟨trivial, (T1.out v2 (cardsIn_below H0.out (B1.out.2.trans (Below.mono hv2 B1.out.2.size)))).mono ?_⟩
    rintro e v3 ⟨v, rfl, ⟨g, rfl, _, _, hc, _⟩, hb⟩
    exact ⟨_, rfl, _, rfl, hb, hc⟩
  intro x v2 hv2
  simp only [Act.put, List.setIfInBounds_toArray, List.set_cons_succ, List.set_cons_zero]
  have c0 := cell_of_block (lBox_ab B1.out hv2).1
  have z0 := lt_of_block (lBox_ab B1.out hv2).1
  repeat (go_big_quiet_step (first | (go_at_call 35; exact calls_bw (TQ.out _))))
  refine wpQuiet_nil ?_
  clear c0 z0
  refine ⟨?_, ?_⟩
  · intro v3 hv3 hx
    go_simp
    simp only [Yld]
    refine ⟨trivial, (S.out x cs.length v3 hx).mono ?_⟩
    rintro e v4 ⟨v, rfl, hO, hb⟩
    obtain ⟨ai, ci, rfl, hi⟩ := ownInts_in hO
    exact ⟨_, rfl, ai, ⟨ci, rfl⟩, hb, hi⟩
  rintro ⟨ay, cy⟩
  simp only [List.setIfInBounds_toArray, List.set_cons_succ, List.set_cons_zero]
  refine ⟨rfl, _, fun _ => rfl, ?_⟩
  simp only [Act.put, List.setIfInBounds_toArray, List.set_cons_succ, List.set_cons_zero]
  refine ⟨rfl, _, fun _ => rfl, ?_⟩
  simp only [Act.put, List.setIfInBounds_toArray, List.set_cons_succ, List.set_cons_zero]
  refine ⟨rfl, _, fun _ => rfl, ?_⟩
  simp only [Act.put, List.setIfInBounds_toArray, List.set_cons_succ, List.set_cons_zero]
  refine ⟨rfl, _, fun _ => rfl, ?_⟩
  simp only [Act.put, List.setIfInBounds_toArray, List.set_cons_succ, List.set_cons_zero]
  refine ⟨rfl, _, fun _ => rfl, ?_⟩
  simp only [Act.put, List.setIfInBounds_toArray, List.set_cons_succ, List.set_cons_zero]
  refine ⟨rfl, _, fun _ => rfl, ?_⟩
  simp only [Act.put, List.setIfInBounds_toArray, List.set_cons_succ, List.set_cons_zero]
  refine ⟨rfl, _, fun _ => rfl, ?_⟩
  simp only [Act.put, List.setIfInBounds_toArray, List.set_cons_succ, List.set_cons_zero]
  intro w3 hw3 _ hy
  have B3 := Lib.hid (lBox_ab B1.out hw3)
  have S3 := Lib.hid hy
  have c0 := cell_of_block B3.out.1
  have zl := lt_of_block B3.out.1
  clear hw3 hv1 hv2 hbw hy
  have tok1 : True := trivial
  have tok2 : True := trivial
  go_upto_region 24 with (first
    | (go_at_call 15; have _t := tok1; clear _t tok1; refine (T1.out _ (cardsIn_below H0.out B3.out.2)).mono ?_; rintro e w4 ⟨v, rfl, ⟨g4, rfl, hg4, hl4, hs4, hf4⟩, hB⟩; have C4 := Lib.hid hB; have G4 := Lib.hid hg4; have L4 := Lib.hid hl4; have X4 := Lib.hid hs4; have W4 := Lib.hid (wr_cards hs4 hf4); clear c0; have c0 := cell_of_block (lBox_ab B3.out hB).1; clear hB hs4 hf4 hg4 hl4)
    | (go_at_call 35; refine (TQ.out _).mono ?_; rintro e w5 ⟨rfl, hB⟩; have C5 := Lib.hid (ch_next C4.out (Nat.le_refl _) hB); have D5 := Lib.hid hB; have X5 := Lib.hid (cardsIn_below X4.out hB); clear hB c0)
    | (go_at_call 38; refine (I.out _ _ _ X5.out).mono ?_; rintro e w6 ⟨v6, rfl, hO, hB⟩; obtain ⟨a6, c6, rfl, hi⟩ := ownInts_in hO; have O6 := Lib.hid hO; have I6 := Lib.hid hi; have C6 := Lib.hid (ch_next C5.out (Nat.le_refl _) hB); have D6 := Lib.hid (ch_next D5.out (Nat.le_refl _) hB); have X6 := Lib.hid (cardsIn_below X5.out hB); clear hB hO hi)
    | (go_at_call 39; have _t := tok2; clear _t tok2; refine (eqInts_same _ _ _ _ _ _ I6.out (intsIn_up S3.out (Nat.le_refl _) C6.out) hn).mono ?_; rintro e w7 ⟨rfl, hB⟩; have C7 := Lib.hid (ch_next C6.out (Nat.le_refl _) hB); have D7 := Lib.hid (ch_next D6.out (Nat.le_refl _) hB); have E7 := Lib.hid hB; have X7 := Lib.hid (cardsIn_below X6.out hB); clear hB)
    | (go_at_call 15; refine (T1.out _ (cardsIn_below H0.out (lBox_ab B3.out C7.out).2)).mono ?_; rintro e w8 ⟨v, rfl, ⟨g8, rfl, _, _, hs8, _⟩, hB⟩; have C8 := Lib.hid (ch_next C7.out (Nat.le_refl _) hB); have D8 := Lib.hid (ch_next D7.out (Nat.le_refl _) hB); have E8 := Lib.hid (ch_next E7.out (Nat.le_refl _) hB); have X8 := Lib.hid (cardsIn_below X7.out hB); have Y8 := Lib.hid hs8; clear hB hs8)
    | (go_at_call 18; refine (E1.out _ _ _ _ _ X8.out Y8.out).mono ?_; rintro e w9 ⟨rfl, hB⟩; have C9 := Lib.hid (ch_next C8.out (Nat.le_refl _) hB); have D9 := Lib.hid (ch_next D8.out (Nat.le_refl _) hB); have E9 := Lib.hid (ch_next E8.out (Nat.le_refl _) hB); clear hB)
    | (go_at_call 31; refine (MK.out _ _ (W4.out.below D9.out L4.out) (Nat.lt_of_lt_of_le L4.out D9.out.size)).mono ?_; rintro e w10 ⟨rfl, hO⟩; have O10 := Lib.hid (own_oth (ownInts_kept O6.out E9.out) hO (Nat.lt_of_lt_of_le L4.out D5.out.size)); have C10 := Lib.hid (C9.out.trans (Below.mono (hO.below (Nat.le_of_lt (Nat.lt_of_lt_of_le L4.out D9.out.size))) G4.out)); clear hO)
    | (go_at_call 39; have hx := O10.out; obtain ⟨_, _, hv, hi⟩ := ownInts_in hx; cases hv; refine (eqInts_same _ _ _ _ _ _ hi (intsIn_up S3.out (Nat.le_refl _) C10.out) hn).mono ?_; rintro e w11 ⟨rfl, hB⟩; have C11 := Lib.hid (ch_next C10.out (Nat.le_refl _) hB); have O11 := Lib.hid (ownInts_kept hx hB); clear hB hx hi)
    | (go_at_call 40; refine (markInts_any _ _ _ _ _ O11.out hn (by omega) (by omega)).mono ?_; rintro e w12 ⟨rfl, hO, hB⟩; obtain ⟨am, cm, hv, hi⟩ := ownInts_in hO; rw [marks_len] at hv; have MV := Lib.hid hv; have MI := Lib.hid hi; have C12 := Lib.hid (C11.out.trans (hB.mono C5.out.size)); have B12 := Lib.hid (lBox_ab B3.out C12.out); have c0 := cell_of_block B12.out.1; clear hO hB hi hv)
    | (go_at_call 41; cases MV.out; refine (heldInts_any _ _ _ _ _ MI.out hn (by omega) (by omega)).mono ?_; rintro e wh ⟨rfl, rfl⟩))
  clear c0
  refine wp_region_make1_at (Y := Option Addr × Nat) 1 2 (fun x W => CardsIn W x cs) (fun y W => IntsIn W y.1 zs) (fun _ _ _ h hb => cardsIn_below h hb) (fun _ _ _ h hb => intsIn_below h hb) (fun x => .slice x cs.length cs.length) (fun y => .tuple #[.slice y.1 zs.length y.2, .int .i64 ld, .int .i64 cd]) (by kernel_rfl) rfl rfl rfl (by kernel_rfl) rfl rfl (none, 0) ?_
  simp only [Nat.reduceAdd, List.take_succ_cons, List.take_zero, List.drop_succ_cons, List.drop_zero]
  have hbw := cell_bw
  intro v1 hv1
  repeat (go_big_quiet_step (fail))
  refine wpQuiet_nil ?_
  refine ⟨?_, ?_⟩
  · intro v2 hv2
    go_simp
    simp only [Yld]
    refine ⟨trivial, (T1.out v2 (cardsIn_below H0.out (B12.out.2.trans (Below.mono hv2 B12.out.2.size)))).mono ?_⟩
    rintro e v3 ⟨v, rfl, ⟨g, rfl, _, _, hc, _⟩, hb⟩
    exact ⟨_, rfl, _, rfl, hb, hc⟩
  intro x v2 hv2
  simp only [Act.put, List.setIfInBounds_toArray, List.set_cons_succ, List.set_cons_zero]
  have c0 := cell_of_block (lBox_ab B12.out hv2).1
  have z0 := lt_of_block (lBox_ab B12.out hv2).1
  repeat (go_big_quiet_step (first | (go_at_call 35; exact calls_bw (TQ.out _))))
  refine wpQuiet_nil ?_
  clear c0 z0
  refine ⟨?_, ?_⟩
  · intro v3 hv3 hx
    go_simp
    simp only [Yld]
    refine ⟨trivial, (I.out x cs.length v3 hx).mono ?_⟩
    rintro e v4 ⟨v, rfl, hO, hb⟩
    obtain ⟨ai, ci, rfl, hi⟩ := ownInts_in hO
    exact ⟨_, rfl, ai, ⟨ci, rfl⟩, hb, hi⟩
  rintro ⟨az, cz⟩
  simp only [List.setIfInBounds_toArray, List.set_cons_succ, List.set_cons_zero]
  refine ⟨rfl, _, fun _ => rfl, ?_⟩
  simp only [Act.put, List.setIfInBounds_toArray, List.set_cons_succ, List.set_cons_zero]
  refine ⟨rfl, _, fun _ => rfl, ?_⟩
  simp only [Act.put, List.setIfInBounds_toArray, List.set_cons_succ, List.set_cons_zero]
  refine ⟨rfl, _, fun _ => rfl, ?_⟩
  simp only [Act.put, List.setIfInBounds_toArray, List.set_cons_succ, List.set_cons_zero]
  refine ⟨rfl, _, fun _ => rfl, ?_⟩
  simp only [Act.put, List.setIfInBounds_toArray, List.set_cons_succ, List.set_cons_zero]
  refine ⟨rfl, _, fun _ => rfl, ?_⟩
  simp only [Act.put, List.setIfInBounds_toArray, List.set_cons_succ, List.set_cons_zero]
  refine ⟨rfl, _, fun _ => rfl, ?_⟩
  simp only [Act.put, List.setIfInBounds_toArray, List.set_cons_succ, List.set_cons_zero]
  refine ⟨rfl, _, fun _ => rfl, ?_⟩
  simp only [Act.put, List.setIfInBounds_toArray, List.set_cons_succ, List.set_cons_zero]
  intro w13 hw13 _ hy
  have C13 := Lib.hid (ch_next C12.out (Nat.le_refl _) hw13)
  have S13 := Lib.hid hy
  have M13 := Lib.hid (intsIn_below MI.out hw13)
  clear hw13 hv1 hv2 hbw hy
  go_wp2_with (first
    | (go_at_call 39; refine (eqInts_same _ _ _ _ _ _ S13.out (intsIn_up S3.out (Nat.le_refl _) C13.out) hn).mono ?_; rintro e w14 ⟨rfl, hB⟩; have C14 := Lib.hid (ch_next C13.out (Nat.le_refl _) hB); have M14 := Lib.hid (intsIn_below M13.out hB); clear hB)
    | (go_at_call 41; refine (heldInts_any _ _ _ _ _ M14.out hn (by omega) (by omega)).mono ?_; rintro e wh ⟨rfl, rfl⟩))
  all_goals go_returns
  all_goals exact ⟨rfl, (lBox_ab B3.out C14.out).2⟩
/-! ### The frame round the walk -/
section
set_option maxRecDepth 100000 in
theorem fnExactNearestCards_lifted (os : Os) (started : os.Started) (H : Type) (enc : TypeId × Value → H) :
    ReturnsInHanded {} Try.checked os 9 .any (Rows.fnExactNearestCardsSpec.pre6 enc Try.prog Try.f9 Rows.fnExactNearestCardsRow.domain false) (Rows.fnExactNearestCardsSpec.post enc Try.prog Try.f9 false true false false) := by
  refine returnsInHanded_of_change_sized (C := Try.checked) own started (by kernel_rfl) Try.func9
    (ChangeSpec.witness6 (enc := enc) (C := Try.checked) false ⟨#[], #[.slice none 0 0, .agg #[.int .u64 0, .int .u64 0]], []⟩ 8 (by kernel_rfl) (by kernel_rfl) (by kernel_rfl) (by kernel_rfl)) ?_
  intro W base args ds gs before hval hW _ hsz _
  have hW' := hW
  obtain ⟨p, q, hA, hV, rfl, _, _⟩ := hW
  obtain ⟨rfl, rfl⟩ := trodVars_none hV
  have hlt : ∀ x ∈ p, x.block < W.heap.size := fun x hx => by simpa using hW'.lt x (by simpa using hx)
  rw [Try.params9] at hA hval hsz
  obtain ⟨v0, vs0, d0, ds0, p0, q0, hargs, rfl, rfl, h0, r0⟩ := trodAll_cons hA
  obtain ⟨v1, vs1, d1, ds1, p1, q1, rfl, rfl, rfl, h1, r1⟩ := trodAll_cons r0
  obtain ⟨rfl, rfl, rfl⟩ := trodAll_nil r1
  obtain rfl : args = #[v0, v1] := by cases args; simp_all
  obtain ⟨a0, cs0, c0, rfl, hz0, hl0⟩ := open_cards (u := 23) (e := 48) (by kernel_rfl) Try.underlying48 (by kernel_rfl) (by kernel_rfl) (by kernel_rfl) (by kernel_rfl) (by kernel_rfl) (by kernel_rfl) (by kernel_rfl) (by kernel_rfl) (by kernel_rfl) (hval 0 22 v0 rfl rfl) h0
  obtain ⟨a1, b1, rfl, ha1, hb1⟩ := open_mask (e := 23) (by kernel_rfl) (by kernel_rfl) (by kernel_rfl) (by kernel_rfl) (hval 1 24 v1 rfl rfl)
  refine (fnExactNearestCards_walk a0 cs0 c0 a1 b1 ha1 hb1 W hz0 hl0).mono fun e W' ⟨he, hb⟩ => ?_
  subst he
  exact ⟨_, rfl, law_post laidOut rfl Try.underlying4 (of_all (by kernel_rfl)) rfl hW' rfl rfl rfl hb⟩

theorem fnExactNearestCards_over : Rows.fnExactNearestCardsRow.holds Try.pinned (OpenSpec.ofChange Rows.fnExactNearestCardsSpec) :=
  OpenClaim.holds_of_wide 9 Try.f9 rfl rfl rfl rfl rfl rfl rfl ⟨rfl, rfl, rfl, rfl, rfl⟩ rfl rfl rfl rfl rfl (by kernel_rfl) Try.func9 (by kernel_rfl)
    (of_decide_eq_true (by kernel_rfl)) (by unfold Func.isWrapper; rw [if_neg (of_decide_eq_false (by kernel_rfl))]; exact ⟨rfl, rfl⟩)
    (fun os started H enc _ => fnExactNearestCards_lifted os started H enc)

/-- The statement. -/
theorem fnExactNearestCards_holds : Rows.FnExactNearestCardsSaid := fnExactNearestCards_over
end
end Go.Proofs.Ytaiedpblfnaooac
