/- CheckAfter answers, for every check, every deck and every edit, as its model does. No conditions but what the library's errorType reads as. -/
import Derived.Test.YtpgonfeobfefaaaDoorApZ
import Derived.Test.YtpgonfeobfefaaaDoorDoor
import Derived.Test.YtpgonfeobfefaaaDoorEdL
import Derived.Test.YtpgonfeobfefaaaDoorEds2
import Derived.Test.YtpgonfeobfefaaaDoorDeck3
import Derived.Test.YtpgonfeobfefaaaDoorMake1Y
import Derived.Deep.DeepCutAuto
namespace Go.Proofs.YtpgonfeobfefaaaDoor
open Go.ChangeShapes Go.WideShapes Go.ChangeAt Go.RowKit
theorem open_u64 {P : Program} {w : World} {r : Reach} {base : Nat} {t : TypeId} {v : Value} (hu : P.underlying t = some (.int .u64)) (h : Value.okWide P w r base t v) : ∃ n : Int, v = .int .u64 n ∧ (0 ≤ n ∧ n < 18446744073709551616) := by
  unfold Value.okWide at h
  rw [hu] at h
  obtain ⟨n, rfl, h1, h2⟩ := cell_int hu h
  simp [IntKind.min, IntKind.max, IntKind.signed, IntKind.bits] at h1 h2
  exact ⟨n, rfl, ⟨by omega, by omega⟩⟩

/-- The edit's box of the law's own. -/
def EBox (w W : World) (x : Ed) : Prop := W.heap[w.heap.size]? = some (.cells #[.int .i8 x.k, .string x.s, .int .i16 x.h, .int .u64 x.a, .int .u64 x.b] 28 (0, 0)) ∧ Below w.heap.size w W
theorem eBox_start (w : World) (x : Ed) : EBox w (w.alloc (.cells #[.int .i8 x.k, .string x.s, .int .i16 x.h, .int .u64 x.a, .int .u64 x.b] 28)) x := ⟨block_alloc _ _, below_new (Below.refl _ _) _⟩
theorem eBox_ab {w W W' : World} {x : Ed} (h : EBox w W x) (hb : Ab W W') : EBox w W' x := ⟨hb.block h.1, h.2.trans (Below.mono hb h.2.size)⟩
theorem edV_parts {k : Int} {s : ByteArray} {h a b : Int} : edV ⟨k, s, h, a, b⟩ = .agg #[.int .i8 k, .string s, .int .i16 h, .int .u64 a, .int .u64 b] := rfl

set_option maxRecDepth 100000 in
set_option maxHeartbeats 3200000 in
theorem fnExactCheckAfter_walk (ck : Int) (_hck : U64 ck) (a1 : Option Addr) (cs : List Cd) (c1 : Nat) (x : Ed) (hx : x.fits) (w : World) (hE : EtIn w) (h1 : CardsIn w a1 cs) (l1 : cs.length ≤ maxLen) :
    Calls Tryd.prog 3 #[.int .u64 ck, .slice a1 cs.length c1, .agg #[.int .i8 x.k, .string x.s, .int .i16 x.h, .int .u64 x.a, .int .u64 x.b]] w fun e w' => e = .returned (.bool true) ∧ Below w.heap.size w w' := by
  unfold maxLen at l1
  have B0 := Lib.hid (eBox_start w x)
  have H1 := Lib.hid (cardsIn_below h1 B0.out.2)
  have Z1 := Lib.hid fun W hs => szCardS_any a1 cs c1 1048576 W hs (by decide) (by decide) (by omega)
  have S := fun g W hs => sCheckAfter_any ck x hx g cs cs.length W hs (Nat.le_refl _)
  have I := fun g W hs hE => iCheckAfter_any ck x hx (some ⟨g, 0, none⟩) cs cs.length W hs hE
  have EE := Lib.hid fun (W : World) (hB : Below w.heap.size w W) => hE.below hB
  clear l1 hE
  have H0 := Lib.hid h1
  clear h1
  generalize ckA (deckOk cs && edOk x) ck cs x = p at *
  generalize aeK (deckOk cs && edOk x) cs x = q at *
  obtain ⟨k, s, h, a, b⟩ := x
  rw [edV_parts] at S I
  have S := Lib.hid S
  have I := Lib.hid I
  obtain ⟨_, hs, _⟩ := hx
  simp only at B0 hs ⊢
  go_enter Tryd.func3, Tryd.ntmps3
  go_upto_region 3 with (go_at_call 8; refine (Z1.out _ H1.out).mono ?_; rintro e w1 ⟨z, rfl, z0, z1, z2, hB⟩; have B1 := Lib.hid (eBox_ab B0.out hB); have c0 := cell_of_block B1.out.1; clear hB)
  by_cases hz0 : z < 0
  · have d1 : decide (z < 0) = true := decide_eq_true hz0
    go_wp2
    go_returns
    exact ⟨rfl, B1.out.2⟩
  have d1 : decide (z < 0) = false := decide_eq_false hz0
  have n1 : cs.length ≤ 1048576 := z2 (by omega)
  have Z2 := Lib.hid fun W => szEdit_any k s h a b z hs (by omega) (by omega) W
  clear z0 z2 hz0
  by_cases hy0 : edz z s.size < 0
  · have d2 : decide (edz z s.size < 0) = true := decide_eq_true hy0
    go_wp2_with (go_at_call 9; refine (Z2.out _).mono ?_; rintro e w2 ⟨rfl, hB⟩; have B2 := Lib.hid (eBox_ab B1.out hB); clear hB)
    go_returns
    exact ⟨rfl, B2.out.2⟩
  have d2 : decide (edz z s.size < 0) = false := decide_eq_false hy0
  have T1 := Lib.hid fun W hs => toCardS_any a1 cs c1 W hs n1
  have TF := Lib.hid fun W => toEdit_b k s h a b W
  have E1 := Lib.hid fun a b c d W ha hb => eqCardS_same a b cs c d W ha hb n1
  have np : (p != p) = false := by simp
  have nq : (q != q) = false := by simp
  clear hs n1 z1 hy0
  generalize edz z s.size = zz at *
  go_upto_region 8 with (go_at_call 9; refine (Z2.out _).mono ?_; rintro e w2 ⟨rfl, hB⟩; have B2 := Lib.hid (eBox_ab B1.out hB); clear hB)
  clear c0
  refine wp_region_make1Y_at (XX := Nat) (Y := Unit) 2 2 (fun g W => CardsIn W (some ⟨g, 0, none⟩) cs) (fun _ _ => True) (fun _ _ _ h hb => cardsIn_below h hb) (fun _ _ _ _ _ => trivial) (fun g => .slice (some ⟨g, 0, none⟩) cs.length cs.length) (fun _ => .tuple #[.int .u64 p, .int .i64 q]) (by kernel_rfl) rfl rfl rfl (by kernel_rfl) rfl rfl 0 () ?_
  simp only [Nat.reduceAdd, List.take_succ_cons, List.take_zero, List.drop_succ_cons, List.drop_zero]
  have hbw := cell_bw
  intro v1 hv1
  repeat (go_big_quiet_step (fail))
  refine wpQuiet_nil ?_
  refine ⟨?_, ?_⟩
  · intro v2 hv2
    go_simp
    simp only [Yld]
    refine ⟨trivial, (T1.out v2 (cardsIn_below H0.out (B2.out.2.trans (Below.mono hv2 B2.out.2.size)))).mono ?_⟩
    rintro e v3 ⟨v, rfl, ⟨g, rfl, _, _, hc, _⟩, hb⟩
    exact ⟨_, rfl, g, rfl, hb, hc⟩
  intro g v2 hv2
  simp only [Act.put, List.setIfInBounds_toArray, List.set_cons_succ, List.set_cons_zero]
  have c0 := cell_of_block (eBox_ab B2.out hv2).1
  have z0 := lt_of_block (eBox_ab B2.out hv2).1
  repeat (go_big_quiet_step (first | (go_at_call 12; exact calls_bw (TF.out _))))
  refine wpQuiet_nil ?_
  clear c0 z0
  refine ⟨?_, ?_⟩
  · intro v3 hv3 hx
    go_simp
    simp only [Yld]
    refine ⟨trivial, (S.out g v3 hx).mono ?_⟩
    rintro e v4 ⟨rfl, hb⟩
    exact ⟨_, rfl, rfl, hb⟩
  rintro ⟨⟩
  simp only [List.setIfInBounds_toArray, List.set_cons_succ, List.set_cons_zero]
  refine ⟨rfl, _, fun _ => rfl, ?_⟩
  simp only [Act.put, List.setIfInBounds_toArray, List.set_cons_succ, List.set_cons_zero]
  refine ⟨rfl, _, fun _ => rfl, ?_⟩
  simp only [Act.put, List.setIfInBounds_toArray, List.set_cons_succ, List.set_cons_zero]
  refine ⟨rfl, _, fun _ => rfl, ?_⟩
  simp only [Act.put, List.setIfInBounds_toArray, List.set_cons_succ, List.set_cons_zero]
  refine ⟨rfl, _, fun _ => rfl, ?_⟩
  simp only [Act.put, List.setIfInBounds_toArray, List.set_cons_succ, List.set_cons_zero]
  refine ⟨rfl, _, fun _ => rfl, ?_⟩
  simp only [Act.put, List.setIfInBounds_toArray, List.set_cons_succ, List.set_cons_zero]
  intro w3 hw3 _ _
  have B3 := Lib.hid (eBox_ab B2.out hw3)
  have c0 := cell_of_block B3.out.1
  clear hw3 hv1 hv2 hbw
  have tok1 : True := trivial
  go_wp2_with (first
    | (go_at_call 11; have _t := tok1; clear _t tok1; refine (T1.out _ (cardsIn_below H0.out B3.out.2)).mono ?_; rintro e w4 ⟨v, rfl, ⟨g4, rfl, _, _, hs4, _⟩, hB⟩; have B4 := Lib.hid (eBox_ab B3.out hB); have s4 := Lib.hid hs4; clear c0; have c0 := cell_of_block B4.out.1; clear hB hs4)
    | (go_at_call 12; refine (TF.out _).mono ?_; rintro e w5 ⟨rfl, hB⟩; have B5 := Lib.hid (eBox_ab B4.out hB); have s5 := Lib.hid (cardsIn_below s4.out hB); clear hB)
    | (go_at_call 13; refine (I.out _ _ s5.out (EE.out _ B5.out.2)).mono ?_; rintro e w6 ⟨rfl, hB⟩; have B6 := Lib.hid (eBox_ab B5.out hB); have s6 := Lib.hid (cardsIn_below s5.out hB); clear hB)
    | (go_at_call 11; refine (T1.out _ (cardsIn_below H0.out B6.out.2)).mono ?_; rintro e w7 ⟨v, rfl, ⟨g7, rfl, _, _, hs7, _⟩, hB⟩; have B7 := Lib.hid (eBox_ab B6.out hB); have s7 := Lib.hid (cardsIn_below s6.out hB); have r7 := Lib.hid hs7; clear hB hs7)
    | (go_at_call 14; refine (E1.out _ _ _ _ _ s7.out r7.out).mono ?_; rintro e w8 ⟨rfl, hB⟩; have B8 := Lib.hid (eBox_ab B7.out hB); clear hB))
  all_goals go_returns
  all_goals exact ⟨rfl, B8.out.2⟩
/-! ### The frame round the walk -/
section
set_option maxRecDepth 100000 in
theorem fnExactCheckAfter_lifted (os : Os) (started : os.Started) (H : Type) (enc : TypeId × Value → H) :
    ReturnsInHanded {} Tryd.checked os 3 .any (fun w args => (Rows.fnExactCheckAfterSpec.pre enc Tryd.prog Tryd.f3 Rows.fnExactCheckAfterRow.domain false w args ∧ laidMetH Tryd.prog Rows.fnExactCheckAfterRow.laid w) ∧ sizedMet enc Tryd.prog Tryd.f3 (OpenSpec.ofChange Rows.fnExactCheckAfterSpec) false w args) (Rows.fnExactCheckAfterSpec.post enc Tryd.prog Tryd.f3 false true false false) := by
  refine returnsInHanded_of_change_and (C := Tryd.checked) (X := fun w _ => laidMetH Tryd.prog Rows.fnExactCheckAfterRow.laid w) (fun _ _ _ hh h => h.of_heap hh) own started (by kernel_rfl) Tryd.func3
    (ChangeSpec.witness_at (enc := enc) (C := Tryd.checked) (os := os) (X := fun w _ => laidMetH Tryd.prog Rows.fnExactCheckAfterRow.laid w) false (etWorld os) #[.int .u64 0, .slice none 0 0, .agg #[.int .i8 0, .string ByteArray.empty, .int .i16 0, .int .u64 0, .int .u64 0]] 8 rfl (by kernel_rfl) (by kernel_rfl) (by kernel_rfl) (by kernel_rfl) (by kernel_rfl) (etWorld_met os _)) ?_
  intro W base args ds gs before hval0 hW _ _ hL _
  have hEt := et_of_laid hL
  have hval : ∀ (j : Nat) t v, Tryd.f3.params[j]? = some t → args[j]? = some v → Value.okWide Tryd.prog W .any base t v := hval0
  have hW' := hW
  obtain ⟨p, q, hA0, hV, rfl, _, _⟩ := hW
  have hA : DataW.TrodAll enc Tryd.prog W 0 (fun _ => true) true Tryd.f3.params.toList args.toList ds p := hA0
  obtain ⟨rfl, rfl⟩ := trodVars_none hV
  have hlt : ∀ x ∈ p, x.block < W.heap.size := fun x hx => by simpa using hW'.lt x (by simpa using hx)
  rw [Tryd.params3] at hA hval
  obtain ⟨v0, vs0, d0, ds0, p0, q0, hargs, rfl, rfl, h0, r0⟩ := trodAll_cons hA
  obtain ⟨v1, vs1, d1, ds1, p1, q1, rfl, rfl, rfl, h1, r1⟩ := trodAll_cons r0
  obtain ⟨v2, vs2, d2, ds2, p2, q2, rfl, rfl, rfl, h2, r2⟩ := trodAll_cons r1
  obtain ⟨rfl, rfl, rfl⟩ := trodAll_nil r2
  obtain rfl : args = #[v0, v1, v2] := by cases args; simp_all
  obtain ⟨n0, rfl, hn0⟩ := open_u64 (by kernel_rfl) (hval 0 22 v0 rfl rfl)
  obtain ⟨a1, cs1, c1, rfl, hz1, hl1⟩ := open_cards (u := 22) (e := 61) (by kernel_rfl) Tryd.underlying61 (by kernel_rfl) (by kernel_rfl) (by kernel_rfl) (by kernel_rfl) (by kernel_rfl) (by kernel_rfl) (by kernel_rfl) (by kernel_rfl) (by kernel_rfl) (hval 1 23 v1 rfl rfl) h1
  obtain ⟨x2, rfl, hx2⟩ := open_edit (k := 24) (s := 9) (e := 25) (u := 22) Tryd.underlying28 (by kernel_rfl) (by kernel_rfl) (by kernel_rfl) (by kernel_rfl) (by kernel_rfl) (by kernel_rfl) (hval 2 28 v2 rfl rfl)
  refine (fnExactCheckAfter_walk n0 hn0 a1 cs1 c1 x2 hx2 W hEt hz1 hl1).mono fun e W' ⟨he, hb⟩ => ?_
  subst he
  exact ⟨_, rfl, law_post laidOut rfl Tryd.underlying4 (of_all (by kernel_rfl)) rfl hW' rfl rfl rfl hb⟩

theorem fnExactCheckAfter_over : Rows.fnExactCheckAfterRow.holds Tryd.pinned (OpenSpec.ofChange Rows.fnExactCheckAfterSpec) :=
  OpenClaim.holds_of_wide 3 Tryd.f3 rfl rfl rfl rfl rfl rfl rfl ⟨rfl, rfl, rfl, rfl, rfl⟩ rfl rfl rfl rfl rfl (by kernel_rfl) Tryd.func3 (by kernel_rfl)
    (of_decide_eq_true (by kernel_rfl)) (by unfold Func.isWrapper; rw [if_neg (of_decide_eq_false (by kernel_rfl))]; exact ⟨rfl, rfl⟩)
    (fun os started H enc _ => fnExactCheckAfter_lifted os started H enc)

/-- The card. -/
theorem fnExactCheckAfter_holds : Rows.FnExactCheckAfterCardSaid :=
  Claim7.holds_tied_plain_at .later [] [.handle] true _ true fnExactCheckAfter_over (fun _ h => by cases h) (by kernel_rfl) (fun _ h => by cases h) fnExactCheckAfter_row_tie rfl ⟨rfl, rfl⟩ (by kernel_rfl) rfl
    (fun f fn hf hfn => by
      obtain rfl : f = 3 := Option.some.inj ((show Tryd.prog.funcNamed Tryd.f3.name = some 3 by kernel_rfl).symm.trans hf) |>.symm
      obtain rfl : fn = Tryd.f3 := (Option.some.inj (Tryd.func3.symm.trans hfn)).symm
      exact ⟨by kernel_rfl, fun j t ht => by
        rw [Tryd.params3] at ht
        have hm : t ∈ [22, 23, 28] := by simpa using Array.mem_of_getElem? ht
        have hall : ([22, 23, 28].all fun u => !Tryd.prog.wantsStandIn u) = true := by kernel_rfl
        exact (show Tryd.prog.wantsStandIn t = false by simpa using List.all_eq_true.1 hall t hm)⟩)
    (by kernel_rfl)
end
end Go.Proofs.YtpgonfeobfefaaaDoor


