/- FirstFrom answers, for every deck, every field and every key, as its model does. No conditions. -/
import Derived.Test.YthkmahcdojoioabFirst
import Derived.Test.YthkmahcdojoioabDeck3
import Derived.Test.YthkmahcdojoioabFlds2
import Derived.Test.YthkmahcdojoioabMake1
import Derived.Deep.DeepCutAuto
namespace Go.Proofs.Ythkmahcdojoioab
open Go.ChangeShapes Go.WideShapes Go.ChangeAt Go.RowKit


/-- The field's box of the law's own. -/
def LBox (w W : World) (s : ByteArray) (k st sz : Int) : Prop := W.heap[w.heap.size]? = some (.cells #[.string s, .int .i8 k, .int .i16 st, .int .i16 sz] 26 (0, 0)) ∧ Below w.heap.size w W
theorem lBox_start (w : World) (s : ByteArray) (k st sz : Int) : LBox w (w.alloc (.cells #[.string s, .int .i8 k, .int .i16 st, .int .i16 sz] 26)) s k st sz := ⟨block_alloc _ _, below_new (Below.refl _ _) _⟩
theorem lBox_ab {w W W' : World} {s : ByteArray} {k st sz : Int} (h : LBox w W s k st sz) (hb : Ab W W') : LBox w W' s k st sz := ⟨hb.block h.1, h.2.trans (Below.mono hb h.2.size)⟩

set_option maxHeartbeats 1600000 in
theorem fnExactFirstFrom_walk (a1 : Option Addr) (cs : List Cd) (c1 : Nat) (s : ByteArray) (k st sz : Int) (hs : s.size ≤ maxLen) (hk : I8 k) (ht : I16 st) (hz : I16 sz) (x : Int) (_hx : I64 x) (w : World) (h1 : CardsIn w a1 cs) (l1 : cs.length ≤ maxLen) :
    Calls Try.prog 4 #[.slice a1 cs.length c1, .agg #[.string s, .int .i8 k, .int .i16 st, .int .i16 sz], .int .i64 x] w fun e w' => e = .returned (.bool true) ∧ Below w.heap.size w w' := by
  unfold maxLen at l1
  have B0 := Lib.hid (lBox_start w s k st sz)
  have H1 := Lib.hid (cardsIn_below h1 B0.out.2)
  have Z1 := Lib.hid fun W hs => szCardS_any a1 cs c1 1048576 W hs (by decide) (by decide) (by omega)
  clear l1
  have H0 := Lib.hid h1
  clear h1
  go_enter Try.func4, Try.ntmps4
  go_upto_region 3 with (go_at_call 15; refine (Z1.out _ H1.out).mono ?_; rintro e w1 ⟨z, rfl, z0, z1, z2, hB⟩; have B1 := Lib.hid (lBox_ab B0.out hB); have c0 := cell_of_block B1.out.1; clear hB)
  by_cases hz0 : z < 0
  · have d1 : decide (z < 0) = true := decide_eq_true hz0
    go_wp2
    go_returns
    exact ⟨rfl, B1.out.2⟩
  have d1 : decide (z < 0) = false := decide_eq_false hz0
  have n1 : cs.length ≤ 1048576 := z2 (by omega)
  have Z2 := Lib.hid fun W => szField_any s k st sz z hs (by omega) (by omega) W
  clear z0 z2 hz0
  by_cases hy0 : szf z s.size < 0
  · have d2 : decide (szf z s.size < 0) = true := decide_eq_true hy0
    go_wp2_with (go_at_call 16; refine (Z2.out _).mono ?_; rintro e w2 ⟨rfl, hB⟩; have B2 := Lib.hid (lBox_ab B1.out hB); clear hB)
    go_returns
    exact ⟨rfl, B2.out.2⟩
  have d2 : decide (szf z s.size < 0) = false := decide_eq_false hy0
  have T1 := Lib.hid fun W hs => toCardS_any a1 cs c1 W hs n1
  have TF := Lib.hid fun W => toField_b s k st sz W
  have E1 := Lib.hid fun a b c d W ha hb => eqCardS_same a b cs c d W ha hb n1
  clear _hx
  obtain ⟨r, hr⟩ := ord_first k st sz cs x
  have S := fun a c W ha => sFirst_any s k st sz hs ht hz a cs c x r hr W ha
  have I := fun a c W ha => iFirst_any s k st sz hs hk ht hz a cs c x r hr W ha
  obtain ⟨p, q, hx⟩ := ffR_parts (deckOk cs && fieldOk s k st sz) (ordC k st sz cs) r
  rw [hx] at S I
  clear hx hr
  have np : (p != p) = false := by simp
  have nq : (q != q) = false := by simp
  have S := Lib.hid S
  have I := Lib.hid I
  clear hs hk ht hz n1 z1 hy0
  generalize szf z s.size = zz at *
  go_upto_region 8 with (go_at_call 16; refine (Z2.out _).mono ?_; rintro e w2 ⟨rfl, hB⟩; have B2 := Lib.hid (lBox_ab B1.out hB); clear hB)
  clear c0
  refine wp_region_make1_at (Y := Unit) 1 3 (fun x W => CardsIn W x cs) (fun _ _ => True) (fun _ _ _ h hb => cardsIn_below h hb) (fun _ _ _ _ _ => trivial) (fun x => .slice x cs.length cs.length) (fun _ => .tuple #[.int .i64 p, .int .i64 q]) (by kernel_rfl) rfl rfl rfl (by kernel_rfl) rfl rfl () ?_
  simp only [Nat.reduceAdd, List.take_succ_cons, List.take_zero, List.drop_succ_cons, List.drop_zero]
  have hbw := cell_bw
  intro v1 hv1
  repeat (go_big_quiet_step (fail))
  refine wpQuiet_nil ?_
  refine ⟨?_, ?_⟩
  · intro v2 hv2
    go_simp
    simp only [Yld]
    refine ⟨trivial, (T1.out v2 (cardsIn_below H0.out (B2.out.2.trans (Below.mono hv2 B2.out.2.size)))).mono ?_⟩
    rintro e v3 ⟨v, rfl, ⟨g, rfl, _, _, hc, _⟩, hb⟩
    exact ⟨_, rfl, _, rfl, hb, hc⟩
  intro x v2 hv2
  simp only [Act.put, List.setIfInBounds_toArray, List.set_cons_succ, List.set_cons_zero]
  have c0 := cell_of_block (lBox_ab B2.out hv2).1
  have z0 := lt_of_block (lBox_ab B2.out hv2).1
  repeat (go_big_quiet_step (first | (go_at_call 19; exact calls_bw (TF.out _))))
  refine wpQuiet_nil ?_
  clear c0 z0
  refine ⟨?_, ?_⟩
  · intro v3 hv3 hx
    go_simp
    simp only [Yld]
    refine ⟨trivial, (S.out x cs.length v3 hx).mono ?_⟩
    rintro e v4 ⟨rfl, hb⟩
    exact ⟨_, rfl, rfl, hb⟩
  rintro ⟨⟩
  simp only [List.setIfInBounds_toArray, List.set_cons_succ, List.set_cons_zero]
  refine ⟨rfl, _, fun _ => rfl, ?_⟩
  simp only [Act.put, List.setIfInBounds_toArray, List.set_cons_succ, List.set_cons_zero]
  refine ⟨rfl, _, fun _ => rfl, ?_⟩
  simp only [Act.put, List.setIfInBounds_toArray, List.set_cons_succ, List.set_cons_zero]
  refine ⟨rfl, _, fun _ => rfl, ?_⟩
  simp only [Act.put, List.setIfInBounds_toArray, List.set_cons_succ, List.set_cons_zero]
  refine ⟨rfl, _, fun _ => rfl, ?_⟩
  simp only [Act.put, List.setIfInBounds_toArray, List.set_cons_succ, List.set_cons_zero]
  refine ⟨rfl, _, fun _ => rfl, ?_⟩
  simp only [Act.put, List.setIfInBounds_toArray, List.set_cons_succ, List.set_cons_zero]
  intro w3 hw3 _ _
  have B3 := Lib.hid (lBox_ab B2.out hw3)
  have c0 := cell_of_block B3.out.1
  clear hw3 hv1 hv2 hbw
  have tok1 : True := trivial
  go_wp2_with (first
    | (go_at_call 18; have _t := tok1; clear _t tok1; refine (T1.out _ (cardsIn_below H0.out B3.out.2)).mono ?_; rintro e w4 ⟨v, rfl, ⟨g4, rfl, _, _, hs4, _⟩, hB⟩; have B4 := Lib.hid (lBox_ab B3.out hB); have s4 := Lib.hid hs4; clear c0; have c0 := cell_of_block B4.out.1; clear hB hs4)
    | (go_at_call 19; refine (TF.out _).mono ?_; rintro e w5 ⟨rfl, hB⟩; have B5 := Lib.hid (lBox_ab B4.out hB); have s5 := Lib.hid (cardsIn_below s4.out hB); clear hB)
    | (go_at_call 23; refine (I.out _ _ _ s5.out).mono ?_; rintro e w6 ⟨rfl, hB⟩; have B6 := Lib.hid (lBox_ab B5.out hB); have s6 := Lib.hid (cardsIn_below s5.out hB); clear hB)
    | (go_at_call 18; refine (T1.out _ (cardsIn_below H0.out B6.out.2)).mono ?_; rintro e w7 ⟨v, rfl, ⟨g7, rfl, _, _, hs7, _⟩, hB⟩; have B7 := Lib.hid (lBox_ab B6.out hB); have s7 := Lib.hid (cardsIn_below s6.out hB); have r7 := Lib.hid hs7; clear hB hs7)
    | (go_at_call 21; refine (E1.out _ _ _ _ _ s7.out r7.out).mono ?_; rintro e w8 ⟨rfl, hB⟩; have B8 := Lib.hid (lBox_ab B7.out hB); clear hB))
  all_goals go_returns
  all_goals exact ⟨rfl, B8.out.2⟩
/-! ### The frame round the walk -/
section
set_option maxRecDepth 100000 in
theorem fnExactFirstFrom_lifted (os : Os) (started : os.Started) (H : Type) (enc : TypeId × Value → H) :
    ReturnsInHanded {} Try.checked os 4 .any (Rows.fnExactFirstFromSpec.pre6 enc Try.prog Try.f4 Rows.fnExactFirstFromRow.domain false) (Rows.fnExactFirstFromSpec.post enc Try.prog Try.f4 false true false false) := by
  refine returnsInHanded_of_change_sized (C := Try.checked) own started (by kernel_rfl) Try.func4
    (ChangeSpec.witness6 (enc := enc) (C := Try.checked) false ⟨#[], #[.slice none 0 0, .agg #[.string ByteArray.empty, .int .i8 0, .int .i16 0, .int .i16 0], .int .i64 0], []⟩ 8 (by kernel_rfl) (by kernel_rfl) (by kernel_rfl) (by kernel_rfl)) ?_
  intro W base args ds gs before hval hW _ hsz _
  have hW' := hW
  obtain ⟨p, q, hA, hV, rfl, _, _⟩ := hW
  obtain ⟨rfl, rfl⟩ := trodVars_none hV
  have hlt : ∀ x ∈ p, x.block < W.heap.size := fun x hx => by simpa using hW'.lt x (by simpa using hx)
  rw [Try.params4] at hA hval hsz
  obtain ⟨v0, vs0, d0, ds0, p0, q0, hargs, rfl, rfl, h0, r0⟩ := trodAll_cons hA
  obtain ⟨v1, vs1, d1, ds1, p1, q1, rfl, rfl, rfl, h1, r1⟩ := trodAll_cons r0
  obtain ⟨v2, vs2, d2, ds2, p2, q2, rfl, rfl, rfl, h2, r2⟩ := trodAll_cons r1
  obtain ⟨rfl, rfl, rfl⟩ := trodAll_nil r2
  obtain rfl : args = #[v0, v1, v2] := by cases args; simp_all
  obtain ⟨a0, cs0, c0, rfl, hz0, hl0⟩ := open_cards (u := 40) (e := 89) (by kernel_rfl) Try.underlying89 (by kernel_rfl) (by kernel_rfl) (by kernel_rfl) (by kernel_rfl) (by kernel_rfl) (by kernel_rfl) (by kernel_rfl) (by kernel_rfl) (by kernel_rfl) (hval 0 22 v0 rfl rfl) h0
  obtain ⟨s1, k1, st1, sz1, rfl, hs1, hk1, hst1, hsz1⟩ := open_field (s := 9) (k := 23) (e := 24) Try.underlying26 (by kernel_rfl) (by kernel_rfl) (by kernel_rfl) (by kernel_rfl) (by kernel_rfl) (hval 1 26 v1 rfl rfl)
  obtain ⟨n2, rfl, hn2⟩ := open_i64 (by kernel_rfl) (hval 2 2 v2 rfl rfl)
  refine (fnExactFirstFrom_walk a0 cs0 c0 s1 k1 st1 sz1 hs1 hk1 hst1 hsz1 n2 hn2 W hz0 hl0).mono fun e W' ⟨he, hb⟩ => ?_
  subst he
  exact ⟨_, rfl, law_post laidOut rfl Try.underlying4 (of_all (by kernel_rfl)) rfl hW' rfl rfl rfl hb⟩

theorem fnExactFirstFrom_over : Rows.fnExactFirstFromRow.holds Try.pinned (OpenSpec.ofChange Rows.fnExactFirstFromSpec) :=
  OpenClaim.holds_of_wide 4 Try.f4 rfl rfl rfl rfl rfl rfl rfl ⟨rfl, rfl, rfl, rfl, rfl⟩ rfl rfl rfl rfl rfl (by kernel_rfl) Try.func4 (by kernel_rfl)
    (of_decide_eq_true (by kernel_rfl)) (by unfold Func.isWrapper; rw [if_neg (of_decide_eq_false (by kernel_rfl))]; exact ⟨rfl, rfl⟩)
    (fun os started H enc _ => fnExactFirstFrom_lifted os started H enc)

/-- The statement. -/
theorem fnExactFirstFrom_holds : Rows.FnExactFirstFromSaid := fnExactFirstFrom_over
end
end Go.Proofs.Ythkmahcdojoioab
