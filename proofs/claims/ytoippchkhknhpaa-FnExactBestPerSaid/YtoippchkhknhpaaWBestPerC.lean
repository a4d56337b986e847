/- BestPer answers, for every mix and every lot, as its model does. No conditions. -/
import Derived.Test.YtoippchkhknhpaaBpC
namespace Go.Proofs.Ytoippchkhknhpaa
open Go.ChangeShapes Go.WideShapes Go.ChangeAt Go.RowKit

theorem bpV_parts (c : Int) (q : Nat × Nat) : ∃ x y k : Int, bpV c q = .tuple #[.int .i64 x, .int .i64 y, .int .i64 k] := ⟨_, _, _, rfl⟩
/-- Lists that may be written are not nil. -/
theorem lotW_n {w : World} {G H : Nat} {ls : List (List ByteArray)} {gs : Nat → Nat} (h : LotW w G H ls gs) (k : LotIn w (some ⟨G, 0, none⟩) ls) : LotN w (some ⟨G, 0, none⟩) ls := fun i hi => by
  obtain ⟨b, off, sa, sc, e, hlt, hc, hs, hf⟩ := k i hi
  cases e
  obtain ⟨c1, _⟩ := h.2.2 i hi
  rw [Nat.zero_add] at hc
  rw [c1] at hc
  cases hc
  exact ⟨G, 0, gs i, _, rfl, hlt, by rw [Nat.zero_add]; exact c1, hs, hf⟩

set_option maxRecDepth 100000 in
set_option maxHeartbeats 1600000 in
theorem fnExactBestPer_walk (t z p : Int) (ht : I16 t) (hz : I16 z) (hp : I16 p) (ad : Option Addr) (ls : List (List ByteArray)) (c : Nat) (w : World) (h : LotIn w ad ls) (hl : ls.length ≤ maxLen) :
    Calls Try.prog 9 #[.agg #[.int .i16 t, .int .i16 z, .int .i16 p], .slice ad ls.length c] w fun e w' => e = .returned (.bool true) ∧ Below w.heap.size w w' := by
  unfold maxLen at hl
  have SZ := Lib.hid fun W hs => szLot_any ad ls c 1048576 W hs (Nat.le_refl _) (by omega)
  have b0 : Below w.heap.size w (w.alloc (.cells #[.int .i16 t, .int .i16 z, .int .i16 p] 24)) := below_new (Below.refl _ _) _
  have B0 := Lib.hid b0
  have MX := Lib.hid (block_alloc w (.cells #[.int .i16 t, .int .i16 z, .int .i16 p] 24))
  have H := Lib.hid h
  clear h b0
  go_enter Try.func9, Try.ntmps9
  go_upto_region 3 with (go_at_call 13; refine (SZ.out _ (lotIn_below H.out B0.out)).mono ?_; rintro e w1 ⟨u, rfl, y0, y1, y2, rfl⟩)
  by_cases hy : u < 0
  · have d1 : decide (u < 0) = true := decide_eq_true hy
    go_wp2
    go_returns
    exact ⟨rfl, B0.out⟩
  have d1 : decide (u < 0) = false := decide_eq_false hy
  have n1 := y2 (by omega)
  obtain ⟨Fs, hF⟩ : ∃ Fs, mixOk t z p = true → StopsP t z Fs := by
    cases h : mixOk t z p
    · exact ⟨fun _ _ => 0, fun e => absurd e (by decide)⟩
    · obtain ⟨t0, z0, tz, p1, p8, pz⟩ := mix_inv h
      obtain ⟨Fs, hF⟩ := stopsP_some t0 z0 tz
      exact ⟨Fs, fun _ => hF⟩
  have I := fun W a' c' hs => iBp_any t z p ht hz Fs hF a' ls c' W hs (by have := n1.1; omega)
  have S := fun W a' c' hs => sBp_any t z p ht hz hp Fs hF a' ls c' W hs (by have := n1.1; omega)
  obtain ⟨x, y, k, hx⟩ := bpV_parts (mlC (mixOk t z p) ls) (bpTo (fun k => cfAll t z (Fs k) ls) (mostP z).toNat)
  rw [hx] at I S
  have I := Lib.hid I
  have S := Lib.hid S
  have TO := Lib.hid fun W hs => toLot_any ad ls c W hs n1
  have TW := Lib.hid fun W hs => toLotW_any ad ls c W hs n1
  have EQ := Lib.hid fun a b c d W ha hb => eqLot_same a b ls c d W ha hb n1.1
  have hxx : (x != x) = false := by simp
  have hk : (k != k) = false := by simp
  have hy2 : (y != y) = false := by simp
  clear hx ht hz hp hl y2 n1 SZ hF
  have tok1 : True := trivial
  have tok2 : True := trivial
  have tok3 : True := trivial
  have tok4 : True := trivial
  go_wp2_with (first
    | (go_at_call 15; have _t := tok1; clear _t tok1; refine (toMix_any _ _ _ _).mono ?_; rintro e w1 ⟨rfl, hB⟩; have b1 := Lib.hid (B0.out.trans (Below.mono hB B0.out.size)); have m1 := Lib.hid (Ab.block hB MX.out); clear hB)
    | (go_at_call 16; have _t := tok2; clear _t tok2; refine (TO.out _ (lotIn_below H.out b1.out)).mono ?_; rintro e w2 ⟨a2, rfl, hs2, hB⟩; have b2 := Lib.hid (b1.out.trans (Below.mono hB b1.out.size)); have m2 := Lib.hid (Ab.block hB m1.out); have s2 := Lib.hid hs2; clear hB hs2)
    | (go_at_call 43; refine (S.out _ _ _ s2.out).mono ?_; rintro e w3 ⟨rfl, hB⟩; have b3 := Lib.hid (b2.out.trans (Below.mono hB b2.out.size)); have m3 := Ab.block hB m2.out; have k3 := cell_of_block m3; have y3 := lt_of_block m3; have m3 := Lib.hid m3; clear hB)
    | (go_at_call 16; have _t := tok3; clear _t tok3; refine (TW.out _ (lotIn_below H.out b3.out)).mono ?_; rintro e w4 ⟨gs4, rfl, hw4, hi4, hB⟩; have hs4 := lotW_n hw4 hi4; clear hw4 hi4; have b4 := Lib.hid (b3.out.trans (Below.mono hB b3.out.size)); have m4 := Ab.block hB m3.out; have k4 := cell_of_block m4; have y4 := lt_of_block m4; have m4 := Lib.hid m4; have s4 := Lib.hid hs4; clear hB hs4 k3 y3)
    | (go_at_call 15; have _t := tok4; clear _t tok4; refine (toMix_any _ _ _ _).mono ?_; rintro e w5 ⟨rfl, hB⟩; have b5 := Lib.hid (b4.out.trans (Below.mono hB b4.out.size)); have s5 := Lib.hid (lotN_below s4.out hB); clear hB)
    | (go_at_call 44; refine (I.out _ _ _ s5.out).mono ?_; rintro e w6 ⟨rfl, hB⟩; have b6 := Lib.hid (b5.out.trans (Below.mono hB b5.out.size)); have s6 := Lib.hid (lotIn_below (lotN_in s5.out) hB); clear hB)
    | (go_at_call 16; refine (TO.out _ (lotIn_below H.out b6.out)).mono ?_; rintro e w7 ⟨a7, rfl, hs7, hB⟩; have b7 := Lib.hid (b6.out.trans (Below.mono hB b6.out.size)); have s7 := Lib.hid (lotIn_below s6.out hB); have r7 := Lib.hid hs7; clear hB hs7)
    | (go_at_call 19; refine (EQ.out _ _ _ _ _ s7.out r7.out).mono ?_; rintro e w8 ⟨rfl, hB⟩; have b8 := Lib.hid (b7.out.trans (Below.mono hB b7.out.size)); clear hB))
  all_goals go_returns
  all_goals exact ⟨rfl, b8.out⟩
/-! ### The frame round the walk -/
section
set_option maxRecDepth 100000 in
theorem fnExactBestPer_lifted (os : Os) (started : os.Started) (H : Type) (enc : TypeId × Value → H) :
    ReturnsInHanded {} Try.checked os 9 .any (Rows.fnExactBestPerSpec.pre6 enc Try.prog Try.f9 Rows.fnExactBestPerRow.domain false) (Rows.fnExactBestPerSpec.post enc Try.prog Try.f9 false true false false) := by
  refine returnsInHanded_of_change_sized (C := Try.checked) own started (by kernel_rfl) Try.func9
    (ChangeSpec.witness6 (enc := enc) (C := Try.checked) false ⟨#[], #[.agg #[.int .i16 0, .int .i16 0, .int .i16 0], .slice none 0 0], []⟩ 8 (by kernel_rfl) (by kernel_rfl) (by kernel_rfl) (by kernel_rfl)) ?_
  intro W base args ds gs before hval hW _ hsz _
  have hW' := hW
  obtain ⟨p, q, hA, hV, rfl, _, _⟩ := hW
  obtain ⟨rfl, rfl⟩ := trodVars_none hV
  have hlt : ∀ x ∈ p, x.block < W.heap.size := fun x hx => by simpa using hW'.lt x (by simpa using hx)
  rw [Try.params9] at hA hval hsz
  obtain ⟨v0, vs0, d0, ds0, p0, q0, hargs, rfl, rfl, h0, r0⟩ := trodAll_cons hA
  obtain ⟨v1, vs1, d1, ds1, p1, q1, rfl, rfl, rfl, h1, r1⟩ := trodAll_cons r0
  obtain ⟨rfl, rfl, rfl⟩ := trodAll_nil r1
  obtain rfl : args = #[v0, v1] := by cases args; simp_all
  obtain ⟨t0, z0, p0, rfl, ht0, hz0, hp0⟩ := open_mix (e := 22) Try.underlying24 (by kernel_rfl) (by kernel_rfl) (by kernel_rfl) (hval 0 24 v0 rfl rfl)
  obtain ⟨a1, ls1, c1, rfl, hz1, hl1⟩ := open_lot (e := 37) (u := 9) (by kernel_rfl) (by kernel_rfl) (by kernel_rfl) (by kernel_rfl) (by kernel_rfl) (hval 1 25 v1 rfl rfl) h1
  refine (fnExactBestPer_walk t0 z0 p0 ht0 hz0 hp0 a1 ls1 c1 W hz1 hl1).mono fun e W' ⟨he, hb⟩ => ?_
  subst he
  exact ⟨_, rfl, law_post laidOut rfl Try.underlying4 (of_all (by kernel_rfl)) rfl hW' rfl rfl rfl hb⟩

theorem fnExactBestPer_over : Rows.fnExactBestPerRow.holds Try.pinned (OpenSpec.ofChange Rows.fnExactBestPerSpec) :=
  OpenClaim.holds_of_wide 9 Try.f9 rfl rfl rfl rfl rfl rfl rfl ⟨rfl, rfl, rfl, rfl, rfl⟩ rfl rfl rfl rfl rfl (by kernel_rfl) Try.func9 (by kernel_rfl)
    (of_decide_eq_true (by kernel_rfl)) (by unfold Func.isWrapper; rw [if_neg (of_decide_eq_false (by kernel_rfl))]; exact ⟨rfl, rfl⟩)
    (fun os started H enc _ => fnExactBestPer_lifted os started H enc)

/-- The statement. -/
theorem fnExactBestPer_holds : Rows.FnExactBestPerSaid := fnExactBestPer_over
end
end Go.Proofs.Ytoippchkhknhpaa
