/- FullestOf answers, for every mix and every list of masks, as its model does. No conditions. -/
import Derived.Test.YtaiedpblfnaooabFull
namespace Go.Proofs.Ytaiedpblfnaooab
open Go.ChangeShapes Go.WideShapes Go.ChangeAt Go.RowKit

theorem fuV_parts (c : Int) (q : Int × Int) : ∃ x y k : Int, fuV c q = .tuple #[.int .i64 x, .int .i64 y, .int .i64 k] := ⟨_, _, _, rfl⟩

set_option maxHeartbeats 1600000 in
theorem fnExactFullestOf_walk (t z p : Int) (ht : I16 t) (hz : I16 z) (hp : I16 p) (ad : Option Addr) (zs : List (Int × Int)) (cap : Nat) (w : World) (h : MasksIn w ad zs) (hf : ∀ i, i < zs.length → U64 (zs.getD i (0, 0)).1 ∧ U64 (zs.getD i (0, 0)).2) (hl : zs.length ≤ maxLen) :
    Calls Try.prog 11 #[.agg #[.int .i16 t, .int .i16 z, .int .i16 p], .slice ad zs.length cap] w fun e w' => e = .returned (.bool true) ∧ Below w.heap.size w w' := by
  unfold maxLen at hl
  have SZ := fun W => szMasks_any ad zs cap 1048576 W (by omega) (Nat.le_refl _)
  have b0 : Below w.heap.size w (w.alloc (.cells #[.int .i16 t, .int .i16 z, .int .i16 p] 56)) := below_new (Below.refl _ _) _
  have B0 := Lib.hid b0
  have MX := Lib.hid (block_alloc w (.cells #[.int .i16 t, .int .i16 z, .int .i16 p] 56))
  have H := Lib.hid h
  by_cases h1 : zs.length ≤ 1048576
  · have hn := h1
    simp only [if_pos h1] at SZ
    have SZ := Lib.hid SZ
    have I := fun W a c hs => iFull_any t z p ht hz a zs c W hs hf hn
    have S := fun W a c hs => sFull_any t z p ht hz hp a zs c W hs hf hn
    obtain ⟨x, y, k, hx⟩ := fuV_parts (fuC (mixOk t z p) zs) (fb t z zs (0, -1) zs.length)
    rw [hx] at I S
    have I := Lib.hid I
    have S := Lib.hid S
    have TO := Lib.hid fun W hs => toMasks_any ad zs cap W hs hn
    have EQ := Lib.hid fun a b c d W ha hb => eqMasks_same a b zs c d W ha hb hn
    have d1 : decide ((1048576 : Int) - (zs.length : Int) < 0) = false := decide_eq_false (by omega)
    clear hx ht hz hp h hf hl b0 h1
    have tok1 : True := trivial
    have tok2 : True := trivial
    have tok3 : True := trivial
    have tok4 : True := trivial
    go_enter Try.func11, Try.ntmps11
    go_wp2_with (first
      | (go_at_call 48; refine (SZ.out _).mono ?_; rintro e w1 ⟨rfl, rfl⟩)
      | (go_at_call 38; have _t := tok1; clear _t tok1; refine (toMix_any _ _ _ _).mono ?_; rintro e w1 ⟨rfl, hB⟩; have b1 := Lib.hid (B0.out.trans (Below.mono hB B0.out.size)); have m1 := Lib.hid (Ab.block hB MX.out); clear hB)
      | (go_at_call 50; have _t := tok2; clear _t tok2; refine (TO.out _ (masksIn_below H.out b1.out)).mono ?_; rintro e w2 ⟨a2, rfl, hs2, hB⟩; have b2 := Lib.hid (b1.out.trans (Below.mono hB b1.out.size)); have m2 := Lib.hid (Ab.block hB m1.out); have s2 := Lib.hid hs2; clear hB hs2)
      | (go_at_call 49; refine (S.out _ _ _ s2.out).mono ?_; rintro e w3 ⟨rfl, hB⟩; have b3 := Lib.hid (b2.out.trans (Below.mono hB b2.out.size)); have m3 := Ab.block hB m2.out; have k3 := cell_of_block m3; have y3 := lt_of_block m3; have m3 := Lib.hid m3; clear hB)
      | (go_at_call 50; have _t := tok3; clear _t tok3; refine (TO.out _ (masksIn_below H.out b3.out)).mono ?_; rintro e w4 ⟨a4, rfl, hs4, hB⟩; have b4 := Lib.hid (b3.out.trans (Below.mono hB b3.out.size)); have m4 := Ab.block hB m3.out; have k4 := cell_of_block m4; have y4 := lt_of_block m4; have m4 := Lib.hid m4; have s4 := Lib.hid hs4; clear hB hs4 k3 y3)
      | (go_at_call 38; have _t := tok4; clear _t tok4; refine (toMix_any _ _ _ _).mono ?_; rintro e w5 ⟨rfl, hB⟩; have b5 := Lib.hid (b4.out.trans (Below.mono hB b4.out.size)); have s5 := Lib.hid (masksIn_below s4.out hB); clear hB)
      | (go_at_call 51; refine (I.out _ _ _ s5.out).mono ?_; rintro e w6 ⟨rfl, hB⟩; have b6 := Lib.hid (b5.out.trans (Below.mono hB b5.out.size)); have s6 := Lib.hid (masksIn_below s5.out hB); clear hB)
      | (go_at_call 50; refine (TO.out _ (masksIn_below H.out b6.out)).mono ?_; rintro e w7 ⟨a7, rfl, hs7, hB⟩; have b7 := Lib.hid (b6.out.trans (Below.mono hB b6.out.size)); have s7 := Lib.hid (masksIn_below s6.out hB); have r7 := Lib.hid hs7; clear hB hs7)
      | (go_at_call 52; refine (EQ.out _ _ _ _ _ s7.out r7.out).mono ?_; rintro e w8 ⟨rfl, hB⟩; have b8 := Lib.hid (b7.out.trans (Below.mono hB b7.out.size)); clear hB))
    all_goals go_returns
    all_goals exact ⟨rfl, b8.out⟩
  · simp only [if_neg h1] at SZ
    have SZ := Lib.hid SZ
    clear ht hz hp h hf hl b0 h1
    go_enter Try.func11, Try.ntmps11
    go_wp2_with (go_at_call 48; refine (SZ.out _).mono ?_; rintro e w1 ⟨rfl, rfl⟩)
    go_returns
    exact ⟨rfl, B0.out⟩
/-! ### The frame round the walk -/
section
set_option maxRecDepth 100000 in
theorem fnExactFullestOf_lifted (os : Os) (started : os.Started) (H : Type) (enc : TypeId × Value → H) :
    ReturnsInHanded {} Try.checked os 11 .any (Rows.fnExactFullestOfSpec.pre6 enc Try.prog Try.f11 Rows.fnExactFullestOfRow.domain false) (Rows.fnExactFullestOfSpec.post enc Try.prog Try.f11 false true false false) := by
  refine returnsInHanded_of_change_sized (C := Try.checked) own started (by kernel_rfl) Try.func11
    (ChangeSpec.witness6 (enc := enc) (C := Try.checked) false ⟨#[], #[.agg #[.int .i16 0, .int .i16 0, .int .i16 0], .slice none 0 0], []⟩ 8 (by kernel_rfl) (by kernel_rfl) (by kernel_rfl) (by kernel_rfl)) ?_
  intro W base args ds gs before hval hW _ hsz _
  have hW' := hW
  obtain ⟨p, q, hA, hV, rfl, _, _⟩ := hW
  obtain ⟨rfl, rfl⟩ := trodVars_none hV
  have hlt : ∀ x ∈ p, x.block < W.heap.size := fun x hx => by simpa using hW'.lt x (by simpa using hx)
  rw [Try.params11] at hA hval hsz
  obtain ⟨v0, vs0, d0, ds0, p0, q0, hargs, rfl, rfl, h0, r0⟩ := trodAll_cons hA
  obtain ⟨v1, vs1, d1, ds1, p1, q1, rfl, rfl, rfl, h1, r1⟩ := trodAll_cons r0
  obtain ⟨rfl, rfl, rfl⟩ := trodAll_nil r1
  obtain rfl : args = #[v0, v1] := by cases args; simp_all
  obtain ⟨t0, z0, p0, rfl, ht0, hz0, hp0⟩ := open_mix (e := 23) Try.underlying56 (by kernel_rfl) (by kernel_rfl) (by kernel_rfl) (hval 0 56 v0 rfl rfl)
  obtain ⟨a1, ms1, c1, rfl, hs1, hf1, hl1⟩ := open_maskS (e := 48) (u := 47) (by kernel_rfl) (by kernel_rfl) (by kernel_rfl) (by kernel_rfl) (by kernel_rfl) (hval 1 71 v1 rfl rfl) h1
  refine (fnExactFullestOf_walk t0 z0 p0 ht0 hz0 hp0 a1 ms1 c1 W hs1 hf1 hl1).mono fun e W' ⟨he, hb⟩ => ?_
  subst he
  exact ⟨_, rfl, law_post laidOut rfl Try.underlying4 (of_all (by kernel_rfl)) rfl hW' rfl rfl rfl hb⟩

theorem fnExactFullestOf_over : Rows.fnExactFullestOfRow.holds Try.pinned (OpenSpec.ofChange Rows.fnExactFullestOfSpec) :=
  OpenClaim.holds_of_wide 11 Try.f11 rfl rfl rfl rfl rfl rfl rfl ⟨rfl, rfl, rfl, rfl, rfl⟩ rfl rfl rfl rfl rfl (by kernel_rfl) Try.func11 (by kernel_rfl)
    (of_decide_eq_true (by kernel_rfl)) (by unfold Func.isWrapper; rw [if_neg (of_decide_eq_false (by kernel_rfl))]; exact ⟨rfl, rfl⟩)
    (fun os started H enc _ => fnExactFullestOf_lifted os started H enc)

/-- The statement. -/
theorem fnExactFullestOf_holds : Rows.FnExactFullestOfSaid := fnExactFullestOf_over
end
end Go.Proofs.Ytaiedpblfnaooab
