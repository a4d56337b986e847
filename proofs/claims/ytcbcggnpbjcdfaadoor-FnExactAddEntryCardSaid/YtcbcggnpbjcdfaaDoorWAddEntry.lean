/- AddEntry answers, for every catalogue and every entry, as its model does; its answer is memory of its own. No conditions. -/
import Derived.Test.YtcbcggnpbjcdfaaDoorEAddS
import Derived.Test.YtcbcggnpbjcdfaaDoorEHeldC
import Derived.Test.YtcbcggnpbjcdfaaDoorELaw
import Derived.Test.YtcbcggnpbjcdfaaDoorDoor
import Derived.Deep.DeepCutAuto
namespace Go.Proofs.YtcbcggnpbjcdfaaDoor
open Go.ChangeShapes Go.WideShapes Go.ChangeAt Go.RowKit

theorem open_ent {P : Program} {w : World} {r : Reach} {base : Nat} {t : TypeId} {v : Value} {f0 f1 f2 : Field} {s e : TypeId} (hu : P.underlying t = some (.struct #[f0, f1, f2])) (hs : P.underlying s = some .string) (he : P.underlying e = some (.int .i64)) (hts : P.cellTypes P.depth t = some [s, e, e]) (hc : P.cellsOf t = 3)
    (h : Value.okWide P w r base t v) : ∃ (x : ByteArray) (a b : Int), v = .agg #[.string x, .int .i64 a, .int .i64 b] ∧ x.size ≤ maxLen ∧ I64 a ∧ I64 b := by
  obtain ⟨cs, rfl, hsz, hcell⟩ := open_cells ⟨_, hu, .inl ⟨_, rfl⟩⟩ hts hc h
  obtain ⟨c0, c1, c2, rfl⟩ := Go.Joins.array3 hsz
  obtain ⟨x, rfl, hx⟩ := cell_string hs (hcell 0 c0 s rfl rfl)
  obtain ⟨a, rfl, a1, a2⟩ := cell_int he (hcell 1 c1 e rfl rfl)
  obtain ⟨b, rfl, b1, b2⟩ := cell_int he (hcell 2 c2 e rfl rfl)
  simp [IntKind.min, IntKind.max, IntKind.signed, IntKind.bits] at a1 a2 b1 b2
  exact ⟨x, a, b, rfl, hx, ⟨by omega, by omega⟩, ⟨by omega, by omega⟩⟩
theorem entsIn_up {B : Nat} {w w' : World} {a : Option Addr} {cs : List Et} (h : EntsIn w a cs) (hB : w.heap.size ≤ B) (hb : Below B w w') : EntsIn w' a cs := entsIn_below h (hb.mono hB)
/-- One step behind a world whose own things stay. -/
theorem che {B : Nat} {w a b : World} (h : Below B w a) (hB : B ≤ w.heap.size) (k : Below a.heap.size a b) : Below B w b := h.trans (Below.mono k (Nat.le_trans hB h.size))
theorem addER_is {cs : List Et} {x : Et} (hx : x.fits) (hc : ∀ i, i < cs.length → (etAt cs i).fits) : ∃ zs cd, zs.length ≤ 1048576 ∧ (∀ i, i < zs.length → (etAt zs i).fits) ∧ addER cs x = EEL zs cd := by
  have none0 : ∀ i, i < ([] : List Et).length → (etAt [] i).fits := fun i hi => absurd hi (Nat.not_lt_zero _)
  cases hz : catOk cs
  · exact ⟨[], 1, by simp, none0, addER_bad x hz⟩
  · have hn := (cat_parts hz).1
    by_cases h40 : cs.length = 40
    · exact ⟨[], 3, by simp, none0, by rw [addER_ok x hz, (ad_full x h40).1, (ad_full x h40).2]⟩
    · cases hk : catOk (cs ++ [x])
      · exact ⟨[], 4, by simp, none0, by rw [addER_ok x hz, (ad_no h40 hk).1, (ad_no h40 hk).2]⟩
      · refine ⟨cs ++ [x], 0, by simp; omega, fun i hi => ?_, by rw [addER_ok x hz, (ad_yes h40 hk).1, (ad_yes h40 hk).2]⟩
        by_cases e : i < cs.length
        · rw [etAt_left e]; exact hc i e
        · have e2 : i = cs.length := by simp at hi; omega
          rw [e2, etAt_last]; exact hx

set_option maxRecDepth 100000 in
set_option maxHeartbeats 6400000 in
theorem fnExactAddEntry_walk (a1 : Option Addr) (cs : List Et) (c1 : Nat) (s : ByteArray) (xa xb : Int) (hs : s.size ≤ maxLen) (ha : I64 xa) (hb : I64 xb) (w : World) (h1 : EntsIn w a1 cs) (l1 : cs.length ≤ maxLen) :
    Calls Tryd.prog 13 #[.slice a1 cs.length c1, .agg #[.string s, .int .i64 xa, .int .i64 xb]] w fun e w' => e = .returned (.bool true) ∧ Below w.heap.size w w' := by
  have hf : (⟨s, xa, xb⟩ : Et).fits := ⟨hs, ha, hb⟩
  unfold maxLen at l1
  have b0 := below_new (Below.refl w.heap.size w) (.cells #[.string s, .int .i64 xa, .int .i64 xb] 45)
  have k0 : (w.alloc (.cells #[.string s, .int .i64 xa, .int .i64 xb] 45)).cell? ⟨w.heap.size, 0, none⟩ = some (.string s) := by simp
  have k1 : (w.alloc (.cells #[.string s, .int .i64 xa, .int .i64 xb] 45)).cell? ⟨w.heap.size, 1, none⟩ = some (.int .i64 xa) := by simp
  have k2 : (w.alloc (.cells #[.string s, .int .i64 xa, .int .i64 xb] 45)).cell? ⟨w.heap.size, 2, none⟩ = some (.int .i64 xb) := by simp
  have H0 := entsIn_below h1 b0
  have cf : ∀ i, i < cs.length → (etAt cs i).fits := fun i hi => (h1 i hi).1
  have Z1 := Lib.hid fun W hs => szEntryS_any a1 cs c1 1048576 W hs (by decide) (by decide) (by omega)
  clear h1 l1 ha hb
  go_enter Tryd.func13, Tryd.ntmps13
  go_upto_region 1 with fail
  generalize (w.alloc (.cells #[.string s, .int .i64 xa, .int .i64 xb] 45)) = w0 at *
  have lt0 := cell_lt k0
  have KE := Lib.hid fun w' (h : Below w0.heap.size w0 w') => (show w'.cell? ⟨w.heap.size, 0, none⟩ = some (.string s) ∧ w'.cell? ⟨w.heap.size, 1, none⟩ = some (.int .i64 xa) ∧ w'.cell? ⟨w.heap.size, 2, none⟩ = some (.int .i64 xb) from ⟨(h.cell (p := ⟨w.heap.size, 0, none⟩) lt0).trans k0, (h.cell (p := ⟨w.heap.size, 1, none⟩) lt0).trans k1, (h.cell (p := ⟨w.heap.size, 2, none⟩) lt0).trans k2⟩)
  have H0 := Lib.hid H0
  have b0 := Lib.hid b0
  clear k0 k1 k2
  go_upto_region 3 with (go_at_call 16; refine (Z1.out _ H0.out).mono ?_; rintro e w1 ⟨z, rfl, z0, z1, z2, hB⟩; have b1 := Lib.hid hB; clear hB)
  by_cases hz0 : z < 0
  · have d1 : decide (z < 0) = true := decide_eq_true hz0
    go_wp2
    go_returns
    exact ⟨rfl, b0.out.trans (b1.out.mono b0.out.size)⟩
  have d1 : decide (z < 0) = false := decide_eq_false hz0
  have n1 : cs.length ≤ 1048576 := z2 (by omega)
  have Z2 := fun W => szEntry_any s xa xb z hs (by omega) z1 W
  obtain ⟨r0, r1, r2⟩ := KE.out w1 b1.out
  by_cases hz2 : z - (s.size : Int) < 0
  · rw [esz_no hz2] at Z2
    have Z2 := Lib.hid Z2
    go_wp2_with (go_at_call 41; refine (Z2.out _).mono ?_; rintro e w2 ⟨rfl, hB⟩; have b2 := Lib.hid (b1.out.trans (hB.mono b1.out.size)); clear hB)
    go_returns
    exact ⟨rfl, b0.out.trans (b2.out.mono b0.out.size)⟩
  rw [esz_yes hz2] at Z2
  have d2 : decide (z - (s.size : Int) < 0) = false := decide_eq_false hz2
  have Z2 := Lib.hid Z2
  clear z0 z1 z2 hz0 hz2
  have T1 := Lib.hid fun W hs => toEntryS_any a1 cs c1 W hs n1
  have TE := Lib.hid fun W => toEntry_b s xa xb W
  have E1 := Lib.hid fun a b c d W ha hb => eqEntryS_same a b cs c d W ha hb n1
  have S := fun x c1 W hx => sAddEntry_any x cs c1 s xa xb hf W hx
  have I := fun x c1 W hx => iAddEntry_any x cs c1 s xa xb hf W hx
  obtain ⟨zs, cd, hm, fits, hR⟩ := addER_is hf cf
  rw [hR] at S I
  have E2 := Lib.hid fun a b c d W ha hb => eqEntryS_same a b zs c d W ha hb hm
  have S := Lib.hid S
  have I := Lib.hid I
  have FITS := Lib.hid fits
  have hk : 1 + 3 * cs.length ≤ 4000000 := by omega
  have hk2 : 1 + 3 * zs.length ≤ 4000000 := by omega
  have MK := fun g W hW hg => markEnts_any cs.length g 1 cs.length W hW hg hk
  have MO := fun B v W hO => markEntsOwn_any B zs v 1 W hO hk2
  have HC := fun a (ds : List Et) c W (hl : ds.length = zs.length) hC hM => (hl ▸ heldEnts_any a ds c 1 W hC hM (by rw [hl]; exact hk2) : Calls Tryd.prog 45 #[.slice a zs.length c, .int .i64 ((1 : Nat) : Int)] W fun e w' => e = .returned (.int .i64 ((1 + 3 * zs.length : Nat) : Int)) ∧ Below W.heap.size W w')
  generalize 1 + 3 * zs.length = kx at *
  generalize 1 + 3 * cs.length = kk at *
  have MK := Lib.hid MK
  have MO := Lib.hid MO
  have HC := Lib.hid HC
  have q0 : decide ((kk : Int) < 0) = false := by simp
  have q1 : decide ((kx : Int) < 0) = false := by simp
  have n3 : ((kx : Int) != (kx : Int)) = false := by simp
  have n4 : (cd != cd) = false := by simp
  clear hk hk2 fits n1 hm hR cf hs hf
  have tE1 : True := trivial
  have tS1 : True := trivial
  have tE2 : True := trivial
  have tS2 : True := trivial
  have tk3 : True := trivial
  have tk4 : True := trivial
  have tk5 : True := trivial
  have tk6 : True := trivial
  have tk7 : True := trivial
  have tk8 : True := trivial
  have tk9 : True := trivial
  have tk10 : True := trivial
  have tk11 : True := trivial
  have tk12 : True := trivial
  go_wp2_with (go_at_call 41; refine (Z2.out _).mono ?_; rintro e w2 ⟨rfl, hB⟩; have b2 := Lib.hid (b1.out.trans (hB.mono b1.out.size)); clear hB)
  go_region_held3 (fun w' => w'.cell? ⟨w.heap.size, 0, none⟩ = some (.string s) ∧ w'.cell? ⟨w.heap.size, 1, none⟩ = some (.int .i64 xa) ∧ w'.cell? ⟨w.heap.size, 2, none⟩ = some (.int .i64 xb))
    (first | exact KE.out _ B5.out | exact KE.out _ B4.out | exact KE.out _ B3.out | exact KE.out _ Q3.out | exact KE.out _ (bdrew b2.out) | exact KE.out _ b2.out | go_keep)
    (first
    | (go_at_call 18; have _t := tE1; clear _t; refine (T1.out _ (by first | exact entsIn_below H0.out b2.out | exact entsIn_below H0.out (bdrew b2.out))).mono ?_; rintro e w3 ⟨v, rfl, ⟨g3, rfl, _, _, hs, _⟩, hB⟩; have B3 := Lib.hid (show Below w0.heap.size w0 w3 from (by first | exact b2.out.trans (hB.mono b2.out.size) | exact (bdrew b2.out).trans (hB.mono b2.out.size))); have X3 := Lib.hid hs; clear tS1 hB hs)
    | (go_at_call 43; have _t := tE1; clear _t tE1; refine (TE.out _).mono ?_; rintro e w4 ⟨rfl, hB⟩; have B4 := Lib.hid (B3.out.trans (hB.mono B3.out.size)); have X4 := Lib.hid (entsIn_below X3.out hB); clear hB X3)
    | (go_at_call 43; have _t := tS1; clear _t tE1; refine (TE.out _).mono ?_; rintro e w3 ⟨rfl, hB⟩; have Q3 := Lib.hid (show Below w0.heap.size w0 w3 from (by first | exact b2.out.trans (hB.mono b2.out.size) | exact (bdrew b2.out).trans (hB.mono b2.out.size))); clear hB)
    | (go_at_call 18; have _t := tS1; clear _t tS1; refine (T1.out _ (entsIn_below H0.out Q3.out)).mono ?_; rintro e w4 ⟨v, rfl, ⟨g3, rfl, _, _, hs, _⟩, hB⟩; have B4 := Lib.hid (Q3.out.trans (hB.mono Q3.out.size)); have X4 := Lib.hid hs; clear hB hs Q3)
    | (go_at_call 42; refine (S.out _ _ _ X4.out).mono ?_; rintro e w5 ⟨v5, rfl, hO, hB⟩; obtain ⟨a5, c5, rfl, hi⟩ := ownEnts_in hO; have B5 := Lib.hid (B4.out.trans (hB.mono B4.out.size)); have S5 := Lib.hid (entsIn_of hi FITS.out); clear hB hi hO X4 B4))
  all_goals (go_wp2_with (first
    | (go_at_call 18; have _t := tk3; clear _t tk3; refine (T1.out _ (entsIn_below H0.out B5.out)).mono ?_; rintro e w6 ⟨v, rfl, ⟨g6, rfl, hg, hl, hs, hf⟩, hB⟩; have C6 := Lib.hid hB; have G6 := Lib.hid hg; have L6 := Lib.hid hl; have X6 := Lib.hid hs; have W6 := Lib.hid (wr_ents hs hf); obtain ⟨u0, u1, u2⟩ := KE.out w6 (B5.out.trans (hB.mono B5.out.size)); clear hB hs hf hg hl)
    | (go_at_call 43; have _t := tk4; clear _t tk4; refine (TE.out _).mono ?_; rintro e w7 ⟨rfl, hB⟩; have D7 := Lib.hid hB; have C7 := Lib.hid (che C6.out (Nat.le_refl _) hB); have X7 := Lib.hid (entsIn_below X6.out hB); have L7 := Lib.hid (Nat.lt_of_lt_of_le L6.out hB.size); clear hB X6)
    | (go_at_call 44; have _t := tk5; clear _t tk5; refine (I.out _ _ _ X7.out).mono ?_; rintro e w8 ⟨v8, rfl, hO, hB⟩; obtain ⟨a8, c8, rfl, hi⟩ := ownEnts_in hO; have O8 := Lib.hid hO; have I8 := Lib.hid (entsIn_of hi FITS.out); have D8 := Lib.hid (che D7.out (Nat.le_refl _) hB); have C8 := Lib.hid (che C7.out (Nat.le_refl _) hB); have X8 := Lib.hid (entsIn_below X7.out hB); clear hB hi hO)
    | (go_at_call 20; have _t := tk6; clear _t tk6; refine (E2.out _ _ _ _ _ I8.out (entsIn_up S5.out (Nat.le_refl _) C8.out)).mono ?_; rintro e w9 ⟨rfl, hB⟩; have C9 := Lib.hid (che C8.out (Nat.le_refl _) hB); have D9 := Lib.hid (che D8.out (Nat.le_refl _) hB); have X9 := Lib.hid (entsIn_below X8.out hB); have O9 := Lib.hid (ownEnts_kept O8.out hB); clear hB)
    | (go_at_call 18; have _t := tk7; clear _t tk7; refine (T1.out _ (entsIn_below H0.out (che B5.out (Nat.le_refl _) C9.out))).mono ?_; rintro e w10 ⟨v, rfl, ⟨g10, rfl, _, _, hs, _⟩, hB⟩; have Z10 := Lib.hid hs; have C10 := Lib.hid (che C9.out (Nat.le_refl _) hB); have D10 := Lib.hid (che D9.out (Nat.le_refl _) hB); have X10 := Lib.hid (entsIn_below X9.out hB); have O10 := Lib.hid (ownEnts_kept O9.out hB); clear hB hs)
    | (go_at_call 20; have _t := tk8; clear _t tk8; refine (E1.out _ _ _ _ _ X10.out Z10.out).mono ?_; rintro e w11 ⟨rfl, hB⟩; have C11 := Lib.hid (che C10.out (Nat.le_refl _) hB); have D11 := Lib.hid (che D10.out (Nat.le_refl _) hB); have O11 := Lib.hid (ownEnts_kept O10.out hB); clear hB)
    | (go_at_call 28; have _t := tk9; clear _t tk9; refine (MK.out _ _ (W6.out.below D11.out L6.out) (Nat.lt_of_lt_of_le L6.out D11.out.size)).mono ?_; rintro e w12 ⟨rfl, hO⟩; have O12 := Lib.hid (ownEnts_oth O11.out hO L7.out); have C12 := Lib.hid (C11.out.trans (Below.mono (hO.below (Nat.le_of_lt (Nat.lt_of_lt_of_le L6.out D11.out.size))) G6.out)); clear hO)
    | (go_at_call 20; have _t := tk10; clear _t tk10; have hx := O12.out; obtain ⟨_, _, hv, hi⟩ := ownEnts_in hx; cases hv; refine (E2.out _ _ _ _ _ (entsIn_of hi FITS.out) (entsIn_up S5.out (Nat.le_refl _) C12.out)).mono ?_; rintro e w13 ⟨rfl, hB⟩; have C13 := Lib.hid (che C12.out (Nat.le_refl _) hB); have O13 := Lib.hid (ownEnts_kept O12.out hB); clear hB hx hi)
    | (go_at_call 28; have _t := tk11; clear _t tk11; refine (MO.out _ _ _ O13.out).mono ?_; rintro e w14 ⟨rfl, ⟨ds, hdl, hdm, hO⟩, hB⟩; obtain ⟨am, cm, hv, hi⟩ := ownEnts_in hO; rw [hdl] at hv; cases hv; have M14 := Lib.hid hi; have DL := Lib.hid hdl; have DM := Lib.hid hdm; have C14 := Lib.hid (C13.out.trans (hB.mono C7.out.size)); clear hO hB hi hdl hdm)
    | (go_at_call 45; have _t := tk12; clear _t tk12; refine (HC.out _ _ _ _ DL.out M14.out DM.out).mono ?_; rintro e w15 ⟨rfl, hB⟩; have M15 := Lib.hid (cellsE_below M14.out hB); have C15 := Lib.hid (che C14.out (Nat.le_refl _) hB); have B15 := Lib.hid (che B5.out (Nat.le_refl _) C15.out); clear hB)))
  all_goals (go_region_held3 (fun w' => w'.cell? ⟨w.heap.size, 0, none⟩ = some (.string s) ∧ w'.cell? ⟨w.heap.size, 1, none⟩ = some (.int .i64 xa) ∧ w'.cell? ⟨w.heap.size, 2, none⟩ = some (.int .i64 xb))
    (first | exact KE.out _ (che B5.out (Nat.le_refl _) C18.out) | exact KE.out _ (che B5.out (Nat.le_refl _) C17.out) | exact KE.out _ (che B5.out (Nat.le_refl _) C16.out) | exact KE.out _ (che B5.out (Nat.le_refl _) Q16.out) | exact KE.out _ (bdrew B15.out) | exact KE.out _ B15.out | go_keep)
    (first
    | (go_at_call 18; have _t := tE2; clear _t; refine (T1.out _ (by first | exact entsIn_below H0.out B15.out | exact entsIn_below H0.out (bdrew B15.out))).mono ?_; rintro e w16 ⟨v, rfl, ⟨g16, rfl, _, _, hs, _⟩, hB⟩; have C16 := Lib.hid (show Below w5.heap.size w5 w16 from (by first | exact che C15.out (Nat.le_refl _) hB | exact che (bdrew C15.out) (Nat.le_refl _) hB)); have X16 := Lib.hid hs; have M16 := Lib.hid (show CellsE w16 _ _ from (by first | exact cellsE_below M15.out hB | exact cellsE_below M15.out ((bdrew (Below.refl _ _)).trans hB))); clear tS2 hB hs)
    | (go_at_call 43; have _t := tE2; clear _t tE2; refine (TE.out _).mono ?_; rintro e w17 ⟨rfl, hB⟩; have C17 := Lib.hid (che C16.out (Nat.le_refl _) hB); have X17 := Lib.hid (entsIn_below X16.out hB); have M17 := Lib.hid (cellsE_below M16.out hB); clear hB)
    | (go_at_call 43; have _t := tS2; clear _t tE2; refine (TE.out _).mono ?_; rintro e w16 ⟨rfl, hB⟩; have Q16 := Lib.hid (show Below w5.heap.size w5 w16 from (by first | exact che C15.out (Nat.le_refl _) hB | exact che (bdrew C15.out) (Nat.le_refl _) hB)); have N16 := Lib.hid (show CellsE w16 _ _ from (by first | exact cellsE_below M15.out hB | exact cellsE_below M15.out ((bdrew (Below.refl _ _)).trans hB))); clear hB)
    | (go_at_call 18; have _t := tS2; clear _t tS2; refine (T1.out _ (entsIn_below H0.out (che B5.out (Nat.le_refl _) Q16.out))).mono ?_; rintro e w17 ⟨v, rfl, ⟨g16, rfl, _, _, hs, _⟩, hB⟩; have C17 := Lib.hid (che Q16.out (Nat.le_refl _) hB); have X17 := Lib.hid hs; have M17 := Lib.hid (cellsE_below N16.out hB); clear hB hs)
    | (go_at_call 44; refine (I.out _ _ _ X17.out).mono ?_; rintro e w18 ⟨v18, rfl, hO, hB⟩; obtain ⟨a18, c18, rfl, hi⟩ := ownEnts_in hO; have I18 := Lib.hid (entsIn_of hi FITS.out); have M18 := Lib.hid (cellsE_below M17.out hB); have C18 := Lib.hid (che C17.out (Nat.le_refl _) hB); clear hB hi hO)))
  all_goals (go_wp2_with (first
    | (go_at_call 20; refine (E2.out _ _ _ _ _ I18.out (entsIn_up S5.out (Nat.le_refl _) C18.out)).mono ?_; rintro e w19 ⟨rfl, hB⟩; have M19 := Lib.hid (cellsE_below M18.out hB); have C19 := Lib.hid (che C18.out (Nat.le_refl _) hB); clear hB)
    | (go_at_call 45; refine (HC.out _ _ _ _ DL.out M19.out DM.out).mono ?_; rintro e w20 ⟨rfl, hB⟩; have C20 := Lib.hid (che C19.out (Nat.le_refl _) hB); clear hB)))
  all_goals go_returns
  all_goals exact ⟨rfl, b0.out.trans ((che B5.out (Nat.le_refl _) C20.out).mono b0.out.size)⟩
/-! ### The frame round the walk -/
section
set_option maxRecDepth 100000 in
theorem fnExactAddEntry_lifted (os : Os) (started : os.Started) (H : Type) (enc : TypeId × Value → H) :
    ReturnsInHanded {} Tryd.checked os 13 .any (fun w args => (Rows.fnExactAddEntrySpec.pre enc Tryd.prog Tryd.f13 Rows.fnExactAddEntryRow.domain false w args ∧ laidMetH Tryd.prog Rows.fnExactAddEntryRow.laid w) ∧ sizedMet enc Tryd.prog Tryd.f13 (OpenSpec.ofChange Rows.fnExactAddEntrySpec) false w args) (Rows.fnExactAddEntrySpec.post enc Tryd.prog Tryd.f13 false true false false) := by
  refine returnsInHanded_of_change_and (C := Tryd.checked) (X := fun w _ => laidMetH Tryd.prog Rows.fnExactAddEntryRow.laid w) (fun _ _ _ hh h => h.of_heap hh) own started (by kernel_rfl) Tryd.func13
    (ChangeSpec.witness_shaped (enc := enc) (C := Tryd.checked) (os := os) (X := fun w _ => laidMetH Tryd.prog Rows.fnExactAddEntryRow.laid w) false (World.laidAll Tryd.prog os Rows.fnExactAddEntryRow.laid) #[.slice none 0 0, .agg #[.string ByteArray.empty, .int .i64 0, .int .i64 0]] 8 (World.laidAll_os _ _ _)
      (World.shaped_of_ZipB (by kernel_rfl) (by kernel_rfl)) (by kernel_rfl) (by kernel_rfl) (by kernel_rfl)
      (by rw [MakeChecks.laidMetH_plain _ _ _ (by kernel_rfl)]; exact laidMet_laidAll _ (by kernel_rfl) (by kernel_rfl))) ?_
  intro W base args ds gs before hval0 hW _ _ _ _
  have hval : ∀ (j : Nat) t v, Tryd.f13.params[j]? = some t → args[j]? = some v → Value.okWide Tryd.prog W .any base t v := hval0
  have hW' := hW
  obtain ⟨p, q, hA0, hV, rfl, _, _⟩ := hW
  have hA : DataW.TrodAll enc Tryd.prog W 0 (fun _ => true) true Tryd.f13.params.toList args.toList ds p := hA0
  obtain ⟨rfl, rfl⟩ := trodVars_none hV
  have hlt : ∀ x ∈ p, x.block < W.heap.size := fun x hx => by simpa using hW'.lt x (by simpa using hx)
  rw [Tryd.params13] at hA hval
  obtain ⟨v0, vs0, d0, ds0, p0, q0, hargs, rfl, rfl, h0, r0⟩ := trodAll_cons hA
  obtain ⟨v1, vs1, d1, ds1, p1, q1, rfl, rfl, rfl, h1, r1⟩ := trodAll_cons r0
  obtain ⟨rfl, rfl, rfl⟩ := trodAll_nil r1
  obtain rfl : args = #[v0, v1] := by cases args; simp_all
  obtain ⟨a0, cs0, c0, rfl, hz0, hl0⟩ := open_ents (e := 45) (by kernel_rfl) Tryd.underlying45 (by kernel_rfl) (by kernel_rfl) (by kernel_rfl) (by kernel_rfl) (by kernel_rfl) (by kernel_rfl) (by kernel_rfl) (by kernel_rfl) (by kernel_rfl) (by kernel_rfl) (hval 0 23 v0 rfl rfl) h0
  obtain ⟨s1, a1, b1, rfl, hs1, ha1, hb1⟩ := open_ent (s := 9) (e := 2) Tryd.underlying45 (by kernel_rfl) (by kernel_rfl) (by kernel_rfl) (by kernel_rfl) (hval 1 45 v1 rfl rfl)
  refine (fnExactAddEntry_walk a0 cs0 c0 s1 a1 b1 hs1 ha1 hb1 W hz0 hl0).mono fun e W' ⟨he, hb⟩ => ?_
  subst he
  exact ⟨_, rfl, law_post laidOut rfl Tryd.underlying4 (of_all (by kernel_rfl)) rfl hW' rfl rfl rfl hb⟩

theorem fnExactAddEntry_over : Rows.fnExactAddEntryRow.holds Tryd.pinned (OpenSpec.ofChange Rows.fnExactAddEntrySpec) :=
  OpenClaim.holds_of_wide 13 Tryd.f13 rfl rfl rfl rfl rfl rfl rfl ⟨rfl, rfl, rfl, rfl, rfl⟩ rfl rfl rfl rfl rfl (by kernel_rfl) Tryd.func13 (by kernel_rfl)
    (of_decide_eq_true (by kernel_rfl)) (by unfold Func.isWrapper; rw [if_neg (of_decide_eq_false (by kernel_rfl))]; exact ⟨rfl, rfl⟩)
    (fun os started H enc _ => fnExactAddEntry_lifted os started H enc)

/-- The card. -/
theorem fnExactAddEntry_holds : Rows.FnExactAddEntryCardSaid :=
  Claim7.holds_tied_plain_at .later [] [.data, .pinned] true _ true fnExactAddEntry_over (fun _ h => by cases h) (by kernel_rfl) (fun _ h => by cases h) fnExactAddEntry_row_tie rfl ⟨rfl, rfl⟩ (by kernel_rfl) rfl
    (fun f fn hf hfn => by
      obtain rfl : f = 13 := Option.some.inj ((show Tryd.prog.funcNamed Tryd.f13.name = some 13 by kernel_rfl).symm.trans hf) |>.symm
      obtain rfl : fn = Tryd.f13 := (Option.some.inj (Tryd.func13.symm.trans hfn)).symm
      exact ⟨by kernel_rfl, fun j t ht => by
        rw [Tryd.params13] at ht
        have hm : t ∈ [23, 45] := by simpa using Array.mem_of_getElem? ht
        have hall : ([23, 45].all fun u => !Tryd.prog.wantsStandIn u) = true := by kernel_rfl
        exact (show Tryd.prog.wantsStandIn t = false by simpa using List.all_eq_true.1 hall t hm)⟩)
    (by kernel_rfl)
end
end Go.Proofs.YtcbcggnpbjcdfaaDoor

