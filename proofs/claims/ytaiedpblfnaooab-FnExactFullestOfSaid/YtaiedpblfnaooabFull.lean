/- Contracts: FullestOf, the program's and the model's. -/
import Derived.Test.YtaiedpblfnaooabWordH
import Derived.Test.YtaiedpblfnaooabMPart
import Derived.Test.YtaiedpblfnaooabMskL
namespace Go.Proofs.Ytaiedpblfnaooab
open Go.ChangeShapes Go.WideShapes Go.ChangeAt Go.RowKit

set_option maxHeartbeats 1600000 in
theorem iAreMasks_any (a : Option Addr) (ms : List (Int × Int)) (cap : Nat) (w : World) (h : MasksIn w a ms) (hl : ms.length ≤ 9223372036854775807) :
    Calls Try.prog 97 #[.slice a ms.length cap] w fun e w' => e = .returned (.bool (masksOk ms)) ∧ Below w.heap.size w w' := by
  have H := Lib.hid h
  clear h
  go_enter Try.func97, Try.ntmps97
  go_wp2
  go_loopw [7] (fun i wr => ∃ k : Nat, k ≤ ms.length ∧ i = .int .i64 (k : Int) ∧ MasksTo ms k ∧ Below w.heap.size w wr) (fun i _ => ms.length - (intOf i).toNat)
  case atStart => exact ⟨0, Nat.zero_le _, rfl, fun j hj => absurd hj (Nat.not_lt_zero _), Below.refl _ _⟩
  case round =>
    obtain ⟨k, hk, rfl, hg, hBr⟩ := hrel
    have hg := Lib.hid hg
    have BR := Lib.hid hBr
    by_cases hlt : k < ms.length
    · have d2 : decide ((k : Int) < (ms.length : Int)) = true := by simpa using hlt
      obtain ⟨b, off, rfl, hb, hc0, hc1⟩ := H.out k hlt
      have x0 := (hBr.cell (p := ⟨b, off + k * 2, none⟩) hb).trans hc0
      have x1 := (hBr.cell (p := ⟨b, off + k * 2 + 1, none⟩) hb).trans hc1
      have hsz := hBr.size
      clear hc0 hc1 hBr
      have W := fun W => iMaskOk_any (ms.getD k (0, 0)).1 (ms.getD k (0, 0)).2 W
      cases hn : mOk (ms.getD k (0, 0)).2
      · have f := Lib.hid (masks_bad hlt hn)
        rw [hn] at W
        have W := Lib.hid W
        clear hn
        generalize (ms.getD k (0, 0)).1 = x at *
        generalize (ms.getD k (0, 0)).2 = y at *
        go_wp2_with (go_at_call 83; refine (W.out _).mono ?_; rintro e w2 ⟨rfl, hB2⟩; have B2 := Lib.hid ((BR.out.alloc hsz _).trans (Below.mono hB2 (by simp; omega))); clear hB2)
        go_returns
        exact ⟨ret_bool f.out.symm, B2.out⟩
      · have f := Lib.hid (masksTo_next hg.out hn)
        rw [hn] at W
        have W := Lib.hid W
        clear hn
        generalize (ms.getD k (0, 0)).1 = x at *
        generalize (ms.getD k (0, 0)).2 = y at *
        go_wp2_with (go_at_call 83; refine (W.out _).mono ?_; rintro e w2 ⟨rfl, hB2⟩; have B2 := Lib.hid ((BR.out.alloc hsz _).trans (Below.mono hB2 (by simp; omega))); clear hB2)
        go_roundw
        case rel => exact ⟨k + 1, by omega, by go_num, f.out, B2.out⟩
        case measure => simp [intOf]; omega
    · obtain rfl : k = ms.length := by omega
      have d2 : decide ((ms.length : Int) < (ms.length : Int)) = false := by simp
      have f := Lib.hid (masks_yes hg.out)
      clear hBr
      go_wp2
      go_returns
      exact ⟨ret_bool f.out.symm, BR.out⟩

/-! ### The fullest so far -/
/-- How many holes of the mix the mask with index k has. -/
def fc (t z : Int) (ms : List (Int × Int)) (k : Nat) : Nat := cnt (bits .and .u64 (ms.getD k (0, 0)).1 (mp0 t z)).toNat (bits .and .u64 (ms.getD k (0, 0)).2 (mp1 t z)).toNat
/-- The index and the number, after k masks: the program's (from 0, 0) and the model's (from 0, -1) agree from the first mask on. -/
def fb (t z : Int) (ms : List (Int × Int)) (s : Int × Int) : Nat → Int × Int
  | 0 => s
  | k + 1 => if (fb t z ms s k).2 < fc t z ms k then ((k : Int), (fc t z ms k : Int)) else fb t z ms s k
theorem fb_same (t z : Int) (ms : List (Int × Int)) : ∀ k, fb t z ms (0, 0) (k + 1) = fb t z ms (0, -1) (k + 1)
  | 0 => by
    show (if (0 : Int) < fc t z ms 0 then (((0 : Nat) : Int), (fc t z ms 0 : Int)) else (0, 0)) = if (-1 : Int) < fc t z ms 0 then (((0 : Nat) : Int), (fc t z ms 0 : Int)) else (0, -1)
    rw [if_pos (show (-1 : Int) < fc t z ms 0 by omega)]
    split
    · rfl
    · have : fc t z ms 0 = 0 := by omega
      rw [this]; rfl
  | k + 1 => by
    rw [fb, fb_same t z ms k]
    rfl
theorem fb_in (t z : Int) (ms : List (Int × Int)) (s : Int × Int) (hs : 0 ≤ s.1 ∧ s.1 ≤ 0 ∧ -1 ≤ s.2 ∧ s.2 ≤ 128) : ∀ k : Nat, 0 ≤ (fb t z ms s k).1 ∧ (fb t z ms s k).1 ≤ k ∧ -1 ≤ (fb t z ms s k).2 ∧ (fb t z ms s k).2 ≤ 128
  | 0 => by show 0 ≤ s.1 ∧ s.1 ≤ ((0 : Nat) : Int) ∧ -1 ≤ s.2 ∧ s.2 ≤ 128; omega
  | k + 1 => by
    have ih := fb_in t z ms s hs k
    have hc : fc t z ms k ≤ 128 := cnt_le _ _
    rw [fb]
    split
    · exact ⟨by show (0 : Int) ≤ (k : Int); omega, by show (k : Int) ≤ ((k + 1 : Nat) : Int); omega, by show (-1 : Int) ≤ (fc t z ms k : Int); omega, by show (fc t z ms k : Int) ≤ 128; omega⟩
    · omega
def fuC (ok : Bool) (ms : List (Int × Int)) : Int := if askC ok ms [] 0 = 0 then (if ms.length = 0 then 6 else 0) else askC ok ms [] 0
def fuV (c : Int) (p : Int × Int) : Value := .tuple #[.int .i64 (if c = 0 then p.1 else 0), .int .i64 (if c = 0 then p.2 else 0), .int .i64 c]
theorem fuV_no {c : Int} {p : Int × Int} (h : c ≠ 0) : fuV c p = .tuple #[.int .i64 0, .int .i64 0, .int .i64 c] := by unfold fuV; rw [if_neg h, if_neg h]
theorem fuV_yes (p : Int × Int) : fuV 0 p = .tuple #[.int .i64 p.1, .int .i64 p.2, .int .i64 0] := rfl
theorem wc_nil : wordsC [] 0 = 0 := by decide
theorem ask_nil {ms : List (Int × Int)} (h : masksOk ms = true) (hl : ms.length ≤ 60) : askC true ms [] 0 = 0 := by rw [ask_4 [] 0 h hl, wc_nil]
theorem fu_1 (ms : List (Int × Int)) : fuC false ms = 1 := rfl
theorem fu_2 {ms : List (Int × Int)} (h : masksOk ms = false) : fuC true ms = 1 := by unfold fuC; rw [ask_2 [] 0 h]; rfl
theorem fu_3 {ms : List (Int × Int)} (h : masksOk ms = true) (hl : 60 < ms.length) : fuC true ms = 2 := by unfold fuC; rw [ask_3 [] 0 h hl]; rfl
theorem fu_4 {ms : List (Int × Int)} (h : masksOk ms = true) (hl : ms.length = 0) : fuC true ms = 6 := by unfold fuC; rw [ask_nil h (by omega), if_pos rfl, if_pos hl]
theorem fu_5 {ms : List (Int × Int)} (h : masksOk ms = true) (hl : ms.length ≤ 60) (h0 : ms.length ≠ 0) : fuC true ms = 0 := by unfold fuC; rw [ask_nil h hl, if_pos rfl, if_neg h0]
theorem and_in {x y : Int} (hx : U64 x) (hy : U64 y) : bits .and .u64 x y = ((bits .and .u64 x y).toNat : Int) ∧ (bits .and .u64 x y).toNat < 18446744073709551616 := by
  have e := Go.u64_and x y hx.1 hx.2 hy.1 hy.2
  have h1 := hx.2
  have hxn := hx.1
  have hb : x.toNat &&& y.toNat < 2 ^ 64 := Nat.and_lt_two_pow _ (by have := hy.1; have := hy.2; omega)
  rw [e]
  refine ⟨by rw [Int.toNat_natCast], ?_⟩
  rw [Int.toNat_natCast]
  omega
theorem mp_in {t z : Int} (t0 : 0 ≤ t) (z0 : 4 ≤ z) (tz : t + z ≤ 96) : U64 (mp0 t z) ∧ U64 (mp1 t z) := by
  obtain ⟨n, rfl⟩ := Int.eq_ofNat_of_zero_le (show 0 ≤ z by omega)
  obtain ⟨e0, e1⟩ := part_is t n t0 (by omega) tz
  rw [← e0, ← e1]
  exact ma_in t t0 n tz
theorem iMeetN {x y u v : Int} (hx : U64 x) (hy : U64 y) (hu : U64 u) (hv : U64 v) (w : World) : Calls Try.prog 98 #[.agg #[.int .u64 x, .int .u64 y], .agg #[.int .u64 u, .int .u64 v]] w fun e w' => e = .returned (.agg #[.int .u64 ((bits .and .u64 x u).toNat : Int), .int .u64 ((bits .and .u64 y v).toNat : Int)]) ∧ Below w.heap.size w w' :=
  (iMeet_any x y u v w).mono fun e w' ⟨he, hw⟩ => ⟨by rw [he, ← (and_in hx hu).1, ← (and_in hy hv).1], by subst hw; exact (by repeat' (first | (with_reducible exact Below.refl _ _) | (with_reducible assumption) | (with_reducible refine below_drewN ?_ _) | (with_reducible refine Below.drew ?_) | (with_reducible refine below_new ?_ _) | (with_reducible refine below_next ?_ (by with_reducible assumption)) | (with_reducible refine Below.setCell ?_ ?_ _) | go_size))⟩
theorem sMeetN {x y u v : Int} (hx : U64 x) (hy : U64 y) (hu : U64 u) (hv : U64 v) (w : World) : Calls Try.prog 96 #[.agg #[.int .u64 x, .int .u64 y], .agg #[.int .u64 u, .int .u64 v]] w fun e w' => e = .returned (.agg #[.int .u64 ((bits .and .u64 x u).toNat : Int), .int .u64 ((bits .and .u64 y v).toNat : Int)]) ∧ Below w.heap.size w w' :=
  (sMeetMasks_any x y u v w).mono fun e w' ⟨he, hw⟩ => ⟨by rw [he, ← (and_in hx hu).1, ← (and_in hy hv).1], by subst hw; exact (by repeat' (first | (with_reducible exact Below.refl _ _) | (with_reducible assumption) | (with_reducible refine below_drewN ?_ _) | (with_reducible refine Below.drew ?_) | (with_reducible refine below_new ?_ _) | (with_reducible refine below_next ?_ (by with_reducible assumption)) | (with_reducible refine Below.setCell ?_ ?_ _) | go_size))⟩

set_option maxHeartbeats 1600000 in
theorem iFull_any (t z p : Int) (ht : I16 t) (hz : I16 z) (a : Option Addr) (ms : List (Int × Int)) (cap : Nat) (w : World) (h : MasksIn w a ms) (hU : ∀ i, i < ms.length → U64 (ms.getD i (0, 0)).1 ∧ U64 (ms.getD i (0, 0)).2) (hl : ms.length ≤ 1048576) :
    Calls Try.prog 51 #[.agg #[.int .i16 t, .int .i16 z, .int .i16 p], .slice a ms.length cap] w fun e w' => e = .returned (fuV (fuC (mixOk t z p) ms) (fb t z ms (0, -1) ms.length)) ∧ Below w.heap.size w w' := by
  have V := Lib.hid fun W => iValidMix_any t z p ht hz W
  have M0 := Lib.hid (block_alloc w (.cells #[.int .i16 t, .int .i16 z, .int .i16 p] 59))
  have B0 := Lib.hid (below_new (Below.refl w.heap.size w) (.cells #[.int .i16 t, .int .i16 z, .int .i16 p] 59))
  have K := Lib.hid fun W hb => iAreMasks_any a ms cap W (masksIn_below h hb) (by omega)
  have H := Lib.hid h
  have UU := Lib.hid hU
  clear h hU ht hz
  cases hv : mixOk t z p
  · rw [hv] at V
    have f := Lib.hid (show fuV (fuC false ms) (fb t z ms (0, -1) ms.length) = .tuple #[.int .i64 0, .int .i64 0, .int .i64 1] by rw [fu_1]; rfl)
    clear hv
    go_enter Try.func51, Try.ntmps51
    go_wp2_with (go_at_call 89; refine (V.out _).mono ?_; rintro e w1 ⟨rfl, hB⟩; have b1 := Lib.hid (B0.out.trans (Below.mono hB B0.out.size)); clear hB)
    go_ret3
    exact ⟨ret_v f.out, b1.out⟩
  · rw [hv] at V
    obtain ⟨t0, z0, tz, p1, p8, pz⟩ := mix_inv hv
    clear hv
    cases hk : masksOk ms
    · rw [hk] at K
      have f := Lib.hid (show fuV (fuC true ms) (fb t z ms (0, -1) ms.length) = .tuple #[.int .i64 0, .int .i64 0, .int .i64 1] by rw [fu_2 hk]; rfl)
      clear hk
      go_enter Try.func51, Try.ntmps51
      go_wp2_with (first | (go_at_call 89; refine (V.out _).mono ?_; rintro e w1 ⟨rfl, hB⟩; have b1 := Lib.hid (B0.out.trans (Below.mono hB B0.out.size)); clear hB) | (go_at_call 97; refine (K.out _ b1.out).mono ?_; rintro e w2 ⟨rfl, hB⟩; have b2 := Lib.hid (b1.out.trans (Below.mono hB b1.out.size)); clear hB))
      go_ret3
      exact ⟨ret_v f.out, b2.out⟩
    · rw [hk] at K
      by_cases hl1 : 60 < ms.length
      · have f := Lib.hid (show fuV (fuC true ms) (fb t z ms (0, -1) ms.length) = .tuple #[.int .i64 0, .int .i64 0, .int .i64 2] by rw [fu_3 hk hl1]; rfl)
        have d1 : decide ((60 : Int) < (ms.length : Int)) = true := by simp; omega
        clear hk
        go_enter Try.func51, Try.ntmps51
        go_wp2_with (first | (go_at_call 89; refine (V.out _).mono ?_; rintro e w1 ⟨rfl, hB⟩; have b1 := Lib.hid (B0.out.trans (Below.mono hB B0.out.size)); clear hB) | (go_at_call 97; refine (K.out _ b1.out).mono ?_; rintro e w2 ⟨rfl, hB⟩; have b2 := Lib.hid (b1.out.trans (Below.mono hB b1.out.size)); clear hB))
        go_ret3
        exact ⟨ret_v f.out, b2.out⟩
      · have d1 : decide ((60 : Int) < (ms.length : Int)) = false := by simp; omega
        by_cases hl0 : ms.length = 0
        · have f := Lib.hid (show fuV (fuC true ms) (fb t z ms (0, -1) ms.length) = .tuple #[.int .i64 0, .int .i64 0, .int .i64 6] by rw [fu_4 hk hl0]; rfl)
          have d2 : ((ms.length : Int) == 0) = true := by simp [hl0]
          clear hk hl0
          go_enter Try.func51, Try.ntmps51
          go_wp2_with (first | (go_at_call 89; refine (V.out _).mono ?_; rintro e w1 ⟨rfl, hB⟩; have b1 := Lib.hid (B0.out.trans (Below.mono hB B0.out.size)); clear hB) | (go_at_call 97; refine (K.out _ b1.out).mono ?_; rintro e w2 ⟨rfl, hB⟩; have b2 := Lib.hid (b1.out.trans (Below.mono hB b1.out.size)); clear hB))
          go_ret3
          exact ⟨ret_v f.out, b2.out⟩
        · have d2 : ((ms.length : Int) == 0) = false := beq_eq_false_iff_ne.2 (by omega)
          have ef : fb t z ms (0, -1) ms.length = fb t z ms (0, 0) ms.length := by
            obtain ⟨q, hq⟩ : ∃ q, ms.length = q + 1 := ⟨ms.length - 1, by omega⟩
            rw [hq]; exact (fb_same t z ms q).symm
          have f := Lib.hid (show fuV (fuC true ms) (fb t z ms (0, -1) ms.length) = .tuple #[.int .i64 (fb t z ms (0, 0) ms.length).1, .int .i64 (fb t z ms (0, 0) ms.length).2, .int .i64 0] by rw [fu_5 hk (by omega) hl0, ef]; rfl)
          have PA := Lib.hid fun W => iPart_any t z p t0 z0 tz W
          have PU := Lib.hid (mp_in t0 z0 tz)
          clear hk ef
          have hbw := cell_bw
          go_enter Try.func51, Try.ntmps51
          go_wp2_with (first | (go_at_call 89; refine (V.out _).mono ?_; rintro e w1 ⟨rfl, hB⟩; have b1 := Lib.hid (B0.out.trans (Below.mono hB B0.out.size)); have m1 := Lib.hid (Ab.block hB M0.out); clear hB) | (go_at_call 97; refine (K.out _ b1.out).mono ?_; rintro e w2 ⟨rfl, hB⟩; have b2 := Lib.hid (b1.out.trans (Below.mono hB b1.out.size)); have m2 := Lib.hid (Ab.block hB m1.out); clear hB))
          go_loopw [7, 8, 28] (fun i n c wr => ∃ k : Nat, k ≤ ms.length ∧ c = .int .i64 (k : Int) ∧ i = .int .i64 (fb t z ms (0, 0) k).1 ∧ n = .int .i64 (fb t z ms (0, 0) k).2 ∧ wr.heap[w.heap.size]? = some (.cells #[.int .i16 t, .int .i16 z, .int .i16 p] 59 (0, 0)) ∧ Below w.heap.size w wr) (fun _ _ c _ => ms.length - (intOf c).toNat)
          case atStart => exact ⟨0, Nat.zero_le _, rfl, rfl, rfl, m2.out, b2.out⟩
          case round =>
            obtain ⟨k, hk, rfl, rfl, rfl, hm, hBr⟩ := hrel
            have BR := Lib.hid hBr
            have HMx := Lib.hid hm
            clear d1 d2
            by_cases hlt : k < ms.length
            · have d2 : decide ((k : Int) < (ms.length : Int)) = true := by simpa using hlt
              obtain ⟨b, off, rfl, hb, hc0, hc1⟩ := H.out k hlt
              obtain ⟨ux, uy⟩ := UU.out k hlt
              have x0 := (hBr.cell (p := ⟨b, off + k * 2, none⟩) hb).trans hc0
              have x1 := (hBr.cell (p := ⟨b, off + k * 2 + 1, none⟩) hb).trans hc1
              have ME := Lib.hid fun W => iMeetN ux uy PU.out.1 PU.out.2 W
              have CN := Lib.hid fun W => iCount_any _ _ (and_in ux PU.out.1).2 (and_in uy PU.out.2).2 W
              have en : fb t z ms (0, 0) (k + 1) = if (fb t z ms (0, 0) k).2 < fc t z ms k then ((k : Int), (fc t z ms k : Int)) else fb t z ms (0, 0) k := rfl
              have efc : fc t z ms k = cnt (bits .and .u64 (ms.getD k (0, 0)).1 (mp0 t z)).toNat (bits .and .u64 (ms.getD k (0, 0)).2 (mp1 t z)).toNat := rfl
              rw [← efc] at CN
              have hsz := hBr.size
              clear hc0 hc1 hBr hm efc ux uy
              generalize fc t z ms k = C at *
              generalize hq : fb t z ms (0, 0) k = q at *
              obtain ⟨q1, q2⟩ := q
              generalize (ms.getD k (0, 0)).1 = x at *
              generalize (ms.getD k (0, 0)).2 = y at *
              generalize (bits .and .u64 x (mp0 t z)).toNat = X at *
              generalize (bits .and .u64 y (mp1 t z)).toNat = Y at *
              have EN := Lib.hid en
              clear en
              go_upto_region 11 with fail
              have Mx := Lib.hid (Ab.block (below_new (Below.refl _ wr) (.cells #[.int .u64 x, .int .u64 y] 50)) HMx.out)
              have Bx := Lib.hid (block_alloc wr (.cells #[.int .u64 x, .int .u64 y] 50))
              have BA := Lib.hid (BR.out.alloc hsz (.cells #[.int .u64 x, .int .u64 y] 50))
              generalize wr.alloc (.cells #[.int .u64 x, .int .u64 y] 50) = wn at *
              have c0 := cell_of_block Mx.out
              have c1 := cell_of_block Bx.out
              have s0 := lt_of_block Mx.out
              have s1 := lt_of_block Bx.out
              clear x0 x1
              refine region_bw (by kernel_rfl) (by kernel_rfl) ?_
              repeat (go_big_quiet_step (first | (go_at_call 99; exact calls_all PA.out) | (go_at_call 98; exact calls_all ME.out) | (go_at_call 94; exact calls_all CN.out)))
              refine wpQuiet_nil ?_; intro wq hq2
              have hq2 := below_of_bw hq2
              have B9 := Lib.hid (BA.out.trans (Below.mono hq2 BA.out.size))
              have M9 := Lib.hid (Ab.block hq2 Mx.out)
              clear hq2 c0 c1 s0 s1
              by_cases hgt : q2 < (C : Int)
              · have d5 : decide (q2 < (C : Int)) = true := decide_eq_true hgt
                have en := EN.out
                rw [if_pos hgt] at en
                have EN2 := Lib.hid en
                clear en
                go_wp2
                go_roundw
                case rel => exact ⟨k + 1, hlt, by go_num, by rw [EN2.out], by rw [EN2.out], M9.out, B9.out⟩
                case measure => simp [intOf]; omega
              · have d5 : decide (q2 < (C : Int)) = false := decide_eq_false hgt
                have en := EN.out
                rw [if_neg hgt] at en
                have EN2 := Lib.hid en
                clear en
                go_wp2
                go_roundw
                case rel => exact ⟨k + 1, hlt, by go_num, by rw [EN2.out], by rw [EN2.out], M9.out, B9.out⟩
                case measure => simp [intOf]; omega
            · obtain rfl : k = ms.length := by omega
              have d2 : decide ((ms.length : Int) < (ms.length : Int)) = false := by simp
              clear hBr hm
              go_wp2
              go_ret3
              exact ⟨ret_v f.out, BR.out⟩

set_option maxHeartbeats 1600000 in
theorem sFull_any (t z p : Int) (ht : I16 t) (hz : I16 z) (hp : I16 p) (a : Option Addr) (ms : List (Int × Int)) (cap : Nat) (w : World) (h : MasksIn w a ms) (hU : ∀ i, i < ms.length → U64 (ms.getD i (0, 0)).1 ∧ U64 (ms.getD i (0, 0)).2) (hl : ms.length ≤ 1048576) :
    Calls Try.prog 49 #[.agg #[.int .i16 t, .int .i16 z, .int .i16 p], .slice a ms.length cap] w fun e w' => e = .returned (fuV (fuC (mixOk t z p) ms) (fb t z ms (0, -1) ms.length)) ∧ Below w.heap.size w w' := by
  have M0 := block_alloc w (.cells #[.int .i16 t, .int .i16 z, .int .i16 p] 59)
  have B1 : Below w.heap.size w ((w.alloc (.cells #[.int .i16 t, .int .i16 z, .int .i16 p] 59)).alloc (.cells #[] 9)) := below_new (below_new (Below.refl _ _) _) _
  have M1 := Ab.block (below_new (Below.refl _ (w.alloc (.cells #[.int .i16 t, .int .i16 z, .int .i16 p] 59))) (.cells #[] 9)) M0
  have Q := sAsk_any t z p ht hz hp w.heap.size 0 a (some ⟨w.heap.size + 1, 0, none⟩) ms [] cap 0 0 _ (by simp) (by simp) (by simp) (masksIn_below h B1) (fun i hi => absurd hi (Nat.not_lt_zero i)) (fun i hi => absurd hi (Nat.not_lt_zero i)) (by omega) (by simp)
  have H := Lib.hid h
  have UU := Lib.hid hU
  have M := Lib.hid M1
  have BB1 := Lib.hid B1
  have fu : fuC (mixOk t z p) ms = if askC (mixOk t z p) ms [] 0 = 0 then (if ms.length = 0 then 6 else 0) else askC (mixOk t z p) ms [] 0 := rfl
  generalize fuC (mixOk t z p) ms = cd at fu ⊢
  generalize hc : askC (mixOk t z p) ms [] 0 = c at Q fu
  have Q := Lib.hid Q
  have FU := Lib.hid fu
  clear h hU ht hz hp M0 B1 M1 fu
  by_cases h0 : c = 0
  · subst h0
    obtain ⟨t0, z0, tz, p1, p8, pz⟩ := mix_inv (ask_ok hc)
    clear hc
    by_cases hl0 : ms.length = 0
    · have f := Lib.hid (show fuV cd (fb t z ms (0, -1) ms.length) = .tuple #[.int .i64 0, .int .i64 0, .int .i64 6] by rw [FU.out, if_pos rfl, if_pos hl0]; rfl)
      have d2 : ((ms.length : Int) == 0) = true := by simp [hl0]
      clear hl0
      go_enter Try.func49, Try.ntmps49
      go_wp2_with (go_at_call 85; refine Q.out.mono ?_; rintro e w1 ⟨rfl, hB⟩; have b1 := Lib.hid (BB1.out.trans (Below.mono hB BB1.out.size)); clear hB)
      go_ret3
      exact ⟨ret_v f.out, b1.out⟩
    · have f := Lib.hid (show fuV cd (fb t z ms (0, -1) ms.length) = .tuple #[.int .i64 (fb t z ms (0, -1) ms.length).1, .int .i64 (fb t z ms (0, -1) ms.length).2, .int .i64 0] by rw [FU.out, if_pos rfl, if_neg hl0]; rfl)
      have d2 : ((ms.length : Int) == 0) = false := beq_eq_false_iff_ne.2 (by omega)
      obtain ⟨n, rfl⟩ := Int.eq_ofNat_of_zero_le (show 0 ≤ z by omega)
      have PU := Lib.hid (mp_in t0 z0 tz)
      have e := part_is t n t0 (by omega) tz
      have PA := fun W c0 c1 => sMPart_any t n n rfl t0 tz w.heap.size 0 W c0 c1
      rw [e.1, e.2] at PA
      have PA := Lib.hid PA
      clear hl0 e
      have hbw := cell_bw
      go_enter Try.func49, Try.ntmps49
      go_wp2_with (first | (go_at_call 85; refine Q.out.mono ?_; rintro e w1 ⟨rfl, hB⟩; have b1 := Lib.hid (BB1.out.trans (Below.mono hB BB1.out.size)); have m1 := Lib.hid (Ab.block hB M.out); clear hB) | (go_at_call 95; refine (PA.out _ (by simpa using cell_of_block m1.out 0) (by simpa using cell_of_block m1.out 1)).mono ?_; rintro e w2 ⟨rfl, hB⟩; have b2 := Lib.hid (b1.out.trans (Below.mono hB b1.out.size)); clear hB))
      have BX := Lib.hid (block_alloc w2 (.cells #[.int .u64 (mp0 t n), .int .u64 (mp1 t n)] 50))
      have BY := Lib.hid (b2.out.alloc b2.out.size (.cells #[.int .u64 (mp0 t n), .int .u64 (mp1 t n)] 50))
      go_loopw [9, 10, 11] (fun i m c wr => ∃ k : Nat, k ≤ ms.length ∧ c = .int .i64 (k : Int) ∧ i = .int .i64 (fb t n ms (0, -1) k).1 ∧ m = .int .i64 (fb t n ms (0, -1) k).2 ∧ wr.heap[w2.heap.size]? = some (.cells #[.int .u64 (mp0 t n), .int .u64 (mp1 t n)] 50 (0, 0)) ∧ Below w.heap.size w wr) (fun _ _ c _ => ms.length - (intOf c).toNat)
      case atStart => exact ⟨0, Nat.zero_le _, rfl, rfl, rfl, BX.out, BY.out⟩
      case round =>
        obtain ⟨k, hk, rfl, rfl, rfl, hm, hBr⟩ := hrel
        have BR := Lib.hid hBr
        have HMx := Lib.hid hm
        clear d2
        by_cases hlt : k < ms.length
        · have d2 : decide ((k : Int) < (ms.length : Int)) = true := by simpa using hlt
          obtain ⟨b, off, rfl, hb, hc0, hc1⟩ := H.out k hlt
          obtain ⟨ux, uy⟩ := UU.out k hlt
          have x0 := (hBr.cell (p := ⟨b, off + k * 2, none⟩) hb).trans hc0
          have x1 := (hBr.cell (p := ⟨b, off + k * 2 + 1, none⟩) hb).trans hc1
          have lb : b < wr.heap.size := Nat.lt_of_lt_of_le hb hBr.size
          have i1 : (0 : Int) ≤ (k : Int) := by omega
          have i2 : (k : Int) < (ms.length : Int) := by omega
          have ME := Lib.hid fun W => sMeetN ux uy PU.out.1 PU.out.2 W
          have CN := Lib.hid fun W => sCount_any _ _ (and_in ux PU.out.1).2 (and_in uy PU.out.2).2 W
          have en : fb t n ms (0, -1) (k + 1) = if (fb t n ms (0, -1) k).2 < fc t n ms k then ((k : Int), (fc t n ms k : Int)) else fb t n ms (0, -1) k := rfl
          have efc : fc t n ms k = cnt (bits .and .u64 (ms.getD k (0, 0)).1 (mp0 t n)).toNat (bits .and .u64 (ms.getD k (0, 0)).2 (mp1 t n)).toNat := rfl
          rw [← efc] at CN
          have c1 := cell_of_block hm
          have s1 := lt_of_block hm
          clear hc0 hc1 hBr hm efc ux uy
          generalize fc t n ms k = C at *
          generalize hq : fb t n ms (0, -1) k = q at *
          obtain ⟨q1, q2⟩ := q
          generalize (ms.getD k (0, 0)).1 = x at *
          generalize (ms.getD k (0, 0)).2 = y at *
          generalize (bits .and .u64 x (mp0 t n)).toNat = X at *
          generalize (bits .and .u64 y (mp1 t n)).toNat = Y at *
          have EN := Lib.hid en
          clear en
          go_upto_region 12 with fail
          refine region_bw (by kernel_rfl) (by kernel_rfl) ?_
          repeat (go_big_quiet_step (first | (go_at_call 96; exact calls_all ME.out) | (go_at_call 93; exact calls_all CN.out)))
          refine wpQuiet_nil ?_; intro wq hq2
          have hq2 := below_of_bw hq2
          have B9 := Lib.hid (BR.out.trans (Below.mono hq2 BR.out.size))
          have M9 := Lib.hid (Ab.block hq2 HMx.out)
          clear hq2 c1 s1 x0 x1 lb
          by_cases hgt : q2 < (C : Int)
          · have d5 : decide (q2 < (C : Int)) = true := decide_eq_true hgt
            have en := EN.out
            rw [if_pos hgt] at en
            have EN2 := Lib.hid en
            clear en
            go_wp2
            go_roundw
            case rel => exact ⟨k + 1, hlt, by go_num, by rw [EN2.out], by rw [EN2.out], M9.out, B9.out⟩
            case measure => simp [intOf]; omega
          · have d5 : decide (q2 < (C : Int)) = false := decide_eq_false hgt
            have en := EN.out
            rw [if_neg hgt] at en
            have EN2 := Lib.hid en
            clear en
            go_wp2
            go_roundw
            case rel => exact ⟨k + 1, hlt, by go_num, by rw [EN2.out], by rw [EN2.out], M9.out, B9.out⟩
            case measure => simp [intOf]; omega
        · obtain rfl : k = ms.length := by omega
          have d2 : decide ((ms.length : Int) < (ms.length : Int)) = false := by simp
          clear hBr hm
          go_wp2
          go_ret3
          exact ⟨ret_v f.out, BR.out⟩
  · have f := Lib.hid (show fuV cd (fb t z ms (0, -1) ms.length) = .tuple #[.int .i64 0, .int .i64 0, .int .i64 c] by rw [FU.out, if_neg h0]; exact fuV_no h0)
    have d : (c == 0) = false := by simpa using h0
    have d2 : (c != 0) = true := by simp [h0]
    clear hc
    go_enter Try.func49, Try.ntmps49
    go_wp2_with (go_at_call 85; refine Q.out.mono ?_; rintro e w1 ⟨rfl, hB⟩; have b1 := Lib.hid (BB1.out.trans (Below.mono hB BB1.out.size)); clear hB)
    go_ret3
    exact ⟨ret_v f.out, b1.out⟩
end Go.Proofs.Ytaiedpblfnaooab
