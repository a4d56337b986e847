/- How many questions a tree asks in the mean: the model's contract. -/
import Derived.Test.YtdbkplfkilaoeacMnI
import Derived.Test.YtdbkplfkilaoeacDpW
namespace Go.Proofs.Ytdbkplfkilaoeac
open Go.ChangeShapes Go.WideShapes Go.ChangeAt Go.RowKit

set_option maxRecDepth 100000 in
set_option maxHeartbeats 3200000 in
theorem sMeanAsked_any (ad : Option Addr) (ks : List Kn) (c : Nat) (w : World) (hc : KnotsIn w ad ks) (hn : KsSmall ks) :
    Calls Try.prog 17 #[.slice ad ks.length c] w fun e w' => e = .returned (meanV ks) ∧ Below w.heap.size w w' := by
  have M0 := Lib.hid (block_alloc w (.cells #[.int .i64 0, .int .i64 0] 33))
  have B0 := Lib.hid (below_new (Below.refl w.heap.size w) (.cells #[.int .i64 0, .int .i64 0] 33))
  have V := Lib.hid fun W (h : Below w.heap.size w W) => sTreeOk_any ad ks c W (knotsIn_below hc h) hn
  by_cases hT : treeOk ks = true
  rotate_left
  · have hF : treeOk ks = false := by simpa using hT
    have DV : meanV ks = .tuple #[.agg #[.int .i64 0, .int .i64 0], .int .i64 1] := by unfold meanV; rw [if_pos hF]
    rw [hF] at V
    have DW := Lib.hid DV
    clear hc hn hT hF DV
    go_enter Try.func17, Try.ntmps17
    go_upto_region 2 with (go_at_call 23; refine (V.out _ B0.out).mono ?_; rintro e w1 ⟨rfl, hB⟩; have b1 := Lib.hid (B0.out.trans (Below.mono hB B0.out.size)); have M1 := Lib.hid (Ab.block hB M0.out); clear hB)
    have k1 := cell_of_block M1.out
    have k2 := free_of_block M1.out
    have k3 := lt_of_block M1.out
    go_wp2
    refine bodyPost_ret (by simp [results, Try.results17, go_sem,  k1]; try rfl) rfl ?_
    exact ⟨DW.out ▸ rfl, by have := b1.out; ((repeat' (first | (with_reducible exact Below.refl _ _) | (with_reducible assumption) | (with_reducible refine below_drewN ?_ _) | (with_reducible refine Below.drew ?_) | (with_reducible refine below_new ?_ _) | (with_reducible refine below_next ?_ (by with_reducible assumption)) | (with_reducible refine Below.setCell ?_ ?_ _) | go_size)); done)⟩
  have T : TreeOk ks := of_decide_eq_true hT
  have DV : meanV ks = .tuple (if cntOf ks = 0 then #[.agg #[.int .i64 0, .int .i64 0], .int .i64 6] else #[.agg #[.int .i64 (shP (sumOf ks) (cntOf ks)), .int .i64 (shQ (sumOf ks) (cntOf ks))], .int .i64 0]) := by unfold meanV; rw [if_neg (by rw [hT]; simp)]
  rw [hT] at V
  have C := Lib.hid hc
  have PL := Lib.hid fun W (h : Below w.heap.size w W) => sDepths_any ks T hn ad c W (knotsIn_below hc h)
  have DA := Lib.hid fun i (h : i < ks.length) => dpv_all T h
  have nl := T.2.1
  have CK := Lib.hid fun j (h : j < ks.length) => cnk_le T h
  have CD := Lib.hid fun j (h : j < ks.length) => cd_le T h
  have DL := Lib.hid fun i (h : i < ks.length) => show dep ks i ≤ 120 by have := dep_le ks (i + 1) i (Nat.lt_succ_self i); have := T.2.1; omega
  have c9 := cnt_le T
  have s9 := sum_le T
  have DW := Lib.hid DV
  clear hc hn hT T DV
  go_enter Try.func17, Try.ntmps17
  go_wp2_with (first
    | (go_at_call 23; refine (V.out _ B0.out).mono ?_; rintro e w1 ⟨rfl, hB⟩; have b1 := Lib.hid (B0.out.trans (Below.mono hB B0.out.size)); have M1 := Lib.hid (Ab.block hB M0.out); clear hB)
    | (go_at_call 32; refine (PL.out _ b1.out).mono ?_; rintro e w2 ⟨g, rfl, hR, hB⟩; have b2 := Lib.hid (b1.out.trans (Below.mono hB b1.out.size)); have M2 := Lib.hid (Ab.block hB M1.out); have R := Lib.hid hR; clear hB hR))
  go_loopw [5, 6, 7] (fun su ct ix wr => ∃ t : Nat, t ≤ ks.length ∧ ix = .int .i64 t ∧ su = .int .i64 ((sumc (fun j => cnk ks j * dep ks j) t : Nat) : Int) ∧ ct = .int .i64 ((sumc (cnk ks) t : Nat) : Int) ∧ wr = w2) (fun _ _ ix _ => ks.length - (intOf ix).toNat)
  case atStart => exact ⟨0, Nat.zero_le _, rfl, rfl, rfl, rfl⟩
  case round =>
    obtain ⟨t, ht, rfl, rfl, rfl, rfl⟩ := hrel
    by_cases hlt : t < ks.length
    · have hd : decide ((t : Int) < (ks.length : Int)) = true := by simpa using hlt
      obtain ⟨b1', o1, rfl, hkn⟩ := C.out t hlt
      obtain ⟨hft, va, vc, na, nc, ca, cc, y0, z0, z1, z2, z3, p1, p2, p3⟩ := hkn
      have d3 := (b2.out.cell (p := ⟨b1', o1 + t * 4 + 3, none⟩) y0).trans z3
      rw [show (knAt ks t).cs.length = cnk ks t from rfl] at d3
      have k4 := R.out.cellAt t (by omega)
      rw [dpV_get _ _ _ hlt, DA.out t hlt] at k4
      have k6 := (R.out.lt g rfl).2
      have S1 := Lib.hid (show sumc (fun j => cnk ks j * dep ks j) (t + 1) = sumc (fun j => cnk ks j * dep ks j) t + cnk ks t * dep ks t from rfl)
      have S2 := Lib.hid (show sumc (cnk ks) (t + 1) = sumc (cnk ks) t + cnk ks t from rfl)
      have T1 := sumc_bound (c := fun j => cnk ks j * dep ks j) (n := t) (k := 7200) fun p hp => CD.out p (by omega)
      have T2 := sumc_bound (c := cnk ks) (n := t) (k := 60) fun p hp => CK.out p (by omega)
      have x1 := CD.out t hlt
      have x2 := CK.out t hlt
      have i3 : (0 : Int) ≤ (t : Int) := by omega
      have i4 : (t : Int) < (ks.length : Int) := by omega
      have y1 := DL.out t hlt
      clear hft z0 z1 z2 z3 p1 p2 p3
      have e1 : ((cnk ks t : Nat) : Int) * ((dep ks t : Nat) : Int) = ((cnk ks t * dep ks t : Nat) : Int) := by rw [Int.natCast_mul]
      generalize hp : cnk ks t * dep ks t = pr at *
      generalize cnk ks t = cn at *
      generalize dep ks t = y at *
      generalize sumc (fun j => cnk ks j * dep ks j) t = s0 at *
      generalize sumc (cnk ks) t = c0 at *
      clear hp
      go_wp2
      exact ⟨⟨t + 1, hlt, by rw [Int.natCast_succ], by rw [S1.out, Int.natCast_add], by rw [S2.out, Int.natCast_add], trivial⟩, by simp [intOf]; omega⟩
    · have e : t = ks.length := by omega
      subst e
      have hd : decide ((ks.length : Int) < (ks.length : Int)) = false := by simp
      rw [show sumc (fun j => cnk ks j * dep ks j) ks.length = sumOf ks from rfl, show sumc (cnk ks) ks.length = cntOf ks from rfl]
      have k1 := cell_of_block M2.out
      have k2 := free_of_block M2.out
      have k3 := lt_of_block M2.out
      have SH := Lib.hid fun W h => sShare_any (sumOf ks) (cntOf ks) h (by omega) (by omega) W
      by_cases hz : cntOf ks = 0
      · have D9 := DW.out
        rw [if_pos hz] at D9
        have D9 := Lib.hid D9
        rw [hz]
        clear DW SH hz c9
        go_wp2
        refine bodyPost_ret (by simp [results, Try.results17, go_sem,  k1]; try rfl) rfl ?_
        exact ⟨D9.out ▸ rfl, by have := b2.out; ((repeat' (first | (with_reducible exact Below.refl _ _) | (with_reducible assumption) | (with_reducible refine below_drewN ?_ _) | (with_reducible refine Below.drew ?_) | (with_reducible refine below_new ?_ _) | (with_reducible refine below_next ?_ (by with_reducible assumption)) | (with_reducible refine Below.setCell ?_ ?_ _) | go_size)); done)⟩
      · have D9 := DW.out
        rw [if_neg hz] at D9
        have D9 := Lib.hid D9
        have SH := Lib.hid fun W => SH.out W (by omega)
        have hz1 : 0 < cntOf ks := by omega
        have d5 : decide (cntOf ks = 0) = false := decide_eq_false hz
        clear DW
        generalize shP (sumOf ks) (cntOf ks) = x at *
        generalize shQ (sumOf ks) (cntOf ks) = y at *
        generalize sumOf ks = su at *
        generalize cntOf ks = ct at *
        go_wp2_with (go_at_call 35; refine (SH.out _).mono ?_; rintro e w3 ⟨rfl, hB⟩; have k4 := cell_of_block (Ab.block hB M2.out); have k5 := free_of_block (Ab.block hB M2.out); have k6 := lt_of_block (Ab.block hB M2.out); have b3 := Lib.hid (b2.out.trans (Below.mono hB b2.out.size)); clear hB)
        refine bodyPost_ret (by simp [results, Try.results17, go_sem,  k4]; try rfl) rfl ?_
        exact ⟨D9.out ▸ rfl, by have := b3.out; ((repeat' (first | (with_reducible exact Below.refl _ _) | (with_reducible assumption) | (with_reducible refine below_drewN ?_ _) | (with_reducible refine Below.drew ?_) | (with_reducible refine below_new ?_ _) | (with_reducible refine below_next ?_ (by with_reducible assumption)) | (with_reducible refine Below.setCell ?_ ?_ _) | go_size)); done)⟩
end Go.Proofs.Ytdbkplfkilaoeac
