/- How many questions a tree asks in the mean: the program's contract. -/
import Derived.Test.YtdbkplfkilaoeacDpI
import Derived.Test.YtdbkplfkilaoeacShr
namespace Go.Proofs.Ytdbkplfkilaoeac
open Go.ChangeShapes Go.WideShapes Go.ChangeAt Go.RowKit

def cnk (ks : List Kn) (j : Nat) : Nat := (knAt ks j).cs.length
def cntOf (ks : List Kn) : Nat := sumc (cnk ks) ks.length
def sumOf (ks : List Kn) : Nat := sumc (fun j => cnk ks j * dep ks j) ks.length
def meanV (ks : List Kn) : Value := .tuple (if treeOk ks = false then #[.agg #[.int .i64 0, .int .i64 0], .int .i64 1] else if cntOf ks = 0 then #[.agg #[.int .i64 0, .int .i64 0], .int .i64 6] else #[.agg #[.int .i64 (shP (sumOf ks) (cntOf ks)), .int .i64 (shQ (sumOf ks) (cntOf ks))], .int .i64 0])
theorem meanV_parts (ks : List Kn) : ∃ x y k : Int, meanV ks = .tuple #[.agg #[.int .i64 x, .int .i64 y], .int .i64 k] := by
  unfold meanV
  split
  · exact ⟨_, _, _, rfl⟩
  · split
    · exact ⟨_, _, _, rfl⟩
    · exact ⟨_, _, _, rfl⟩
theorem idx_len {zs : List Int} : ∀ {n : Nat}, IdxTo zs n → (n : Int) ≤ least zs n
  | 0, _ => by rw [least_zero]; omega
  | n + 1, h => by
    have ih := idx_len (n := n) (fun i hi => h i (by omega))
    have := (h n (Nat.lt_succ_self n)).1
    rw [least_succ]
    omega
theorem cnk_le {ks : List Kn} (T : TreeOk ks) {j : Nat} (h : j < ks.length) : cnk ks j ≤ 60 := by
  have L := (T.2.2.1 j h).1
  unfold LocOk at L
  unfold cnk
  split at L
  · have := idx_len L.2.2
    have := (idxTo_low L.2.2).2
    omega
  · rw [L.2.2.1]; omega
theorem sumc_bound {c : Nat → Nat} {k : Nat} : ∀ {n : Nat}, (∀ j, j < n → c j ≤ k) → sumc c n ≤ n * k
  | 0, _ => by simp [sumc]
  | n + 1, h => by
    have := sumc_bound (c := c) (k := k) (n := n) (fun j hj => h j (by omega))
    have := h n (Nat.lt_succ_self n)
    simp only [sumc]
    rw [Nat.add_mul]
    omega
theorem map_bound {c : Nat → Nat} {k : Nat} {P : List Nat} (h : ∀ p ∈ P, c p ≤ k) : (P.map c).sum ≤ P.length * k := by
  induction P with
  | nil => simp
  | cons p P ih =>
    have := ih (fun q hq => h q (List.mem_cons_of_mem _ hq))
    have := h p (List.mem_cons_self ..)
    rw [List.map_cons, List.sum_cons, List.length_cons, Nat.add_mul]
    omega
theorem cd_le {ks : List Kn} (T : TreeOk ks) {j : Nat} (h : j < ks.length) : cnk ks j * dep ks j ≤ 7200 := by
  have h1 := cnk_le T h
  have h2 : dep ks j ≤ 120 := by have := dep_le ks (j + 1) j (Nat.lt_succ_self j); have := T.2.1; omega
  exact Nat.mul_le_mul h1 h2
theorem cnt_le {ks : List Kn} (T : TreeOk ks) : cntOf ks ≤ 7200 := by
  have := sumc_bound (c := cnk ks) (n := ks.length) (fun j h => cnk_le T h)
  have := T.2.1
  unfold cntOf; omega
theorem sum_le {ks : List Kn} (T : TreeOk ks) : sumOf ks ≤ 864000 := by
  have := sumc_bound (n := ks.length) (fun j h => cd_le T h)
  have := T.2.1
  unfold sumOf; omega
theorem sum_snoc (c : Nat → Nat) {L : List Nat} {t i : Nat} (h : L[t]? = some i) : ((L.take (t + 1)).map c).sum = ((L.take t).map c).sum + c i := by
  rw [takeD_snoc h, List.map_append, List.sum_append]; simp

set_option maxRecDepth 100000 in
set_option maxHeartbeats 3200000 in
theorem iMeanAsked_any (ad : Option Addr) (ks : List Kn) (c : Nat) (w : World) (hc : KnotsIn w ad ks) (hn : KsSmall ks) :
    Calls Try.prog 18 #[.slice ad ks.length c] w fun e w' => e = .returned (meanV ks) ∧ Below w.heap.size w w' := by
  have M0 := Lib.hid (block_alloc w (.cells #[.int .i64 0, .int .i64 0] 33))
  have B0 := Lib.hid (below_new (Below.refl w.heap.size w) (.cells #[.int .i64 0, .int .i64 0] 33))
  have V := Lib.hid fun W (h : Below w.heap.size w W) => iValidTree_any ad ks c W (knotsIn_below hc h) hn
  by_cases hT : treeOk ks = true
  rotate_left
  · have hF : treeOk ks = false := by simpa using hT
    have DV : meanV ks = .tuple #[.agg #[.int .i64 0, .int .i64 0], .int .i64 1] := by unfold meanV; rw [if_pos hF]
    rw [hF] at V
    have DW := Lib.hid DV
    clear hc hn hT hF DV
    go_enter Try.func18, Try.ntmps18
    go_upto_region 2 with (go_at_call 11; refine (V.out _ B0.out).mono ?_; rintro e w1 ⟨rfl, hB⟩; have b1 := Lib.hid (B0.out.trans (Below.mono hB B0.out.size)); have M1 := Lib.hid (Ab.block hB M0.out); clear hB)
    have k1 := cell_of_block M1.out
    have k2 := free_of_block M1.out
    have k3 := lt_of_block M1.out
    go_wp2
    refine bodyPost_ret (by simp [results, Try.results18, go_sem,  k1]; try rfl) rfl ?_
    exact ⟨DW.out ▸ rfl, by have := b1.out; ((repeat' (first | (with_reducible exact Below.refl _ _) | (with_reducible assumption) | (with_reducible refine below_drewN ?_ _) | (with_reducible refine Below.drew ?_) | (with_reducible refine below_new ?_ _) | (with_reducible refine below_next ?_ (by with_reducible assumption)) | (with_reducible refine Below.setCell ?_ ?_ _) | go_size)); done)⟩
  have T : TreeOk ks := of_decide_eq_true hT
  have DV : meanV ks = .tuple (if cntOf ks = 0 then #[.agg #[.int .i64 0, .int .i64 0], .int .i64 6] else #[.agg #[.int .i64 (shP (sumOf ks) (cntOf ks)), .int .i64 (shQ (sumOf ks) (cntOf ks))], .int .i64 0]) := by unfold meanV; rw [if_neg (by rw [hT]; simp)]
  rw [hT] at V
  have PL := Lib.hid fun W (h : Below w.heap.size w W) => iPlaces_any ks T hn ad c W (knotsIn_below hc h)
  have CB := Lib.hid fun m h1 h2 => show ((bf ks m).map (cnk ks)).sum = cntOf ks from bf_sum T (m := m) h1 h2 (cnk ks)
  have SB := Lib.hid fun m h1 h2 => show ((bf ks m).map fun j => cnk ks j * dep ks j).sum = sumOf ks from bf_sum T (m := m) h1 h2 (fun j => cnk ks j * dep ks j)
  have BO := Lib.hid fun m h => (bf_ok T h (m := m)).1
  have LB := Lib.hid fun m h => Nat.le_trans (bf_len T h (m := m)) T.2.1
  have CK := Lib.hid fun j (h : j < ks.length) => cnk_le T h
  have CD := Lib.hid fun j (h : j < ks.length) => cd_le T h
  have DL := Lib.hid fun i (h : i < ks.length) => show dep ks i ≤ 120 by have := dep_le ks (i + 1) i (Nat.lt_succ_self i); have := T.2.1; omega
  have c9 := cnt_le T
  have s9 := sum_le T
  have DW := Lib.hid DV
  clear hc hn hT T DV
  go_enter Try.func18, Try.ntmps18
  go_wp2_with (first
    | (go_at_call 11; refine (V.out _ B0.out).mono ?_; rintro e w1 ⟨rfl, hB⟩; have b1 := Lib.hid (B0.out.trans (Below.mono hB B0.out.size)); have M1 := Lib.hid (Ab.block hB M0.out); clear hB)
    | (go_at_call 34; refine (PL.out _ b1.out).mono ?_; rintro e w2 ⟨v, m, rfl, hO, hS, hl, hB⟩; obtain ⟨a0, c0, rfl, hg⟩ := ownP_slice hO; have G := Lib.hid hg; have b2 := Lib.hid (b1.out.trans (Below.mono hB b1.out.size)); have M2 := Lib.hid (Ab.block hB M1.out); have C9 := Lib.hid (CB.out m hS hl); have S9 := Lib.hid (SB.out m hS hl); have O := Lib.hid (BO.out m hS); have ll := LB.out m hS; clear hO hS hl hB hg))
  generalize hL : bf ks m = L at *
  clear hL
  go_loopw [4, 5, 16] (fun su ct ix wr => ∃ t : Nat, t ≤ L.length ∧ ix = .int .i64 t ∧ su = .int .i64 ((((L.take t).map fun j => cnk ks j * dep ks j).sum : Nat) : Int) ∧ ct = .int .i64 ((((L.take t).map (cnk ks)).sum : Nat) : Int) ∧ Below w2.heap.size w2 wr) (fun _ _ ix _ => L.length - (intOf ix).toNat)
  case atStart => exact ⟨0, Nat.zero_le _, rfl, rfl, rfl, Below.refl _ _⟩
  case round =>
    obtain ⟨t, ht, rfl, rfl, rfl, hB⟩ := hrel
    have BB := Lib.hid hB
    by_cases hlt : t < L.length
    · have hd : decide ((t : Int) < (L.length : Int)) = true := by simpa using hlt
      have hi := List.getElem?_eq_getElem hlt
      obtain ⟨g, u, rfl, hg1, hg2, hu, hr⟩ := G.out t _ hi
      have hil := O.out _ (List.getElem_mem hlt)
      have S1 := Lib.hid (sum_snoc (fun j => cnk ks j * dep ks j) hi)
      have S2 := Lib.hid (sum_snoc (cnk ks) hi)
      have T1 := map_bound (c := fun j => cnk ks j * dep ks j) (P := L.take t) (k := 7200) fun p hp => CD.out p (O.out p (List.mem_of_mem_take hp))
      have T2 := map_bound (c := cnk ks) (P := L.take t) (k := 60) fun p hp => CK.out p (O.out p (List.mem_of_mem_take hp))
      rw [List.length_take, Nat.min_eq_left ht] at T1 T2
      generalize L[t] = i at *
      have x1 := CD.out i hil
      have x2 := CK.out i hil
      obtain ⟨va, vc, na, nc, ca, cc, rfl, p1, p2, p3⟩ := hu
      have d0 := (hB.cell (p := ⟨g, t * 5 + 0, none⟩) hg2).trans (hr 0 (by omega))
      have d1 := (hB.cell (p := ⟨g, t * 5 + 1, none⟩) hg2).trans (hr 1 (by omega))
      have d2 := (hB.cell (p := ⟨g, t * 5 + 2, none⟩) hg2).trans (hr 2 (by omega))
      have d3 := (hB.cell (p := ⟨g, t * 5 + 3, none⟩) hg2).trans (hr 3 (by omega))
      have d4 := (hB.cell (p := ⟨g, t * 5 + 4, none⟩) hg2).trans (hr 4 (by omega))
      simp only [Nat.add_zero, List.getElem?_cons_zero, List.getElem?_cons_succ] at d0 d1 d2 d3 d4
      rw [show (knAt ks i).cs.length = cnk ks i from rfl] at d3
      have i3 : (0 : Int) ≤ (t : Int) := by omega
      have i4 : (t : Int) < (L.length : Int) := by omega
      have y1 := DL.out i hil
      clear hr p1 p2 p3 hB hi
      generalize (knAt ks i).vs.length = l1 at *
      generalize (knAt ks i).ns.length = l2 at *
      generalize (knAt ks i).f = f1 at *
      have e1 : ((cnk ks i : Nat) : Int) * ((dep ks i : Nat) : Int) = ((cnk ks i * dep ks i : Nat) : Int) := by rw [Int.natCast_mul]
      generalize hp : cnk ks i * dep ks i = pr at *
      generalize cnk ks i = cn at *
      generalize dep ks i = y at *
      generalize ((L.take t).map fun j => cnk ks j * dep ks j).sum = s0 at *
      generalize ((L.take t).map (cnk ks)).sum = c0 at *
      clear hp
      go_wp2
      exact ⟨⟨t + 1, hlt, by rw [Int.natCast_succ], by rw [S1.out, Int.natCast_add], by rw [S2.out, Int.natCast_add], below_new BB.out _⟩, by simp [intOf]; omega⟩
    · have e : t = L.length := by omega
      subst e
      have hd : decide ((L.length : Int) < (L.length : Int)) = false := by simp
      rw [List.take_of_length_le (Nat.le_refl _), C9.out, S9.out]
      have B9 := Lib.hid (b2.out.trans (Below.mono hB b2.out.size))
      have M9 := Lib.hid (Ab.block hB M2.out)
      clear hB
      have k1 := cell_of_block M9.out
      have k2 := free_of_block M9.out
      have k3 := lt_of_block M9.out
      have SH := Lib.hid fun W h => iShare_any (sumOf ks) (cntOf ks) h (by omega) (by omega) W
      by_cases hz : cntOf ks = 0
      · have D9 := DW.out
        rw [if_pos hz] at D9
        have D9 := Lib.hid D9
        rw [hz]
        clear DW SH C9 CB hz c9
        go_wp2
        refine bodyPost_ret (by simp [results, Try.results18, go_sem,  k1]; try rfl) rfl ?_
        exact ⟨D9.out ▸ rfl, by have := B9.out; ((repeat' (first | (with_reducible exact Below.refl _ _) | (with_reducible assumption) | (with_reducible refine below_drewN ?_ _) | (with_reducible refine Below.drew ?_) | (with_reducible refine below_new ?_ _) | (with_reducible refine below_next ?_ (by with_reducible assumption)) | (with_reducible refine Below.setCell ?_ ?_ _) | go_size)); done)⟩
      · have D9 := DW.out
        rw [if_neg hz] at D9
        have D9 := Lib.hid D9
        have SH := Lib.hid fun W => SH.out W (by omega)
        have hz1 : 0 < cntOf ks := by omega
        have d5 : decide (cntOf ks = 0) = false := decide_eq_false hz
        clear DW C9 CB S9 SB
        generalize shP (sumOf ks) (cntOf ks) = x at *
        generalize shQ (sumOf ks) (cntOf ks) = y at *
        generalize sumOf ks = su at *
        generalize cntOf ks = ct at *
        go_wp2_with (go_at_call 36; refine (SH.out _).mono ?_; rintro e w3 ⟨rfl, hB⟩; have k4 := cell_of_block (Ab.block hB M9.out); have k5 := free_of_block (Ab.block hB M9.out); have k6 := lt_of_block (Ab.block hB M9.out); have b3 := Lib.hid (B9.out.trans (Below.mono hB B9.out.size)); clear hB)
        refine bodyPost_ret (by simp [results, Try.results18, go_sem,  k4]; try rfl) rfl ?_
        exact ⟨D9.out ▸ rfl, by have := b3.out; ((repeat' (first | (with_reducible exact Below.refl _ _) | (with_reducible assumption) | (with_reducible refine below_drewN ?_ _) | (with_reducible refine Below.drew ?_) | (with_reducible refine below_new ?_ _) | (with_reducible refine below_next ?_ (by with_reducible assumption)) | (with_reducible refine Below.setCell ?_ ?_ _) | go_size)); done)⟩
end Go.Proofs.Ytdbkplfkilaoeac
