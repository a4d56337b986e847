/- Several texts in one, as a claim has at most 60 files: RsQ RsS. -/
import Derived.Test.YtnbijfeidgddmaaGreatDoorRsZ6
import Derived.Test.YtnbijfeidgddmaaGreatDoorRfKC
namespace Go.Proofs.YtnbijfeidgddmaaGreatDoor
open Go.ChangeShapes Go.WideShapes Go.ChangeAt Go.RowKit

/-- The line of a field, without its end. -/
def flL (f : Fd) : List UInt8 := joinC 32 ([f.s, kwOf f.k, dec2 f.t.toNat, dec2 f.z.toNat].map fun p => p.data.toList)
theorem fsN_line (f : Fd) (t : ByteArray) : (t ++ fdL f.s (kwOf f.k) (dec2 f.t.toNat) (dec2 f.z.toNat)).data.toList = t.data.toList ++ (flL f ++ [10]) := by
  rw [fdL_bytes]
  unfold flL
  simp [joinC]
theorem flAt {fs : List Fd} {n : Nat} (h : n < fs.length) : (fs.take (n + 1)).map flL = (fs.take n).map flL ++ [flL (fdAt fs n)] := by
  rw [List.take_add_one, List.getElem?_eq_getElem h, List.map_append]
  unfold fdAt
  simp [List.getD, h]
theorem fsN_join {fs : List Fd} : ∀ n, n ≤ fs.length → (fsN fs n).data.toList = joinC 10 ((fs.take n).map flL ++ [[]])
  | 0, _ => rfl
  | n + 1, hn => by
    rw [fsN_next, fsN_line, flAt (by omega), joinC_snoc 10 [] (by simp), joinC_last, ← fsN_join n (by omega)]
    simp
/-- What the model tells. -/
def rsS (s : ByteArray) : Option (List Fd) := if (pieces 10 s).getLast? = some ByteArray.empty then (match rdF rfS (pieces 10 s).dropLast with
  | some fs => if schOk fs = true then some fs else none
  | none => none) else none
theorem rfS_some {line : ByteArray} {f : Fd} (h : rfS line = some f) : line.data.toList = flL f ∧ rfI line = some f := by
  unfold rfS at h
  split at h
  · rename_i s kw a b hp
    have hj := pieces_join 32 line
    rw [hp] at hj
    unfold rfV at h
    split at h
    · rename_i k x y hk hx hy
      split at h
      · rename_i hxy
        have h := Option.some.inj h
        subst h
        obtain rfl := (kdO_inv hk).2
        obtain rfl := dec2_of hx (by omega)
        obtain rfl := dec2_of hy (by omega)
        refine ⟨?_, ?_⟩
        · rw [hj]; unfold flL; simp
        · rw [rfI_four hp, rfW_all hk (pIn16 (by omega)) (pIn16 (by omega)), i16_inR _ (by omega), i16_inR _ (by omega)]
      · cases h
    · cases h
  · cases h
theorem rdF_some {ts : List ByteArray} : ∀ {fs : List Fd}, rdF rfS ts = some fs → ts.map (fun p => p.data.toList) = fs.map flL ∧ rdF rfI ts = some fs := by
  induction ts with
  | nil =>
    intro fs h
    rw [rdF] at h
    rw [← Option.some.inj h]
    exact ⟨rfl, rfl⟩
  | cons t r ih =>
    intro fs h
    rw [rdF] at h
    cases ht : rfS t with
    | none => rw [ht] at h; cases h
    | some c =>
      rw [ht] at h
      cases hr : rdF rfS r with
      | none => rw [hr] at h; cases h
      | some ds =>
        rw [hr] at h
        have h := Option.some.inj h
        subst h
        obtain ⟨h1, h2⟩ := rfS_some ht
        obtain ⟨h3, h4⟩ := ih hr
        refine ⟨by rw [List.map_cons, List.map_cons, h1, h3], ?_⟩
        rw [rdF, h2]
        simp only [h4]
theorem field_nameOk {s : ByteArray} {k t z : Int} (h : fieldOk s k t z = true) : nameOk s = true := by
  unfold fieldOk at h
  rw [Bool.and_eq_true] at h
  exact h.1
theorem name_freeN {s : ByteArray} (h : nameOk s = true) : (10 : UInt8) ∉ s.data.toList := by
  intro hm
  unfold nameOk at h
  rw [Bool.and_eq_true] at h
  have := List.all_eq_true.1 h.2 _ hm
  exact absurd this (by decide)
theorem dec_freeN {n : Nat} (h : n < 100) : (10 : UInt8) ∉ (dec2 n).data.toList := by
  rw [dec2_data]
  intro hm
  have := no_blank_dec n h _ hm
  exact absurd this (by decide)
theorem kw_freeB {k : Int} (h0 : 0 ≤ k) (h3 : k ≤ 3) : (32 : UInt8) ∉ (kwOf k).data.toList ∧ (10 : UInt8) ∉ (kwOf k).data.toList := by
  have h : k = 0 ∨ k = 1 ∨ k = 2 ∨ k = 3 := by omega
  rcases h with rfl | rfl | rfl | rfl <;> decide
theorem fl_hit {f : Fd} (h : fieldOk f.s f.k f.t f.z = true) : rfS (mkS (flL f)) = some f := by
  obtain ⟨_, _, k0, k3, t0, t1, z0, z1⟩ := fd_inv h
  have hp : pieces 32 (mkS (flL f)) = [f.s, kwOf f.k, dec2 f.t.toNat, dec2 f.z.toNat] := pieces_of (by rfl) (by simp) (fun p hp => by
    simp only [List.mem_cons, List.not_mem_nil, or_false] at hp
    rcases hp with rfl | rfl | rfl | rfl
    · exact name_free (field_nameOk h)
    · exact (kw_freeB k0 k3).1
    · exact dec_free (by omega)
    · exact dec_free (by omega))
  rw [rfS_four hp, rfV_all (kdO_kw k0 k3) (numL_dec2 (by omega)) (numL_dec2 (by omega)) (by omega)]
  obtain ⟨s, k, t, z⟩ := f
  simp only at t0 z0 ⊢
  rw [Int.toNat_of_nonneg t0, Int.toNat_of_nonneg z0]
theorem fl_free {f : Fd} (h : fieldOk f.s f.k f.t f.z = true) : (10 : UInt8) ∉ flL f := by
  obtain ⟨_, _, k0, k3, t0, t1, z0, z1⟩ := fd_inv h
  have a1 := name_freeN (field_nameOk h)
  have a2 := (kw_freeB k0 k3).2
  have a3 := dec_freeN (n := f.t.toNat) (by omega)
  have a4 := dec_freeN (n := f.z.toNat) (by omega)
  intro hm
  unfold flL at hm
  simp only [List.map_cons, List.map_nil, joinC, List.mem_append, List.mem_cons] at hm
  rcases hm with hm | hm | hm | hm | hm | hm | hm
  · exact a1 hm
  · exact absurd hm (by decide)
  · exact a2 hm
  · exact absurd hm (by decide)
  · exact a3 hm
  · exact absurd hm (by decide)
  · exact a4 hm
theorem rdF_hit : ∀ {fs : List Fd}, (∀ f ∈ fs, fieldOk f.s f.k f.t f.z = true) → rdF rfS (fs.map fun f => mkS (flL f)) = some fs
  | [], _ => rfl
  | f :: r, h => by
    rw [List.map_cons, rdF, fl_hit (h f (by simp))]
    simp only [rdF_hit (fs := r) fun g hg => h g (by simp [hg])]
theorem sch_mem {fs : List Fd} (h : schOk fs = true) : ∀ f ∈ fs, fieldOk f.s f.k f.t f.z = true := by
  intro f hf
  obtain ⟨i, hi, rfl⟩ := List.mem_iff_getElem.1 hf
  have := schOk_all h i hi
  unfold fOk fdAt at this
  simpa [List.getD, hi] using this
theorem rsS_hit {s : ByteArray} {fs : List Fd} (h : rsI s = some fs) : rsS s = some fs := by
  unfold rsI at h
  split at h
  · rename_i ds hd
    split at h
    · rename_i hk
      have h := Option.some.inj h
      subst h
      obtain ⟨hk, ht⟩ := hk
      have hm := sch_mem hk
      unfold sxT at ht
      rw [if_pos hk] at ht
      have hj := fsN_join (fs := ds) ds.length (Nat.le_refl _)
      rw [ht, List.take_length] at hj
      have hp : pieces 10 s = (ds.map fun f => mkS (flL f)) ++ [ByteArray.empty] := pieces_of (by rw [hj, List.map_append, List.map_map]; rfl) (by simp) (fun p hp => by
        rcases List.mem_append.1 hp with hp | hp
        · obtain ⟨f, hf, rfl⟩ := List.mem_map.1 hp
          exact fl_free (hm f hf)
        · rw [List.mem_singleton.1 hp]; exact fun q => by cases q)
      unfold rsS
      rw [hp, if_pos (by simp), List.dropLast_concat, rdF_hit hm]
      simp only [if_pos hk]
    · cases h
  · cases h
theorem rsI_hit {s : ByteArray} {fs : List Fd} (h : rsS s = some fs) : rsI s = some fs := by
  unfold rsS at h
  split at h
  · rename_i hl
    split at h
    · rename_i ds hd
      split at h
      · rename_i hk
        have h := Option.some.inj h
        subst h
        rcases tl_pieces s with ⟨_, h2⟩ | ⟨h1, _⟩
        · rw [h2, List.dropLast_concat] at hd
          obtain ⟨e1, e2⟩ := rdF_some hd
          have ht : sxT ds = s := by
            apply data_inj
            unfold sxT
            rw [if_pos hk, fsN_join ds.length (Nat.le_refl _), List.take_length, pieces_join 10 s, h2, List.map_append, e1]; rfl
          unfold rsI
          rw [e2]
          simp only [if_pos (And.intro hk ht)]
        · exact absurd hl h1
      · cases h
    · cases h
  · cases h
theorem rs_same (s : ByteArray) : rsI s = rsS s := by
  cases hI : rsI s with
  | some e => rw [rsS_hit hI]
  | none =>
    cases hS : rsS s with
    | none => rfl
    | some e => rw [rsI_hit hS] at hI; cases hI
end Go.Proofs.YtnbijfeidgddmaaGreatDoor

namespace Go.Proofs.YtnbijfeidgddmaaGreatDoor
open Go.ChangeShapes Go.WideShapes Go.ChangeAt Go.RowKit

theorem new4S (w : World) (n : Nat) (hn : n = w.heap.size) (x0 x1 x2 x3 : Value) (t : TypeId) : ∀ j u, [x0, x1, x2, x3][j]? = some u → (w.alloc (.cells #[x0, x1, x2, x3] t)).cell? ((⟨n, 0, none⟩ : Addr).add j) = some u := new4R w n hn x0 x1 x2 x3 t
theorem sRef_no (line : ByteArray) (hs : line.size ≤ 1048576) (h : rfS line = none) (w : World) :
    Calls Tryz.prog 16 #[.string line] w fun e w' => ∃ s k t z, e = .returned (.tuple #[.agg #[.string s, .int .i8 k, .int .i16 t, .int .i16 z], .bool false]) ∧ Below w.heap.size w w' :=
  (sRef_any line hs w).mono fun e w' h' => by
    obtain ⟨⟨s, k, t, z⟩, he, _, hb⟩ := h'
    exact ⟨s, k, t, z, by rw [he, h]; rfl, hb⟩
theorem sRef_yes (line : ByteArray) (hs : line.size ≤ 1048576) (s : ByteArray) (k t z : Int) (h : rfS line = some ⟨s, k, t, z⟩) (w : World) :
    Calls Tryz.prog 16 #[.string line] w fun e w' => e = .returned (.tuple #[.agg #[.string s, .int .i8 k, .int .i16 t, .int .i16 z], .bool true]) ∧ Below w.heap.size w w' :=
  (sRef_any line hs w).mono fun e w' h' => by
    obtain ⟨x, he, hq, hb⟩ := h'
    have hq := hq _ h
    subst hq
    exact ⟨by rw [he, h]; rfl, hb⟩
theorem rsS_last {s : ByteArray} (h : (pieces 10 s).getLast? ≠ some ByteArray.empty) : rsS s = none := by unfold rsS; rw [if_neg h]
theorem rsS_bad {s : ByteArray} {j : Nat} (hj : j + 1 ≤ (pieces 10 s).length) (h : rdF rfS ((pieces 10 s).take j) = none) : rsS s = none := by
  unfold rsS
  split
  · have e : (pieces 10 s).dropLast = (pieces 10 s).take j ++ ((pieces 10 s).dropLast).drop j := by
      rw [List.dropLast_eq_take]
      conv => lhs; rw [← List.take_append_drop j ((pieces 10 s).take ((pieces 10 s).length - 1))]
      rw [List.take_take, Nat.min_eq_left (by omega)]
    rw [e, rdF_none_app h]
  · rfl
theorem rsS_at {s : ByteArray} {ds : List Fd} (hl : (pieces 10 s).getLast? = some ByteArray.empty) (h : rdF rfS ((pieces 10 s).take ((pieces 10 s).length - 1)) = some ds) : rsS s = if schOk ds = true then some ds else none := by
  unfold rsS
  rw [if_pos hl, List.dropLast_eq_take, h]
theorem rdS_fits {ts : List ByteArray} {ds : List Fd} (hz : ∀ t ∈ ts, t.size ≤ 1048576) (h : rdF rfS ts = some ds) : ∀ i, i < ds.length → (fdAt ds i).fits := fun i hi => rdF_fits hz (rdF_some h).2 i hi
theorem take_next {ps : List ByteArray} {j : Nat} (h : j < ps.length) : ps.take (j + 1) = ps.take j ++ [ps.getD j ⟨#[]⟩] := by
  rw [List.take_add_one, List.getElem?_eq_getElem h]
  simp [List.getD, h]
theorem last_at {ps : List ByteArray} (h : ps ≠ []) : ps.getLast? = some (ps.getD (ps.length - 1) ⟨#[]⟩) := by
  rw [List.getLast?_eq_getElem?, List.getElem?_eq_getElem (by have := List.length_pos_iff.2 h; omega)]
  simp [List.getD, show ps.length - 1 < ps.length by have := List.length_pos_iff.2 h; omega]
theorem empty_of {s : ByteArray} (h : s.toList.isEmpty = true) : s = ByteArray.empty := by
  rw [Lib.toList_data, List.isEmpty_iff] at h
  exact data_inj h

theorem start_yes {ps : List ByteArray} {lv : ByteArray} {b : Bool} (h : ps.getLast? = some lv) (hb : lv.toList.isEmpty = b) : b = true → rdF rfS (ps.take 0) = some [] ∧ ps.getLast? = some ByteArray.empty := by
  rintro rfl
  exact ⟨rfl, by rw [h, empty_of hb]⟩
theorem start_no {s : ByteArray} {ps : List ByteArray} {lv : ByteArray} {b : Bool} (hL : ps.getLast? ≠ some ByteArray.empty → rsS s = none) (h : ps.getLast? = some lv) (hb : lv.toList.isEmpty = b) : b = false → rsS s = none := by
  rintro rfl
  apply hL
  rw [h]
  intro e
  rw [Option.some.inj e] at hb
  exact absurd hb (by rw [Lib.toList_data]; decide)

set_option maxRecDepth 100000 in
set_option maxHeartbeats 6400000 in
theorem sReadScheme_any (s : ByteArray) (hs : s.size ≤ 1048576) (w : World) :
    Calls Tryz.prog 5 #[.string s] w (RsR (rsS s) w) := by
  obtain ⟨i0, hi, hz0, hz1, hz2⟩ := info_parts info_field
  have SP := Lib.hid fun W => sSplitAt_any s 10 (by omega) W
  have hfit := pieces_fit 10 s
  have hne := pieces_ne 10 s
  have hlen := pieces_len 10 s
  have hla := last_at hne
  obtain ⟨ps, hps⟩ : ∃ ps, ps = pieces 10 s := ⟨_, rfl⟩
  have BD := Lib.hid fun j hj (h : rdF rfS (ps.take j) = none) => rsS_bad (s := s) (j := j) (by rw [← hps]; exact hj) (by rw [← hps]; exact h)
  have LA := Lib.hid fun (h : ps.getLast? ≠ some ByteArray.empty) => rsS_last (s := s) (by rw [← hps]; exact h)
  have AT := Lib.hid fun ds (h1 : ps.getLast? = some ByteArray.empty) (h : rdF rfS (ps.take (ps.length - 1)) = some ds) => rsS_at (s := s) (ds := ds) (by rw [← hps]; exact h1) (by rw [← hps]; exact h)
  rw [← hps] at SP hfit hne hlen hla
  clear hps
  have FW := Lib.hid (fun i (hi : i < ps.length) => Nat.le_trans (hfit (ps.getD i ⟨#[]⟩) (by simp [List.getD, hi])) hs)
  obtain ⟨n, hn⟩ : ∃ n, n = ps.length := ⟨_, rfl⟩
  have hn1 : 1 ≤ n := by rw [hn]; exact List.length_pos_iff.2 hne
  have hn2 : n ≤ 1048577 := by omega
  have HN := Lib.hid hn
  have HL := Lib.hid hla
  have kw : IntKind.i64.wrap ((n : Int) - 1) = ((n - 1 : Nat) : Int) := by rw [show (n : Int) - 1 = ((n - 1 : Nat) : Int) by omega]; exact IntWalk.i64_in _ (by omega)
  have i1 : (0 : Int) ≤ ((n - 1 : Nat) : Int) := by omega
  have i2 : ((n - 1 : Nat) : Int) < (n : Int) := by omega
  have FA := Lib.hid (fun t (ht : t ∈ ps) => Nat.le_trans (hfit t ht) hs)
  clear hfit hne hlen hla hn
  obtain ⟨lv, hlv⟩ : ∃ lv, lv = ps.getD (n - 1) ⟨#[]⟩ := ⟨_, rfl⟩
  have LV := Lib.hid hlv
  clear hlv
  obtain ⟨b0, hl⟩ : ∃ b0, lv.toList.isEmpty = b0 := ⟨_, rfl⟩
  have HE := Lib.hid hl
  go_enter Tryz.func5, Tryz.ntmps5
  go_wp2_with (go_at_call 15; refine (SP.out _).mono ?_; rintro e w1 ⟨v, rfl, hO, hB⟩; obtain ⟨a1, k1, hv, hI⟩ := ownStrs_in hO; rw [← HN.out] at hv; obtain ⟨bq, oq, ha1, l1, hc⟩ := strsC_at hI (by rw [← HN.out]; exact hn1); subst ha1; subst hv; have B1 := Lib.hid hB; have d0 := hc (n - 1) (by rw [← HN.out]; omega); rw [← LV.out] at d0; have DD := Lib.hid (fun k (h2 : k < n) => hc k (by rw [← HN.out]; exact h2)); have L1 := Lib.hid l1; clear hO hB hI hc)
  have O1 := Lib.hid (ownFds_made (w := w1) (B := w1.heap.size) rfl (Nat.le_refl _))
  have A1 := Lib.hid (below_new (Below.refl w1.heap.size w1) (.cells #[] 38))
  have EL : Hid (ps.getLast? = some lv) := Lib.hid (by rw [HL.out, LV.out, HN.out])
  clear d0 l1
  go_loopw [5, 6, 7] (fun v okv i wr => ∃ (j : Nat) (ds : List Fd) (b : Bool), j + 1 ≤ n ∧ ds.length = j ∧ (b = true → rdF rfS (ps.take j) = some ds ∧ ps.getLast? = some ByteArray.empty) ∧ (b = false → rsS s = none) ∧ i = .int .i64 (j : Int) ∧ okv = .bool b ∧ OwnFds w1.heap.size ds v wr ∧ Below w1.heap.size w1 wr) (fun _ _ i _ => n - (intOf i).toNat)
  case atStart => exact ⟨0, [], _, hn1, rfl, start_yes EL.out HE.out, start_no LA.out EL.out HE.out, rfl, rfl, O1.out, A1.out⟩
  case round =>
    obtain ⟨j, ds, b, hj, hd, ht, hf, rfl, rfl, hO, hA⟩ := hrel
    have OO := Lib.hid hO
    have AA := Lib.hid hA
    have x1 : IntKind.i64.wrap ((j : Int) + 1) = (j : Int) + 1 := IntWalk.i64_in _ (by omega)
    have HD := Lib.hid hd
    have hd2 : ds.length + 1 ≤ 1048577 := by omega
    clear hO hA hd
    cases b
    · have EQ := Lib.hid (hf rfl)
      clear ht hf
      by_cases hjn : j + 1 < n
      all_goals
        have dl : decide ((j : Int) + 1 < (n : Int)) = decide (j + 1 < n) := by rw [Bool.eq_iff_iff, decide_eq_true_eq, decide_eq_true_eq]; omega
        simp only [hjn, decide_true, decide_false] at dl
        go_wp2
        go_returns
        exact ⟨_, by rw [EQ.out]; rfl, by rw [EQ.out]; exact ownFds_made rfl (Nat.le_trans B1.out.size AA.out.size), below_new (B1.out.trans (Below.mono AA.out B1.out.size)) _⟩
    · obtain ⟨hr, hq⟩ := ht rfl
      have RR := Lib.hid hr
      have QQ := Lib.hid hq
      clear ht hf hr hq
      by_cases hjn : j + 1 < n
      · have dl : decide ((j : Int) + 1 < (n : Int)) = true := decide_eq_true (by omega)
        have c1 : wr.cell? ⟨bq, oq + j, none⟩ = some (.string (ps.getD j ⟨#[]⟩)) := (AA.out.cell (p := ⟨bq, oq + j, none⟩) L1.out).trans (DD.out j (by omega))
        have l1 := Nat.lt_of_lt_of_le L1.out AA.out.size
        have fw := FW.out j (by rw [← HN.out]; omega)
        have j1 : (0 : Int) ≤ (j : Int) := by omega
        have j2 : (j : Int) < (n : Int) := by omega
        have TN := Lib.hid (take_next (ps := ps) (j := j) (by rw [← HN.out]; omega))
        generalize ps.getD j ⟨#[]⟩ = y at *
        cases hc : rfS y with
        | none =>
          have EQ := Lib.hid (BD.out (j + 1) (by rw [← HN.out]; omega) (by rw [TN.out]; exact rdF_bad hc []))
          have C := Lib.hid (sRef_no y fw hc)
          go_wp2_with (first
            | (go_at_call 16; refine (C.out _).mono ?_; rintro e w3 ⟨ns, nk, nt, nz, rfl, hB⟩; have O3 := Lib.hid (World.ownsRow.alloc (ownFds_kept OO.out hB) (.cells #[.string ns, .int .i8 nk, .int .i16 nt, .int .i16 nz] 38)); have A3 := Lib.hid (AA.out.trans (Below.mono hB AA.out.size)); clear hB)
            | (at_builtin; go_loud (refine wpList_append_own _ rfl _ _ 22 rfl w1.heap.size 38 i0 (.agg #[.string ByteArray.empty, .int .i8 0, .int .i16 0, .int .i16 0]) 4 24 Tryz.underlying22 hi hz0 hz1 hz2 rfl (by decide) _ _ _ rfl (World.ownsRow.alloc O3.out _) ⟨w3.heap.size + 1, 0, none⟩ 1 1 [.string ns, .int .i8 nk, .int .i16 nt, .int .i16 nz] rfl rfl (new4S _ _ (by simp) _ _ _ _ _) (fun x hx => by simp at hx; rcases hx with rfl | rfl | rfl | rfl <;> rfl) (by unfold maxLen; omega) (by omega) (by have h := A3.out.size; first | (simp; done) | (simp; omega)) ?_; intro v' w5 hown hgrow _; have P := Lib.hid (ownFds_push hown); have G := Lib.hid (Below.grown ((A3.out.alloc A3.out.size (.cells #[.string ns, .int .i8 nk, .int .i16 nt, .int .i16 nz] 38)).alloc (by have h := A3.out.size; first | (simp; done) | (simp; omega)) (.cells #[.string ns, .int .i8 nk, .int .i16 nt, .int .i16 nz] 38)) hgrow (by have h := A3.out.size; first | (simp; done) | (simp; omega)) (fun j hj => (World.ownsRow.lt OO.out j hj).1)); clear hown hgrow)))
          exact ⟨⟨j + 1, _, false, by omega, by rw [List.length_append, HD.out]; rfl, fun h => (by cases h), fun _ => EQ.out, by go_num, rfl, P.out, G.out⟩, by (simp [intOf]) <;> omega⟩
        | some c =>
          obtain ⟨nm, kd, a, b⟩ := c
          have EQ := Lib.hid (show rdF rfS (ps.take (j + 1)) = some (ds ++ [Fd.mk nm kd a b]) by rw [TN.out]; exact rdF_snoc RR.out hc)
          have C := Lib.hid (sRef_yes y fw nm kd a b hc)
          go_wp2_with (first
            | (go_at_call 16; refine (C.out _).mono ?_; rintro e w3 ⟨rfl, hB⟩; have O3 := Lib.hid (World.ownsRow.alloc (ownFds_kept OO.out hB) (.cells #[.string nm, .int .i8 kd, .int .i16 a, .int .i16 b] 38)); have A3 := Lib.hid (AA.out.trans (Below.mono hB AA.out.size)); clear hB)
            | (at_builtin; go_loud (refine wpList_append_own _ rfl _ _ 22 rfl w1.heap.size 38 i0 (.agg #[.string ByteArray.empty, .int .i8 0, .int .i16 0, .int .i16 0]) 4 24 Tryz.underlying22 hi hz0 hz1 hz2 rfl (by decide) _ _ _ rfl (World.ownsRow.alloc O3.out _) ⟨w3.heap.size + 1, 0, none⟩ 1 1 [.string nm, .int .i8 kd, .int .i16 a, .int .i16 b] rfl rfl (new4S _ _ (by simp) _ _ _ _ _) (fun x hx => by simp at hx; rcases hx with rfl | rfl | rfl | rfl <;> rfl) (by unfold maxLen; omega) (by omega) (by have h := A3.out.size; first | (simp; done) | (simp; omega)) ?_; intro v' w5 hown hgrow _; have P := Lib.hid (ownFds_push hown); have G := Lib.hid (Below.grown ((A3.out.alloc A3.out.size (.cells #[.string nm, .int .i8 kd, .int .i16 a, .int .i16 b] 38)).alloc (by have h := A3.out.size; first | (simp; done) | (simp; omega)) (.cells #[.string nm, .int .i8 kd, .int .i16 a, .int .i16 b] 38)) hgrow (by have h := A3.out.size; first | (simp; done) | (simp; omega)) (fun j hj => (World.ownsRow.lt OO.out j hj).1)); clear hown hgrow)))
          exact ⟨⟨j + 1, _, true, by omega, by rw [List.length_append, HD.out]; rfl, fun _ => ⟨EQ.out, QQ.out⟩, fun h => (by cases h), by go_num, rfl, P.out, G.out⟩, by (simp [intOf]) <;> omega⟩
      · have ej : j = n - 1 := by omega
        have dl : decide ((j : Int) + 1 < (n : Int)) = false := decide_eq_false (by omega)
        obtain ⟨ad, cc, hv, hC⟩ := ownFds_in OO.out
        subst hv
        have CC := Lib.hid hC
        have TZ := Lib.hid (fun t (ht : t ∈ ps.take j) => FA.out t (List.mem_of_mem_take ht))
        clear hC
        have er := AT.out ds QQ.out (by rw [← HN.out, ← ej]; exact RR.out)
        have CI := Lib.hid (fieldsIn_ofO CC.out (rdS_fits TZ.out RR.out))
        have V := fun W h => sSch_any ad ds cc W h
        clear ej
        cases hk : schOk ds
        · rw [hk] at V
          rw [if_neg (by rw [hk]; simp)] at er
          have EQ := Lib.hid er
          replace V := Lib.hid V
          clear er hk
          go_wp2_with (go_at_call 17; refine (V.out _ CI.out).mono ?_; rintro e w3 ⟨rfl, hB⟩; have A3 := Lib.hid (AA.out.trans (Below.mono hB AA.out.size)); clear hB)
          go_returns
          exact ⟨_, by rw [EQ.out]; rfl, by rw [EQ.out]; exact ownFds_made rfl (Nat.le_trans B1.out.size A3.out.size), below_new (B1.out.trans (Below.mono A3.out B1.out.size)) _⟩
        · rw [hk] at V
          rw [if_pos hk] at er
          have EQ := Lib.hid er
          replace V := Lib.hid V
          clear er hk
          go_wp2_with (go_at_call 17; refine (V.out _ CI.out).mono ?_; rintro e w3 ⟨rfl, hB⟩; have A3 := Lib.hid (AA.out.trans (Below.mono hB AA.out.size)); have O3 := Lib.hid (ownFds_kept OO.out hB); clear hB)
          go_returns
          exact ⟨_, by rw [EQ.out]; rfl, by rw [EQ.out]; exact ownFds_weaken O3.out B1.out.size, B1.out.trans (Below.mono A3.out B1.out.size)⟩
end Go.Proofs.YtnbijfeidgddmaaGreatDoor
