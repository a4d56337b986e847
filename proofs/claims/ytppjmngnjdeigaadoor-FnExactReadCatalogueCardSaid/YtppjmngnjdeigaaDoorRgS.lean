/- Contract: the model's ReadCatalogue. -/
import Derived.Test.YtppjmngnjdeigaaDoorRgC
import Derived.Test.YtppjmngnjdeigaaDoorEOwn
import Derived.Deep.DeepCutAuto
namespace Go.Proofs.YtppjmngnjdeigaaDoor
open Go.ChangeShapes Go.WideShapes Go.ChangeAt Go.RowKit

/-! ### An entry, read from a line among these pieces -/
def gP (ps : List ByteArray) (sg : List UInt8) (t : ByteArray) : Int :=
  if (pieces 59 t).length = 2 ∧ sg.length < ((pieces 59 t).getD 1 ByteArray.empty).size ∧ ((pieces 59 t).getD 1 ByteArray.empty).data.toList.take sg.length = sg then fstN (ps.map nmB) (mkS (((pieces 59 t).getD 1 ByteArray.empty).data.toList.drop sg.length)) (ps.length - 1) else -1
def eP (ps : List ByteArray) (t : ByteArray) : Et := ⟨nmB t, gP ps seeS t, gP ps belS t⟩
theorem gP_eq {ps : List ByteArray} (h : ps ≠ []) (sg : List UInt8) (t : ByteArray) : gS ps.dropLast sg t = gP ps sg t := by
  unfold gS gP
  have e : ps.map nmB = ps.dropLast.map nmB ++ [nmB (ps.getLast h)] := by
    conv => lhs; rw [← List.dropLast_concat_getLast h]
    rw [List.map_append]; rfl
  rw [e, fstN_app _ _ _ _ (by rw [List.length_map, List.length_dropLast]; exact Nat.le_refl _), List.length_dropLast]
theorem esS_eq {ps : List ByteArray} (h : ps ≠ []) : esS ps.dropLast = (ps.take (ps.length - 1)).map (eP ps) := by
  unfold esS eP
  rw [← List.dropLast_eq_take]
  refine List.map_congr_left fun t _ => ?_
  rw [gP_eq h, gP_eq h]
theorem fstN_in (ns : List ByteArray) (x : ByteArray) : ∀ n, -2 ≤ fstN ns x n ∧ fstN ns x n < n
  | 0 => ⟨by rw [fstN]; omega, by rw [fstN]; omega⟩
  | n + 1 => by
    have := fstN_in ns x n
    rw [fstN]
    split
    · omega
    · split <;> omega
theorem gP_in (ps : List ByteArray) (sg : List UInt8) (t : ByteArray) : -2 ≤ gP ps sg t ∧ gP ps sg t ≤ ps.length := by
  unfold gP
  have := fstN_in (ps.map nmB) (mkS (((pieces 59 t).getD 1 ByteArray.empty).data.toList.drop sg.length)) (ps.length - 1)
  split <;> omega
theorem nmB_le (t : ByteArray) : (nmB t).size ≤ t.size := by
  have h : (mkS (t.data.toList.takeWhile fun c => c != 59)).size = (t.data.toList.takeWhile fun c => c != 59).length := List.size_toArray
  unfold nmB
  rw [h]
  have := List.Sublist.length_le (List.takeWhile_sublist (l := t.data.toList) (fun c : UInt8 => c != 59))
  have h3 : t.data.toList.length = t.size := Array.length_toList
  omega
theorem eP_fits {ps : List ByteArray} {t : ByteArray} (hn : ps.length ≤ 1048577) (ht : t.size ≤ 1048576) : (eP ps t).fits := by
  have h1 := gP_in ps seeS t
  have h2 := gP_in ps belS t
  have h3 := nmB_le t
  unfold eP Et.fits I64 maxLen
  simp only
  refine ⟨by omega, ?_, ?_⟩ <;> omega
theorem gP_no2 {ps : List ByteArray} {sg : List UInt8} {t : ByteArray} (h : (pieces 59 t).length ≠ 2) : gP ps sg t = -1 := by unfold gP; rw [if_neg (fun e => h e.1)]
theorem gP_short {ps : List ByteArray} {sg : List UInt8} {t : ByteArray} (h : ¬ sg.length < ((pieces 59 t).getD 1 ByteArray.empty).size) : gP ps sg t = -1 := by unfold gP; rw [if_neg (fun e => h e.2.1)]
theorem ext_take {p : ByteArray} {k : Nat} : (p.extract 0 k).toList = p.data.toList.take k := by rw [Lib.toList_data, Lib.extract_data, Nat.sub_zero, List.drop_zero]
theorem gP_miss {ps : List ByteArray} {sg : List UInt8} {t : ByteArray} (h : ¬ (((pieces 59 t).getD 1 ByteArray.empty).extract 0 sg.length).toList = sg) : gP ps sg t = -1 := by
  unfold gP
  rw [if_neg (fun e => h (by rw [ext_take]; exact e.2.2))]
theorem gP_hit {ps : List ByteArray} {sg : List UInt8} {t p : ByteArray} (h2 : (pieces 59 t).length = 2) (hp : (pieces 59 t).getD 1 ByteArray.empty = p) (h : sg.length < p.size) (he : (p.extract 0 sg.length).toList = sg) : gP ps sg t = fstN (ps.map nmB) (p.extract sg.length p.size) (ps.length - 1) := by
  unfold gP
  rw [hp, if_pos ⟨h2, h, by rw [← ext_take]; exact he⟩]
  congr 1
  apply data_inj
  rw [Lib.extract_to_end]
  rfl
theorem see_bel {p : ByteArray} (h : (p.extract 0 4).toList = seeS) : ¬ (p.extract 0 6).toList = belS := by
  rw [ext_take] at *
  intro e
  have h4 := congrArg (List.take 4) e
  rw [List.take_take] at h4
  rw [show min 4 6 = 4 from rfl, h] at h4
  exact absurd h4 (by decide)
theorem bel_see {p : ByteArray} (h : (p.extract 0 6).toList = belS) : ¬ (p.extract 0 4).toList = seeS := fun e => see_bel e h
theorem new3G (w : World) (n : Nat) (hn : n = w.heap.size) (x0 x1 x2 : Value) (t : TypeId) : ∀ j u, [x0, x1, x2][j]? = some u → (w.alloc (.cells #[x0, x1, x2] t)).cell? ((⟨n, 0, none⟩ : Addr).add j) = some u := by
  subst hn
  exact new3E w x0 x1 x2 t
theorem take_nextG {ps : List ByteArray} {j : Nat} (h : j < ps.length) : ps.take (j + 1) = ps.take j ++ [ps.getD j ⟨#[]⟩] := by
  rw [List.take_add_one, List.getElem?_eq_getElem h]
  simp [List.getD, h]
theorem own_ltE {B : Nat} {es : List Et} {v : Value} {w : World} {n : Nat} (h : OwnEnts B es v w) (hn : w.heap.size ≤ n) : v.ownBlock ≠ some n := fun e => by
  have := (World.ownsRow.lt h n e).2
  omega
/-- The answer of ReadCatalogue. -/
def RgR (o : Option (List Et)) (w : World) (e : Ending) (w' : World) : Prop := ∃ v, e = .returned (.tuple #[v, .int .i64 (if o.isSome then 0 else 5)]) ∧ OwnEnts w.heap.size (o.getD []) v w' ∧ Below w.heap.size w w'
theorem rgS_no {s : ByteArray} {ps : List ByteArray} {es : List Et} (hp : ps = pieces 10 s) (he : es = (ps.take (ps.length - 1)).map (eP ps)) (h : catOk es = false ∨ cgN es es.length ≠ s) : rgS s = none := by
  unfold rgS
  rw [← hp, esS_eq (by rw [hp]; exact pieces_ne 10 s), ← he, if_neg]
  rintro ⟨h1, h2⟩
  rcases h with h | h
  · rw [h] at h1; cases h1
  · exact h h2
theorem rgS_yes {s : ByteArray} {ps : List ByteArray} {es : List Et} (hp : ps = pieces 10 s) (he : es = (ps.take (ps.length - 1)).map (eP ps)) (h1 : catOk es = true) (h2 : cgN es es.length = s) : rgS s = some es := by
  unfold rgS
  rw [← hp, esS_eq (by rw [hp]; exact pieces_ne 10 s), ← he, if_pos ⟨h1, h2⟩]
theorem map_fits {ps qs : List ByteArray} {es : List Et} (hn : ps.length ≤ 1048577) (hq : ∀ t ∈ qs, t.size ≤ 1048576) (he : es = qs.map (eP ps)) : ∀ i, i < es.length → (etAt es i).fits := by
  subst he
  intro i hi
  rw [List.length_map] at hi
  have e : etAt (qs.map (eP ps)) i = eP ps qs[i] := by unfold etAt; simp [List.getD, hi]
  rw [e]
  exact eP_fits hn (hq _ (List.getElem_mem hi))

theorem c3_0 (w : World) (x y z : Value) (t : TypeId) : (w.alloc (.cells #[x, y, z] t)).cell? ⟨w.heap.size, 0, none⟩ = some x := by simp
theorem c3_1 (w : World) (x y z : Value) (t : TypeId) : (w.alloc (.cells #[x, y, z] t)).cell? ⟨w.heap.size, 1, none⟩ = some y := by simp
theorem c3_2 (w : World) (x y z : Value) (t : TypeId) : (w.alloc (.cells #[x, y, z] t)).cell? ⟨w.heap.size, 2, none⟩ = some z := by simp
theorem c3_f (w : World) (c : Array Value) (t : TypeId) (k : Nat) : (w.alloc (.cells c t)).frozen? ⟨w.heap.size, k, none⟩ = false := free_of_block (box_3 w (.cells c t)) k

set_option maxRecDepth 100000 in
set_option maxHeartbeats 12800000 in
theorem sReadCat_any (s : ByteArray) (hs : s.size ≤ 1048576) (w : World) :
    Calls Tryd.prog 19 #[.string s] w (RgR (rgS s) w) := by
  obtain ⟨i0, hi, hz0, hz1, hz2⟩ := info_parts info_entry
  have SP := Lib.hid fun W => sSplitAt_any s 10 (by omega) W
  have hfit := pieces_fit 10 s
  have hne := pieces_ne 10 s
  have hlen := pieces_len 10 s
  obtain ⟨ps, hps⟩ : ∃ ps, ps = pieces 10 s := ⟨_, rfl⟩
  have HPS := Lib.hid hps
  rw [← hps] at SP hfit hne hlen
  clear hps
  have FM : Hid (∀ t ∈ ps, t.size ≤ 1048576) := Lib.hid (fun t ht => Nat.le_trans (hfit t ht) hs)
  have FW := Lib.hid (fun i (hi : i < ps.length) => Nat.le_trans (hfit (ps.getD i ⟨#[]⟩) (by simp [List.getD, hi])) hs)
  have IX := Lib.hid (fun (x : ByteArray) (W : World) (a : Option Addr) (c : Nat) (h : StrsIn W a ps) => sIndex_any a ps c x W h (List.length_pos_iff.2 hne) (by omega) FW.out)
  obtain ⟨n, hn⟩ : ∃ n, n = ps.length := ⟨_, rfl⟩
  have hn1 : 1 ≤ n := by rw [hn]; exact List.length_pos_iff.2 hne
  have hn2 : n ≤ 1048577 := by omega
  have HN := Lib.hid hn
  clear hfit hne hlen hn
  go_enter Tryd.func19, Tryd.ntmps19
  go_wp2_with (go_at_call 24; refine (SP.out _).mono ?_; rintro e w1 ⟨v, rfl, hO, hB⟩; obtain ⟨a1, k1, hv, hI⟩ := ownStrs_in hO; rw [← HN.out] at hv; subst hv; obtain ⟨bq, oq, ha1, l1, hc⟩ := strsG_at hI (by rw [← HN.out]; exact hn1); subst ha1; have B1 := Lib.hid hB; have PS := Lib.hid hI; have DD := Lib.hid (fun k (h2 : k < n) => hc k (by rw [← HN.out]; exact h2)); have L1 := Lib.hid l1; clear hO hB hI hc)
  have O1 := Lib.hid (ownE_made (w := w1) (B := w1.heap.size) rfl (Nat.le_refl _))
  have A1 := Lib.hid (below_new (Below.refl w1.heap.size w1) (.cells #[] 81))
  replace IX := Lib.hid (fun (x : ByteArray) (W : World) (h : StrsIn W (some ⟨bq, oq, none⟩) ps) => (show Calls Tryd.prog 47 #[.slice (some ⟨bq, oq, none⟩) n k1, .string x] W fun e w' => e = .returned (.int .i64 (fstN (ps.map nmB) x (ps.length - 1))) ∧ Below W.heap.size W w' by rw [HN.out]; exact IX.out x W _ k1 h))
  clear l1
  go_loopw [5, 6] (fun v i wr => ∃ (j : Nat) (es : List Et), j + 1 ≤ n ∧ es.length = j ∧ Hid (es = (ps.take j).map (eP ps)) ∧ i = .int .i64 (j : Int) ∧ OwnEnts w1.heap.size es v wr ∧ Below w1.heap.size w1 wr) (fun _ i _ => n - (intOf i).toNat)
  case atStart => exact ⟨0, [], hn1, rfl, Lib.hid (by simp), rfl, O1.out, A1.out⟩
  case round =>
    obtain ⟨j, es, hj, hd, HE, rfl, hO, hA⟩ := hrel
    have OO := Lib.hid hO
    have AA := Lib.hid hA
    have x1 : IntKind.i64.wrap ((j : Int) + 1) = (j : Int) + 1 := IntWalk.i64_in _ (by omega)
    have HL := Lib.hid hd
    have hd2 : es.length + 1 ≤ 1048577 := by omega
    clear hO hA hd
    by_cases hjn : j + 1 < n
    · have dl : decide ((j : Int) + 1 < (n : Int)) = true := decide_eq_true (by omega)
      have c1 : wr.cell? ⟨bq, oq + j, none⟩ = some (.string (ps.getD j ⟨#[]⟩)) := (AA.out.cell (p := ⟨bq, oq + j, none⟩) L1.out).trans (DD.out j (by omega))
      have l1 := Nat.lt_of_lt_of_le L1.out AA.out.size
      have fw := FW.out j (by rw [← HN.out]; omega)
      have j1 : (0 : Int) ≤ (j : Int) := by omega
      have j2 : (j : Int) < (n : Int) := by omega
      have TN := Lib.hid (take_nextG (ps := ps) (j := j) (by rw [← HN.out]; omega))
      generalize ps.getD j ⟨#[]⟩ = y at *
      have EV := Lib.hid (fun z1 z2 (h1 : gP ps seeS y = z1) (h2 : gP ps belS y = z2) => (show es ++ [⟨nmB y, z1, z2⟩] = (ps.take (j + 1)).map (eP ps) by rw [TN.out, List.map_append, ← HE.out, ← h1, ← h2]; rfl))
      have SQ := Lib.hid fun W => sSplitAt_any y 59 (by omega) W
      have hne := pieces_ne 59 y
      have hd := pieces_head y
      have hpf := pieces_fit 59 y
      have G2 := Lib.hid (fun sg (h : (pieces 59 y).length ≠ 2) => gP_no2 (ps := ps) (sg := sg) h)
      have GS := Lib.hid (fun sg (h : ¬ sg.length < ((pieces 59 y).getD 1 ByteArray.empty).size) => gP_short (ps := ps) (sg := sg) h)
      have GM := Lib.hid (fun sg (h : ¬ (((pieces 59 y).getD 1 ByteArray.empty).extract 0 sg.length).toList = sg) => gP_miss (ps := ps) (sg := sg) h)
      have GH := Lib.hid (fun sg p (h2 : (pieces 59 y).length = 2) (hp : (pieces 59 y).getD 1 ByteArray.empty = p) (h : sg.length < p.size) he => gP_hit (ps := ps) (sg := sg) h2 hp h he)
      generalize pieces 59 y = qs at *
      obtain ⟨q, hq⟩ : ∃ q, qs.length = q := ⟨_, rfl⟩
      have HQ := Lib.hid hq
      have q1 : 0 < q := by rw [← hq]; exact List.length_pos_iff.2 hne
      have q2 : (0 : Int) < (q : Int) := by omega
      have HD := Lib.hid (show qs.getD 0 ⟨#[]⟩ = nmB y from hd)
      obtain ⟨p, hp⟩ : ∃ p, qs.getD 1 ⟨#[]⟩ = p := ⟨_, rfl⟩
      have HP := Lib.hid hp
      have PF := Lib.hid (fun (h : q = 2) => Nat.le_trans (hpf p (by rw [← hp]; simp [List.getD, show 1 < qs.length by omega])) fw)
      clear hne hd hpf hq hp
      generalize nmB y = ny at *
      by_cases h2 : q = 2
      · subst h2
        have pf := PF.out rfl
        have GSe := fun sg h => GS.out sg (show ¬ sg.length < (qs.getD 1 ByteArray.empty).size by rw [show qs.getD 1 ByteArray.empty = p from HP.out]; exact h)
        have GMe := fun sg h => GM.out sg (show ¬ ((qs.getD 1 ByteArray.empty).extract 0 sg.length).toList = sg by rw [show qs.getD 1 ByteArray.empty = p from HP.out]; exact h)
        have GHe := fun sg h he => GH.out sg p HQ.out HP.out h he
        clear G2 GS GM GH
        by_cases h4 : 4 < p.size
        · have d4 : decide ((4 : Int) < (p.size : Int)) = true := decide_eq_true (by omega)
          have k4 : (4 : Int) ≤ (p.size : Int) := by omega
          by_cases hse : (p.extract 0 4).toList = seeS
          · have e4 : ((p.extract 0 4).toList == [115, 101, 101, 32]) = true := by rw [hse]; rfl
            have hbe := see_bel hse
            have GA := Lib.hid (GHe seeS h4 hse)
            have GB := Lib.hid (GMe belS hbe)
            clear GSe GMe GHe
            generalize hzz : fstN (ps.map nmB) (p.extract seeS.length p.size) (ps.length - 1) = zz at *
            have IX := Lib.hid (fun W h => hzz ▸ IX.out (p.extract seeS.length p.size) W h)
            by_cases h6 : 6 < p.size
            · have d6 : decide ((6 : Int) < (p.size : Int)) = true := decide_eq_true (by omega)
              have k6 : (6 : Int) ≤ (p.size : Int) := by omega
              have e6 : ((p.extract 0 6).toList == [98, 101, 108, 111, 119, 32]) = false := by rw [beq_eq_false_iff_ne]; exact hbe
              go_wp2_with (first
                | (go_at_call 24; refine (SQ.out _).mono ?_; rintro e w2 ⟨v2, rfl, hO, hB⟩; obtain ⟨a2, k2, hv, hI⟩ := ownStrs_in hO; rw [HQ.out] at hv; subst hv; obtain ⟨b2, o2, rfl, hb2, hc2⟩ := strsG_at hI (by rw [HQ.out]; omega); have h0 := hc2 0 (by rw [HQ.out]; omega); rw [HD.out, Nat.add_zero] at h0; have h1 := hc2 1 (by rw [HQ.out]; omega); rw [HP.out] at h1; have A2 := Lib.hid (AA.out.trans (Below.mono hB AA.out.size)); have O2 := Lib.hid (ownEnts_kept OO.out hB); have A5 := Lib.hid (below_new A2.out (.cells #[.string ny, .int .i64 (-1), .int .i64 (-1)] 81)); have s2 := hB.size; have S2 := Lib.hid (strsIn_below (strsIn_below (strsIn_below PS.out AA.out) hB) (below_new (Below.refl w2.heap.size w2) (.cells #[.string ny, .int .i64 (-1), .int .i64 (-1)] 81))); clear hO hB hI hc2)
                | (go_at_call 47; go_loud (refine (IX.out _ S2.out).mono ?_; rintro e w4 ⟨rfl, hB⟩; have A4 := Lib.hid (A5.out.trans (Below.mono hB A5.out.size)); have O4 := Lib.hid (ownEnts_kept (World.ownsRow.alloc O2.out _) hB); have e0 := (hB.cell (p := ⟨w2.heap.size, 0, none⟩) (by simp)).trans (c3_0 w2 _ _ _ _); have e1 := (hB.cell (p := ⟨w2.heap.size, 1, none⟩) (by simp)).trans (c3_1 w2 _ _ _ _); have e2 := (hB.cell (p := ⟨w2.heap.size, 2, none⟩) (by simp)).trans (c3_2 w2 _ _ _ _); have e3 : ∀ k, w4.frozen? ⟨w2.heap.size, k, none⟩ = false := (fun k => (hB.frozen (p := ⟨w2.heap.size, k, none⟩) (by simp)).trans (c3_f w2 _ _ k)); have s4 := hB.size; rw [show ∀ o, (w2.alloc o).heap.size = w2.heap.size + 1 from (fun o => by simp)] at s4; have y4 : w2.heap.size < w4.heap.size := (by omega); have b4 : b2 < w4.heap.size := (by omega); have h0 := (hB.cell (p := ⟨b2, o2, none⟩) (by simp; omega)).trans ((below_new (Below.refl w2.heap.size w2) _).cell (p := ⟨b2, o2, none⟩) hb2 |>.trans h0); have h1 := (hB.cell (p := ⟨b2, o2 + 1, none⟩) (by simp; omega)).trans ((below_new (Below.refl w2.heap.size w2) _).cell (p := ⟨b2, o2 + 1, none⟩) hb2 |>.trans h1); clear hB))
                | (at_builtin; go_loud (refine wpList_append_own _ rfl _ _ 44 rfl w1.heap.size 81 i0 (.agg #[.string ByteArray.empty, .int .i64 0, .int .i64 0]) 3 32 Tryd.underlying44 hi hz0 hz1 hz2 rfl (by decide) _ _ _ rfl (World.ownsRow.alloc (ownsRow_setCell_other O4.out (own_ltE O2.out (Nat.le_refl _)) _) _) ⟨w4.heap.size, 0, none⟩ 1 1 [.string ny, .int .i64 zz, .int .i64 (-1)] rfl rfl (new3G _ _ (by simp) _ _ _ _) (fun x hx => by simp at hx; rcases hx with rfl | rfl | rfl <;> rfl) (by unfold maxLen; omega) (by omega) (by have h := A2.out.size; have h4 := A4.out.size; first | (simp; done) | (simp; omega) | omega) ?_; intro v' w6 hown hgrow _; have P := Lib.hid (ownE_push hown); have G := Lib.hid (Below.grown ((A4.out.setCell (p := ⟨w2.heap.size, 1, none⟩) (by have h := A2.out.size; have h4 := A4.out.size; first | (simp; done) | (simp; omega) | omega) _).alloc (by have h := A2.out.size; have h4 := A4.out.size; first | (simp; done) | (simp; omega) | omega) (.cells #[.string ny, .int .i64 zz, .int .i64 (-1)] 81)) hgrow (by have h := A2.out.size; have h4 := A4.out.size; first | (simp; done) | (simp; omega) | omega) (ownE_lt OO.out)); clear hown hgrow)))
              exact ⟨⟨j + 1, _, by omega, by rw [List.length_append, HL.out]; rfl, Lib.hid (EV.out _ _ GA.out GB.out), by go_num, P.out, G.out⟩, by (simp [intOf]) <;> omega⟩
            · have d6 : decide ((6 : Int) < (p.size : Int)) = false := decide_eq_false (by omega)
              go_wp2_with (first
                | (go_at_call 24; refine (SQ.out _).mono ?_; rintro e w2 ⟨v2, rfl, hO, hB⟩; obtain ⟨a2, k2, hv, hI⟩ := ownStrs_in hO; rw [HQ.out] at hv; subst hv; obtain ⟨b2, o2, rfl, hb2, hc2⟩ := strsG_at hI (by rw [HQ.out]; omega); have h0 := hc2 0 (by rw [HQ.out]; omega); rw [HD.out, Nat.add_zero] at h0; have h1 := hc2 1 (by rw [HQ.out]; omega); rw [HP.out] at h1; have A2 := Lib.hid (AA.out.trans (Below.mono hB AA.out.size)); have O2 := Lib.hid (ownEnts_kept OO.out hB); have A5 := Lib.hid (below_new A2.out (.cells #[.string ny, .int .i64 (-1), .int .i64 (-1)] 81)); have s2 := hB.size; have S2 := Lib.hid (strsIn_below (strsIn_below (strsIn_below PS.out AA.out) hB) (below_new (Below.refl w2.heap.size w2) (.cells #[.string ny, .int .i64 (-1), .int .i64 (-1)] 81))); clear hO hB hI hc2)
                | (go_at_call 47; go_loud (refine (IX.out _ S2.out).mono ?_; rintro e w4 ⟨rfl, hB⟩; have A4 := Lib.hid (A5.out.trans (Below.mono hB A5.out.size)); have O4 := Lib.hid (ownEnts_kept (World.ownsRow.alloc O2.out _) hB); have e0 := (hB.cell (p := ⟨w2.heap.size, 0, none⟩) (by simp)).trans (c3_0 w2 _ _ _ _); have e1 := (hB.cell (p := ⟨w2.heap.size, 1, none⟩) (by simp)).trans (c3_1 w2 _ _ _ _); have e2 := (hB.cell (p := ⟨w2.heap.size, 2, none⟩) (by simp)).trans (c3_2 w2 _ _ _ _); have e3 : ∀ k, w4.frozen? ⟨w2.heap.size, k, none⟩ = false := (fun k => (hB.frozen (p := ⟨w2.heap.size, k, none⟩) (by simp)).trans (c3_f w2 _ _ k)); have s4 := hB.size; rw [show ∀ o, (w2.alloc o).heap.size = w2.heap.size + 1 from (fun o => by simp)] at s4; have y4 : w2.heap.size < w4.heap.size := (by omega); have b4 : b2 < w4.heap.size := (by omega); have h0 := (hB.cell (p := ⟨b2, o2, none⟩) (by simp; omega)).trans ((below_new (Below.refl w2.heap.size w2) _).cell (p := ⟨b2, o2, none⟩) hb2 |>.trans h0); have h1 := (hB.cell (p := ⟨b2, o2 + 1, none⟩) (by simp; omega)).trans ((below_new (Below.refl w2.heap.size w2) _).cell (p := ⟨b2, o2 + 1, none⟩) hb2 |>.trans h1); clear hB))
                | (at_builtin; go_loud (refine wpList_append_own _ rfl _ _ 44 rfl w1.heap.size 81 i0 (.agg #[.string ByteArray.empty, .int .i64 0, .int .i64 0]) 3 32 Tryd.underlying44 hi hz0 hz1 hz2 rfl (by decide) _ _ _ rfl (World.ownsRow.alloc (ownsRow_setCell_other O4.out (own_ltE O2.out (Nat.le_refl _)) _) _) ⟨w4.heap.size, 0, none⟩ 1 1 [.string ny, .int .i64 zz, .int .i64 (-1)] rfl rfl (new3G _ _ (by simp) _ _ _ _) (fun x hx => by simp at hx; rcases hx with rfl | rfl | rfl <;> rfl) (by unfold maxLen; omega) (by omega) (by have h := A2.out.size; have h4 := A4.out.size; first | (simp; done) | (simp; omega) | omega) ?_; intro v' w6 hown hgrow _; have P := Lib.hid (ownE_push hown); have G := Lib.hid (Below.grown ((A4.out.setCell (p := ⟨w2.heap.size, 1, none⟩) (by have h := A2.out.size; have h4 := A4.out.size; first | (simp; done) | (simp; omega) | omega) _).alloc (by have h := A2.out.size; have h4 := A4.out.size; first | (simp; done) | (simp; omega) | omega) (.cells #[.string ny, .int .i64 zz, .int .i64 (-1)] 81)) hgrow (by have h := A2.out.size; have h4 := A4.out.size; first | (simp; done) | (simp; omega) | omega) (ownE_lt OO.out)); clear hown hgrow)))
              exact ⟨⟨j + 1, _, by omega, by rw [List.length_append, HL.out]; rfl, Lib.hid (EV.out _ _ GA.out GB.out), by go_num, P.out, G.out⟩, by (simp [intOf]) <;> omega⟩
          · have e4 : ((p.extract 0 4).toList == [115, 101, 101, 32]) = false := by rw [beq_eq_false_iff_ne]; exact hse
            have GA := Lib.hid (GMe seeS hse)
            by_cases h6 : 6 < p.size
            · have d6 : decide ((6 : Int) < (p.size : Int)) = true := decide_eq_true (by omega)
              have k6 : (6 : Int) ≤ (p.size : Int) := by omega
              by_cases hbe : (p.extract 0 6).toList = belS
              · have e6 : ((p.extract 0 6).toList == [98, 101, 108, 111, 119, 32]) = true := by rw [hbe]; rfl
                have GB := Lib.hid (GHe belS h6 hbe)
                clear GSe GMe GHe
                generalize hzz : fstN (ps.map nmB) (p.extract belS.length p.size) (ps.length - 1) = zz at *
                have IX := Lib.hid (fun W h => hzz ▸ IX.out (p.extract belS.length p.size) W h)
                go_wp2_with (first
                  | (go_at_call 24; refine (SQ.out _).mono ?_; rintro e w2 ⟨v2, rfl, hO, hB⟩; obtain ⟨a2, k2, hv, hI⟩ := ownStrs_in hO; rw [HQ.out] at hv; subst hv; obtain ⟨b2, o2, rfl, hb2, hc2⟩ := strsG_at hI (by rw [HQ.out]; omega); have h0 := hc2 0 (by rw [HQ.out]; omega); rw [HD.out, Nat.add_zero] at h0; have h1 := hc2 1 (by rw [HQ.out]; omega); rw [HP.out] at h1; have A2 := Lib.hid (AA.out.trans (Below.mono hB AA.out.size)); have O2 := Lib.hid (ownEnts_kept OO.out hB); have A5 := Lib.hid (below_new A2.out (.cells #[.string ny, .int .i64 (-1), .int .i64 (-1)] 81)); have s2 := hB.size; have S2 := Lib.hid (strsIn_below (strsIn_below (strsIn_below PS.out AA.out) hB) (below_new (Below.refl w2.heap.size w2) (.cells #[.string ny, .int .i64 (-1), .int .i64 (-1)] 81))); clear hO hB hI hc2)
                  | (go_at_call 47; go_loud (refine (IX.out _ S2.out).mono ?_; rintro e w4 ⟨rfl, hB⟩; have A4 := Lib.hid (A5.out.trans (Below.mono hB A5.out.size)); have O4 := Lib.hid (ownEnts_kept (World.ownsRow.alloc O2.out _) hB); have e0 := (hB.cell (p := ⟨w2.heap.size, 0, none⟩) (by simp)).trans (c3_0 w2 _ _ _ _); have e1 := (hB.cell (p := ⟨w2.heap.size, 1, none⟩) (by simp)).trans (c3_1 w2 _ _ _ _); have e2 := (hB.cell (p := ⟨w2.heap.size, 2, none⟩) (by simp)).trans (c3_2 w2 _ _ _ _); have e3 : ∀ k, w4.frozen? ⟨w2.heap.size, k, none⟩ = false := (fun k => (hB.frozen (p := ⟨w2.heap.size, k, none⟩) (by simp)).trans (c3_f w2 _ _ k)); have s4 := hB.size; rw [show ∀ o, (w2.alloc o).heap.size = w2.heap.size + 1 from (fun o => by simp)] at s4; have y4 : w2.heap.size < w4.heap.size := (by omega); have b4 : b2 < w4.heap.size := (by omega); have h0 := (hB.cell (p := ⟨b2, o2, none⟩) (by simp; omega)).trans ((below_new (Below.refl w2.heap.size w2) _).cell (p := ⟨b2, o2, none⟩) hb2 |>.trans h0); have h1 := (hB.cell (p := ⟨b2, o2 + 1, none⟩) (by simp; omega)).trans ((below_new (Below.refl w2.heap.size w2) _).cell (p := ⟨b2, o2 + 1, none⟩) hb2 |>.trans h1); clear hB))
                  | (at_builtin; go_loud (refine wpList_append_own _ rfl _ _ 44 rfl w1.heap.size 81 i0 (.agg #[.string ByteArray.empty, .int .i64 0, .int .i64 0]) 3 32 Tryd.underlying44 hi hz0 hz1 hz2 rfl (by decide) _ _ _ rfl (World.ownsRow.alloc (ownsRow_setCell_other O4.out (own_ltE O2.out (Nat.le_refl _)) _) _) ⟨w4.heap.size, 0, none⟩ 1 1 [.string ny, .int .i64 (-1), .int .i64 zz] rfl rfl (new3G _ _ (by simp) _ _ _ _) (fun x hx => by simp at hx; rcases hx with rfl | rfl | rfl <;> rfl) (by unfold maxLen; omega) (by omega) (by have h := A2.out.size; have h4 := A4.out.size; first | (simp; done) | (simp; omega) | omega) ?_; intro v' w6 hown hgrow _; have P := Lib.hid (ownE_push hown); have G := Lib.hid (Below.grown ((A4.out.setCell (p := ⟨w2.heap.size, 2, none⟩) (by have h := A2.out.size; have h4 := A4.out.size; first | (simp; done) | (simp; omega) | omega) _).alloc (by have h := A2.out.size; have h4 := A4.out.size; first | (simp; done) | (simp; omega) | omega) (.cells #[.string ny, .int .i64 (-1), .int .i64 zz] 81)) hgrow (by have h := A2.out.size; have h4 := A4.out.size; first | (simp; done) | (simp; omega) | omega) (ownE_lt OO.out)); clear hown hgrow)))
                exact ⟨⟨j + 1, _, by omega, by rw [List.length_append, HL.out]; rfl, Lib.hid (EV.out _ _ GA.out GB.out), by go_num, P.out, G.out⟩, by (simp [intOf]) <;> omega⟩
              · have e6 : ((p.extract 0 6).toList == [98, 101, 108, 111, 119, 32]) = false := by rw [beq_eq_false_iff_ne]; exact hbe
                have GB := Lib.hid (GMe belS hbe)
                clear GSe GMe GHe
                go_wp2_with (first
                  | (go_at_call 24; refine (SQ.out _).mono ?_; rintro e w2 ⟨v2, rfl, hO, hB⟩; obtain ⟨a2, k2, hv, hI⟩ := ownStrs_in hO; rw [HQ.out] at hv; subst hv; obtain ⟨b2, o2, rfl, hb2, hc2⟩ := strsG_at hI (by rw [HQ.out]; omega); have h0 := hc2 0 (by rw [HQ.out]; omega); rw [HD.out, Nat.add_zero] at h0; have h1 := hc2 1 (by rw [HQ.out]; omega); rw [HP.out] at h1; have A2 := Lib.hid (AA.out.trans (Below.mono hB AA.out.size)); have O2 := Lib.hid (ownEnts_kept OO.out hB); have A5 := Lib.hid (below_new A2.out (.cells #[.string ny, .int .i64 (-1), .int .i64 (-1)] 81)); have s2 := hB.size; clear hO hB hI hc2)
                  | (at_builtin; go_loud (refine wpList_append_own _ rfl _ _ 44 rfl w1.heap.size 81 i0 (.agg #[.string ByteArray.empty, .int .i64 0, .int .i64 0]) 3 32 Tryd.underlying44 hi hz0 hz1 hz2 rfl (by decide) _ _ _ rfl (World.ownsRow.alloc (World.ownsRow.alloc O2.out _) _) ⟨w2.heap.size + 1, 0, none⟩ 1 1 [.string ny, .int .i64 (-1), .int .i64 (-1)] rfl rfl (new3G _ _ (by simp) _ _ _ _) (fun x hx => by simp at hx; rcases hx with rfl | rfl | rfl <;> rfl) (by unfold maxLen; omega) (by omega) (by have h := A2.out.size; first | (simp; done) | (simp; omega) | omega) ?_; intro v' w6 hown hgrow _; have P := Lib.hid (ownE_push hown); have G := Lib.hid (Below.grown (A5.out.alloc (by have h := A2.out.size; first | (simp; done) | (simp; omega) | omega) (.cells #[.string ny, .int .i64 (-1), .int .i64 (-1)] 81)) hgrow (by have h := A2.out.size; first | (simp; done) | (simp; omega) | omega) (ownE_lt OO.out)); clear hown hgrow)))
                exact ⟨⟨j + 1, _, by omega, by rw [List.length_append, HL.out]; rfl, Lib.hid (EV.out _ _ GA.out GB.out), by go_num, P.out, G.out⟩, by (simp [intOf]) <;> omega⟩
            · have d6 : decide ((6 : Int) < (p.size : Int)) = false := decide_eq_false (by omega)
              have GB := Lib.hid (GSe belS h6)
              clear GSe GMe GHe
              go_wp2_with (first
                | (go_at_call 24; refine (SQ.out _).mono ?_; rintro e w2 ⟨v2, rfl, hO, hB⟩; obtain ⟨a2, k2, hv, hI⟩ := ownStrs_in hO; rw [HQ.out] at hv; subst hv; obtain ⟨b2, o2, rfl, hb2, hc2⟩ := strsG_at hI (by rw [HQ.out]; omega); have h0 := hc2 0 (by rw [HQ.out]; omega); rw [HD.out, Nat.add_zero] at h0; have h1 := hc2 1 (by rw [HQ.out]; omega); rw [HP.out] at h1; have A2 := Lib.hid (AA.out.trans (Below.mono hB AA.out.size)); have O2 := Lib.hid (ownEnts_kept OO.out hB); have A5 := Lib.hid (below_new A2.out (.cells #[.string ny, .int .i64 (-1), .int .i64 (-1)] 81)); have s2 := hB.size; clear hO hB hI hc2)
                | (at_builtin; go_loud (refine wpList_append_own _ rfl _ _ 44 rfl w1.heap.size 81 i0 (.agg #[.string ByteArray.empty, .int .i64 0, .int .i64 0]) 3 32 Tryd.underlying44 hi hz0 hz1 hz2 rfl (by decide) _ _ _ rfl (World.ownsRow.alloc (World.ownsRow.alloc O2.out _) _) ⟨w2.heap.size + 1, 0, none⟩ 1 1 [.string ny, .int .i64 (-1), .int .i64 (-1)] rfl rfl (new3G _ _ (by simp) _ _ _ _) (fun x hx => by simp at hx; rcases hx with rfl | rfl | rfl <;> rfl) (by unfold maxLen; omega) (by omega) (by have h := A2.out.size; first | (simp; done) | (simp; omega) | omega) ?_; intro v' w6 hown hgrow _; have P := Lib.hid (ownE_push hown); have G := Lib.hid (Below.grown (A5.out.alloc (by have h := A2.out.size; first | (simp; done) | (simp; omega) | omega) (.cells #[.string ny, .int .i64 (-1), .int .i64 (-1)] 81)) hgrow (by have h := A2.out.size; first | (simp; done) | (simp; omega) | omega) (ownE_lt OO.out)); clear hown hgrow)))
              exact ⟨⟨j + 1, _, by omega, by rw [List.length_append, HL.out]; rfl, Lib.hid (EV.out _ _ GA.out GB.out), by go_num, P.out, G.out⟩, by (simp [intOf]) <;> omega⟩
        · have d4 : decide ((4 : Int) < (p.size : Int)) = false := decide_eq_false (by omega)
          have d6 : decide ((6 : Int) < (p.size : Int)) = false := decide_eq_false (by omega)
          have GA := Lib.hid (GSe seeS (by show ¬ 4 < p.size; exact h4))
          have GB := Lib.hid (GSe belS (by show ¬ 6 < p.size; omega))
          clear GSe GMe GHe
          go_wp2_with (first
            | (go_at_call 24; refine (SQ.out _).mono ?_; rintro e w2 ⟨v2, rfl, hO, hB⟩; obtain ⟨a2, k2, hv, hI⟩ := ownStrs_in hO; rw [HQ.out] at hv; subst hv; obtain ⟨b2, o2, rfl, hb2, hc2⟩ := strsG_at hI (by rw [HQ.out]; omega); have h0 := hc2 0 (by rw [HQ.out]; omega); rw [HD.out, Nat.add_zero] at h0; have h1 := hc2 1 (by rw [HQ.out]; omega); rw [HP.out] at h1; have A2 := Lib.hid (AA.out.trans (Below.mono hB AA.out.size)); have O2 := Lib.hid (ownEnts_kept OO.out hB); have A5 := Lib.hid (below_new A2.out (.cells #[.string ny, .int .i64 (-1), .int .i64 (-1)] 81)); have s2 := hB.size; clear hO hB hI hc2)
            | (at_builtin; go_loud (refine wpList_append_own _ rfl _ _ 44 rfl w1.heap.size 81 i0 (.agg #[.string ByteArray.empty, .int .i64 0, .int .i64 0]) 3 32 Tryd.underlying44 hi hz0 hz1 hz2 rfl (by decide) _ _ _ rfl (World.ownsRow.alloc (World.ownsRow.alloc O2.out _) _) ⟨w2.heap.size + 1, 0, none⟩ 1 1 [.string ny, .int .i64 (-1), .int .i64 (-1)] rfl rfl (new3G _ _ (by simp) _ _ _ _) (fun x hx => by simp at hx; rcases hx with rfl | rfl | rfl <;> rfl) (by unfold maxLen; omega) (by omega) (by have h := A2.out.size; first | (simp; done) | (simp; omega) | omega) ?_; intro v' w6 hown hgrow _; have P := Lib.hid (ownE_push hown); have G := Lib.hid (Below.grown (A5.out.alloc (by have h := A2.out.size; first | (simp; done) | (simp; omega) | omega) (.cells #[.string ny, .int .i64 (-1), .int .i64 (-1)] 81)) hgrow (by have h := A2.out.size; first | (simp; done) | (simp; omega) | omega) (ownE_lt OO.out)); clear hown hgrow)))
          exact ⟨⟨j + 1, _, by omega, by rw [List.length_append, HL.out]; rfl, Lib.hid (EV.out _ _ GA.out GB.out), by go_num, P.out, G.out⟩, by (simp [intOf]) <;> omega⟩
      · have d2 : decide ((q : Int) = 2) = false := decide_eq_false (by omega)
        have d3 : ((q : Int) == 2) = false := by rw [beq_eq_false_iff_ne]; omega
        have GA := Lib.hid (G2.out seeS (by rw [HQ.out]; exact h2))
        have GB := Lib.hid (G2.out belS (by rw [HQ.out]; exact h2))
        clear G2 GS GM GH PF
        go_wp2_with (first
          | (go_at_call 24; refine (SQ.out _).mono ?_; rintro e w2 ⟨v2, rfl, hO, hB⟩; obtain ⟨a2, k2, hv, hI⟩ := ownStrs_in hO; rw [HQ.out] at hv; subst hv; obtain ⟨b2, o2, rfl, hb2, hc2⟩ := strsG_at hI (by rw [HQ.out]; omega); have h0 := hc2 0 (by rw [HQ.out]; omega); rw [HD.out, Nat.add_zero] at h0; have A2 := Lib.hid (AA.out.trans (Below.mono hB AA.out.size)); have O2 := Lib.hid (ownEnts_kept OO.out hB); have A5 := Lib.hid (below_new A2.out (.cells #[.string ny, .int .i64 (-1), .int .i64 (-1)] 81)); have s2 := hB.size; clear hO hB hI hc2)
          | (at_builtin; go_loud (refine wpList_append_own _ rfl _ _ 44 rfl w1.heap.size 81 i0 (.agg #[.string ByteArray.empty, .int .i64 0, .int .i64 0]) 3 32 Tryd.underlying44 hi hz0 hz1 hz2 rfl (by decide) _ _ _ rfl (World.ownsRow.alloc (World.ownsRow.alloc O2.out _) _) ⟨w2.heap.size + 1, 0, none⟩ 1 1 [.string ny, .int .i64 (-1), .int .i64 (-1)] rfl rfl (new3G _ _ (by simp) _ _ _ _) (fun x hx => by simp at hx; rcases hx with rfl | rfl | rfl <;> rfl) (by unfold maxLen; omega) (by omega) (by have h := A2.out.size; first | (simp; done) | (simp; omega) | omega) ?_; intro v' w6 hown hgrow _; have P := Lib.hid (ownE_push hown); have G := Lib.hid (Below.grown (A5.out.alloc (by have h := A2.out.size; first | (simp; done) | (simp; omega) | omega) (.cells #[.string ny, .int .i64 (-1), .int .i64 (-1)] 81)) hgrow (by have h := A2.out.size; first | (simp; done) | (simp; omega) | omega) (ownE_lt OO.out)); clear hown hgrow)))
        exact ⟨⟨j + 1, _, by omega, by rw [List.length_append, HL.out]; rfl, Lib.hid (EV.out _ _ GA.out GB.out), by go_num, P.out, G.out⟩, by (simp [intOf]) <;> omega⟩
    · have dl : decide ((j : Int) + 1 < (n : Int)) = false := decide_eq_false (by omega)
      have ej : j = ps.length - 1 := by rw [← HN.out]; omega
      obtain ⟨ad, cc, hv, hC⟩ := ownEnts_in OO.out
      subst hv
      have HE2 := Lib.hid (show es = (ps.take (ps.length - 1)).map (eP ps) by rw [← ej]; exact HE.out)
      have CI := Lib.hid (entsIn_of hC (map_fits (by rw [← HN.out]; exact hn2) (fun t ht => FM.out t (List.mem_of_mem_take ht)) HE.out))
      have V := fun W h => sCat_any ad es cc W h
      clear ej hC
      cases hk : catOk es
      · rw [hk] at V
        have EQ := Lib.hid (rgS_no HPS.out HE2.out (.inl hk))
        replace V := Lib.hid V
        clear hk
        go_wp2_with (go_at_call 48; refine (V.out _ CI.out).mono ?_; rintro e w3 ⟨rfl, hB⟩; have A3 := Lib.hid (AA.out.trans (Below.mono hB AA.out.size)); clear hB)
        go_returns
        exact ⟨_, by rw [EQ.out]; rfl, by rw [EQ.out]; exact ownE_made rfl (Nat.le_trans B1.out.size A3.out.size), below_new (B1.out.trans (Below.mono A3.out B1.out.size)) _⟩
      · rw [hk] at V
        have X := Lib.hid fun W h => sCg_any ad es cc W h hk
        replace V := Lib.hid V
        generalize hT0 : cgN es es.length = T at *
        by_cases hT : T = s
        · subst hT
          have EQ := Lib.hid (rgS_yes HPS.out HE2.out hk hT0)
          have n1 : (T.toList == T.toList) = true := by simp
          clear hk hT0
          go_wp2_with (first
            | (go_at_call 48; refine (V.out _ CI.out).mono ?_; rintro e w3 ⟨rfl, hB⟩; have A3 := Lib.hid (AA.out.trans (Below.mono hB AA.out.size)); have O3 := Lib.hid (ownEnts_kept OO.out hB); have C3 := Lib.hid (entsIn_below CI.out hB); clear hB)
            | (go_at_call 49; refine (X.out _ C3.out).mono ?_; rintro e w4 ⟨rfl, hB⟩; have A4 := Lib.hid (A3.out.trans (Below.mono hB A3.out.size)); have O4 := Lib.hid (ownEnts_kept O3.out hB); clear hB))
          go_returns
          exact ⟨_, by rw [EQ.out]; rfl, by rw [EQ.out]; exact ownEnts_weaken O4.out B1.out.size, B1.out.trans (Below.mono A4.out B1.out.size)⟩
        · have EQ := Lib.hid (rgS_no HPS.out HE2.out (.inr (by rw [hT0]; exact hT)))
          have n1 := str_eqX hT
          clear hk hT0
          go_wp2_with (first
            | (go_at_call 48; refine (V.out _ CI.out).mono ?_; rintro e w3 ⟨rfl, hB⟩; have A3 := Lib.hid (AA.out.trans (Below.mono hB AA.out.size)); have C3 := Lib.hid (entsIn_below CI.out hB); clear hB)
            | (go_at_call 49; refine (X.out _ C3.out).mono ?_; rintro e w4 ⟨rfl, hB⟩; have A4 := Lib.hid (A3.out.trans (Below.mono hB A3.out.size)); clear hB))
          go_returns
          exact ⟨_, by rw [EQ.out]; rfl, by rw [EQ.out]; exact ownE_made rfl (Nat.le_trans B1.out.size A4.out.size), below_new (B1.out.trans (Below.mono A4.out B1.out.size)) _⟩
end Go.Proofs.YtppjmngnjdeigaaDoor
