/- Contracts: AddEntry, the program's and the model's. -/
import Derived.Test.YtcbcggnpbjcdfaaDoorEChk
import Derived.Test.YtcbcggnpbjcdfaaDoorLeadsI
import Derived.Deep.RegionHeld3
import Derived.Deep.AppendLies
namespace Go.Proofs.YtcbcggnpbjcdfaaDoor
open Go.ChangeShapes Go.WideShapes Go.ChangeAt Go.RowKit

def adL (cs : List Et) (x : Et) : List Et := if cs.length = 40 then [] else if catOk (cs ++ [x]) then cs ++ [x] else []
def adC (cs : List Et) (x : Et) : Int := if cs.length = 40 then 3 else if catOk (cs ++ [x]) then 0 else 4
theorem ad_full {cs : List Et} (x : Et) (h : cs.length = 40) : adL cs x = [] ∧ adC cs x = 3 := by unfold adL adC; rw [if_pos h, if_pos h]; exact ⟨rfl, rfl⟩
theorem ad_no {cs : List Et} {x : Et} (h : ¬ cs.length = 40) (k : catOk (cs ++ [x]) = false) : adL cs x = [] ∧ adC cs x = 4 := by unfold adL adC; rw [if_neg h, if_neg h, k]; exact ⟨rfl, rfl⟩
theorem ad_yes {cs : List Et} {x : Et} (h : ¬ cs.length = 40) (k : catOk (cs ++ [x]) = true) : adL cs x = cs ++ [x] ∧ adC cs x = 0 := by unfold adL adC; rw [if_neg h, if_neg h, k]; exact ⟨rfl, rfl⟩
theorem etAt_left {cs : List Et} {x : Et} {i : Nat} (h : i < cs.length) : etAt (cs ++ [x]) i = etAt cs i := by
  unfold etAt; simp [List.getD, List.getElem?_append_left h]
theorem etAt_last {cs : List Et} {x : Et} : etAt (cs ++ [x]) cs.length = x := by unfold etAt; simp [List.getD]
theorem ents_add {w w' : World} {a b : Option Addr} {cs : List Et} {x : Et} (hf : x.fits) (h : EntsIn w a cs) (hC : CellsE w' b (cs ++ [x])) : EntsIn w' b (cs ++ [x]) := entsIn_of hC fun i hi => by
  rw [List.length_append] at hi
  by_cases e : i < cs.length
  · rw [etAt_left e]; exact (h i e).1
  · have e2 : i = cs.length := by simp at hi; omega
    rw [e2, etAt_last]; exact hf

set_option maxRecDepth 100000 in
set_option maxHeartbeats 1600000 in
theorem addEntry1_ok (ad : Option Addr) (cs : List Et) (c : Nat) (s : ByteArray) (xa xb : Int) (hf : (⟨s, xa, xb⟩ : Et).fits) (hz : catOk cs = true) (g : Nat) (w : World) (hc : EntsIn w ad cs)
    (g0 : w.cell? ⟨g, 0, none⟩ = some (.string s)) (g1 : w.cell? ⟨g, 1, none⟩ = some (.int .i64 xa)) (g2 : w.cell? ⟨g, 2, none⟩ = some (.int .i64 xb)) :
    Calls Tryd.prog 83 #[.slice ad cs.length c, .pointer (some ⟨g, 0, none⟩)] w (EEL (adL cs ⟨s, xa, xb⟩) (adC cs ⟨s, xa, xb⟩) w) := by
  obtain ⟨i0, hi, hz0, hz1, hz2⟩ := info_parts info_entry
  have hn := (cat_parts hz).1
  have gl := cell_lt g0
  have C := Lib.hid hc
  have CL := Lib.hid fun W (h : EntsIn W ad cs) => iClone_any ad cs c W h (by omega)
  have KE := Lib.hid fun W (h : Below w.heap.size w W) => (show W.cell? ⟨g, 0, none⟩ = some (.string s) ∧ W.cell? ⟨g, 1, none⟩ = some (.int .i64 xa) ∧ W.cell? ⟨g, 2, none⟩ = some (.int .i64 xb) from ⟨(h.cell (p := ⟨g, 0, none⟩) gl).trans g0, (h.cell (p := ⟨g, 1, none⟩) gl).trans g1, (h.cell (p := ⟨g, 2, none⟩) gl).trans g2⟩)
  clear hc hz
  by_cases h40 : cs.length = 40
  · have d1 : ((cs.length : Int) == 40) = true := by simp [h40]
    rw [(ad_full _ h40).1, (ad_full _ h40).2]
    clear h40
    go_enter Tryd.func83, Tryd.ntmps83
    go_wp2
    go_ret2
    exact ⟨_, rfl, ownE_nil _ _, Below.refl _ _⟩
  have d1 : ((cs.length : Int) == 40) = false := by simp; omega
  have LEN : (cs ++ [(⟨s, xa, xb⟩ : Et)]).length = cs.length + 1 := by simp
  cases hk : catOk (cs ++ [(⟨s, xa, xb⟩ : Et)])
  · rw [(ad_no h40 hk).1, (ad_no h40 hk).2]
    have CH := fun a c W hE => checked_no a (cs ++ [⟨s, xa, xb⟩]) c W hE hk
    simp only [List.length_append, List.length_cons, List.length_nil, Nat.zero_add] at CH
    have CH := Lib.hid CH
    clear h40 hk
    go_enter Tryd.func83, Tryd.ntmps83
    go_wp2_with fail
    go_region_held3 (fun w' => w'.cell? ⟨g, 0, none⟩ = some (.string s) ∧ w'.cell? ⟨g, 1, none⟩ = some (.int .i64 xa) ∧ w'.cell? ⟨g, 2, none⟩ = some (.int .i64 xb))
      (first | exact KE.out _ b3.out | exact KE.out _ G.out | exact KE.out _ (b1.out.alloc z1 _) | exact KE.out _ b1.out | exact KE.out _ (Below.refl _ _) | exact KE.out _ (bdrew (Below.refl _ _)) | exact KE.out _ (bdrew (below_new (Below.refl _ _) _)) | exact KE.out _ (below_new (Below.refl _ _) _) | go_keep)
      (first
      | (go_at_call 84; refine (CL.out _ (by first | exact C.out | exact entsIn_below C.out (bdrew (Below.refl _ _)) | exact entsIn_below C.out (bdrew (below_new (Below.refl _ _) _)) | exact entsIn_below C.out (below_new (Below.refl _ _) _))).mono ?_; rintro e w1 ⟨v, rfl, hO, hB⟩; have b1 := Lib.hid (show Below w.heap.size w w1 from (by first | exact hB | exact (bdrew (Below.refl w.heap.size w)).trans hB | exact (bdrew (below_new (Below.refl w.heap.size w) (.cells #[.string s, .int .i64 xa, .int .i64 xb] 49))).trans (hB.mono (by simp)))); have O1 := Lib.hid (ownEnts_weaken hO (show w.heap.size ≤ _ from (by simp))); have z1 := b1.out.size; (first | have nb := (hB.block w.heap.size (by simp)).trans (heap_alloc_new w (.cells #[.string s, .int .i64 xa, .int .i64 xb] 49)) | skip); clear hO hB)
      | (refine step_append_lies _ (by rfl) _ _ 57 (by rfl) w.heap.size 49 i0 (.agg #[.string ByteArray.empty, .int .i64 0, .int .i64 0]) 3 32 Tryd.underlying57 hi hz0 hz1 hz2 rfl (by decide) v cs.length (flatE cs) (by rfl) (World.ownsRow.alloc O1.out _) ⟨w1.heap.size, 0, none⟩ 1 1 [.string s, .int .i64 xa, .int .i64 xb] (by rfl) rfl (new3E _ _ _ _ _) (fun x hx => by simp at hx; rcases hx with rfl | rfl | rfl <;> rfl) (by omega) (by unfold maxLen; omega) (by omega) (by simp; omega) _ rfl ?_; intro gg cap w2 hown hgrow hat hlt; have P0 := ownE_push hown; have P := Lib.hid P0; obtain ⟨a2, c2, hv2, hC2⟩ := ownEnts_in P0; rw [LEN] at hv2; cases hv2; have E2 := Lib.hid (ents_add hf C.out hC2); have G := Lib.hid (Below.grown (b1.out.alloc z1 _) hgrow (by simp; omega) (ownE_lt O1.out)); clear hown hgrow hC2 P0 hat hlt)
      | (refine step_append_lies _ (by rfl) _ _ 57 (by rfl) w.heap.size 49 i0 (.agg #[.string ByteArray.empty, .int .i64 0, .int .i64 0]) 3 32 Tryd.underlying57 hi hz0 hz1 hz2 rfl (by decide) v cs.length (flatE cs) (by rfl) O1.out ⟨w.heap.size, 0, none⟩ 1 1 [.string s, .int .i64 xa, .int .i64 xb] (by rfl) rfl (World.news_of_block nb) (fun x hx => by simp at hx; rcases hx with rfl | rfl | rfl <;> rfl) (by omega) (by unfold maxLen; omega) (by omega) z1 _ rfl ?_; intro gg cap w2 hown hgrow hat hlt; have P0 := ownE_push hown; have P := Lib.hid P0; obtain ⟨a2, c2, hv2, hC2⟩ := ownEnts_in P0; rw [LEN] at hv2; cases hv2; have E2 := Lib.hid (ents_add hf C.out hC2); have G := Lib.hid (Below.grown b1.out hgrow z1 (ownE_lt O1.out)); clear hown hgrow hC2 P0 hat hlt)
      | (go_at_call 85; refine (CH.out _ _ _ E2.out).mono ?_; rintro e w3 ⟨rfl, hB⟩; have b3 := Lib.hid (G.out.trans (hB.mono G.out.size)); clear hB))
    all_goals go_wp2
    all_goals go_ret2
    all_goals exact ⟨_, rfl, ownE_nil _ _, b3.out⟩
  · rw [(ad_yes h40 hk).1, (ad_yes h40 hk).2]
    have CH := fun a c W hE => checked_yes a (cs ++ [⟨s, xa, xb⟩]) c W hE hk
    simp only [List.length_append, List.length_cons, List.length_nil, Nat.zero_add] at CH
    have CH := Lib.hid CH
    clear h40 hk
    go_enter Tryd.func83, Tryd.ntmps83
    go_wp2_with fail
    go_region_held3 (fun w' => w'.cell? ⟨g, 0, none⟩ = some (.string s) ∧ w'.cell? ⟨g, 1, none⟩ = some (.int .i64 xa) ∧ w'.cell? ⟨g, 2, none⟩ = some (.int .i64 xb))
      (first | exact KE.out _ b3.out | exact KE.out _ G.out | exact KE.out _ (b1.out.alloc z1 _) | exact KE.out _ b1.out | exact KE.out _ (Below.refl _ _) | exact KE.out _ (bdrew (Below.refl _ _)) | exact KE.out _ (bdrew (below_new (Below.refl _ _) _)) | exact KE.out _ (below_new (Below.refl _ _) _) | go_keep)
      (first
      | (go_at_call 84; refine (CL.out _ (by first | exact C.out | exact entsIn_below C.out (bdrew (Below.refl _ _)) | exact entsIn_below C.out (bdrew (below_new (Below.refl _ _) _)) | exact entsIn_below C.out (below_new (Below.refl _ _) _))).mono ?_; rintro e w1 ⟨v, rfl, hO, hB⟩; have b1 := Lib.hid (show Below w.heap.size w w1 from (by first | exact hB | exact (bdrew (Below.refl w.heap.size w)).trans hB | exact (bdrew (below_new (Below.refl w.heap.size w) (.cells #[.string s, .int .i64 xa, .int .i64 xb] 49))).trans (hB.mono (by simp)))); have O1 := Lib.hid (ownEnts_weaken hO (show w.heap.size ≤ _ from (by simp))); have z1 := b1.out.size; (first | have nb := (hB.block w.heap.size (by simp)).trans (heap_alloc_new w (.cells #[.string s, .int .i64 xa, .int .i64 xb] 49)) | skip); clear hO hB)
      | (refine step_append_lies _ (by rfl) _ _ 57 (by rfl) w.heap.size 49 i0 (.agg #[.string ByteArray.empty, .int .i64 0, .int .i64 0]) 3 32 Tryd.underlying57 hi hz0 hz1 hz2 rfl (by decide) v cs.length (flatE cs) (by rfl) (World.ownsRow.alloc O1.out _) ⟨w1.heap.size, 0, none⟩ 1 1 [.string s, .int .i64 xa, .int .i64 xb] (by rfl) rfl (new3E _ _ _ _ _) (fun x hx => by simp at hx; rcases hx with rfl | rfl | rfl <;> rfl) (by omega) (by unfold maxLen; omega) (by omega) (by simp; omega) _ rfl ?_; intro gg cap w2 hown hgrow hat hlt; have P0 := ownE_push hown; have P := Lib.hid P0; obtain ⟨a2, c2, hv2, hC2⟩ := ownEnts_in P0; rw [LEN] at hv2; cases hv2; have E2 := Lib.hid (ents_add hf C.out hC2); have G := Lib.hid (Below.grown (b1.out.alloc z1 _) hgrow (by simp; omega) (ownE_lt O1.out)); clear hown hgrow hC2 P0 hat hlt)
      | (refine step_append_lies _ (by rfl) _ _ 57 (by rfl) w.heap.size 49 i0 (.agg #[.string ByteArray.empty, .int .i64 0, .int .i64 0]) 3 32 Tryd.underlying57 hi hz0 hz1 hz2 rfl (by decide) v cs.length (flatE cs) (by rfl) O1.out ⟨w.heap.size, 0, none⟩ 1 1 [.string s, .int .i64 xa, .int .i64 xb] (by rfl) rfl (World.news_of_block nb) (fun x hx => by simp at hx; rcases hx with rfl | rfl | rfl <;> rfl) (by omega) (by unfold maxLen; omega) (by omega) z1 _ rfl ?_; intro gg cap w2 hown hgrow hat hlt; have P0 := ownE_push hown; have P := Lib.hid P0; obtain ⟨a2, c2, hv2, hC2⟩ := ownEnts_in P0; rw [LEN] at hv2; cases hv2; have E2 := Lib.hid (ents_add hf C.out hC2); have G := Lib.hid (Below.grown b1.out hgrow z1 (ownE_lt O1.out)); clear hown hgrow hC2 P0 hat hlt)
      | (go_at_call 85; refine (CH.out _ _ _ E2.out).mono ?_; rintro e w3 ⟨rfl, hB⟩; have P3 := Lib.hid (ownEnts_kept P.out hB); have b3 := Lib.hid (G.out.trans (hB.mono G.out.size)); clear hB))
    all_goals go_wp2
    all_goals go_ret2
    all_goals exact ⟨_, rfl, P3.out, b3.out⟩
end Go.Proofs.YtcbcggnpbjcdfaaDoor
