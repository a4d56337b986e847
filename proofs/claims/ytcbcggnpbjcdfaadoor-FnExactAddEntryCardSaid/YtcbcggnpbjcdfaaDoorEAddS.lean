/- Contracts: AddEntry, the model's; the program's, out of its closure's. -/
import Derived.Test.YtcbcggnpbjcdfaaDoorEAdd
namespace Go.Proofs.YtcbcggnpbjcdfaaDoor
open Go.ChangeShapes Go.WideShapes Go.ChangeAt Go.RowKit

def addER (cs : List Et) (x : Et) (w : World) (e : Ending) (w' : World) : Prop := EEL (if catOk cs then adL cs x else []) (if catOk cs then adC cs x else 1) w e w'
theorem addER_bad {cs : List Et} (x : Et) (h : catOk cs = false) : addER cs x = EEL [] 1 := by funext w e w'; unfold addER; rw [h]; rfl
theorem addER_ok {cs : List Et} (x : Et) (h : catOk cs = true) : addER cs x = EEL (adL cs x) (adC cs x) := by funext w e w'; unfold addER; rw [h]; rfl

set_option maxRecDepth 100000 in
set_option maxHeartbeats 1600000 in
theorem iAddEntry_any (ad : Option Addr) (cs : List Et) (c : Nat) (s : ByteArray) (xa xb : Int) (hf : (⟨s, xa, xb⟩ : Et).fits) (w : World) (hc : EntsIn w ad cs) :
    Calls Tryd.prog 44 #[.slice ad cs.length c, .agg #[.string s, .int .i64 xa, .int .i64 xb]] w (addER cs ⟨s, xa, xb⟩ w) := by
  have hmf : ∀ (fn : Fn) (first cap : Array Value) (w : World), (Instr.makeFunc fn first cap).run Tryd.prog w = .ok (.func fn first cap) w := fun _ _ _ _ => rfl
  have b0 := Lib.hid (below_new (Below.refl w.heap.size w) (.cells #[.string s, .int .i64 xa, .int .i64 xb] 49))
  have k0 : (w.alloc (.cells #[.string s, .int .i64 xa, .int .i64 xb] 49)).cell? ⟨w.heap.size, 0, none⟩ = some (.string s) := by simp
  have k1 : (w.alloc (.cells #[.string s, .int .i64 xa, .int .i64 xb] 49)).cell? ⟨w.heap.size, 1, none⟩ = some (.int .i64 xa) := by simp
  have k2 : (w.alloc (.cells #[.string s, .int .i64 xa, .int .i64 xb] 49)).cell? ⟨w.heap.size, 2, none⟩ = some (.int .i64 xb) := by simp
  have H0 := entsIn_below hc b0.out
  clear hc
  cases hz : catOk cs
  · have V := Lib.hid fun fv => search_bad_e ad cs c fv _ H0 hz
    rw [addER_bad _ hz]
    clear hz H0 k0 k1 k2
    go_enter Tryd.func44, Tryd.ntmps44
    go_wp2_with (go_at_call 82; refine (V.out _).mono ?_; rintro e w1 ⟨rfl, hB⟩; have b1 := Lib.hid (b0.out.trans (Below.mono hB b0.out.size)); clear hB)
    go_returns
    exact ⟨_, rfl, ownE_nil _ _, b1.out⟩
  · have V := Lib.hid (search_ok_e ad cs c 83 #[.pointer (some ⟨w.heap.size, 0, none⟩)] _ H0 hz (enters_of Tryd.func83 (by kernel_rfl) rfl) (fun v n W => OwnEnts ((w.alloc (.cells #[.string s, .int .i64 xa, .int .i64 xb] 49)).heap.size + 1) (adL cs ⟨s, xa, xb⟩) v W ∧ n = adC cs ⟨s, xa, xb⟩) (fun v n W u h => ⟨ownsRow_setCell_below h.1 (by simp) u, h.2⟩)
      (fun W hB hl hE => (addEntry1_ok ad cs c s xa xb hf hz w.heap.size W hE ((hB.cell (p := ⟨w.heap.size, 0, none⟩) (by simp)).trans k0) ((hB.cell (p := ⟨w.heap.size, 1, none⟩) (by simp)).trans k1) ((hB.cell (p := ⟨w.heap.size, 2, none⟩) (by simp)).trans k2)).mono fun e w' ⟨v, he, ho, hb⟩ => ⟨v, _, he, ⟨ownEnts_weaken ho (by omega), rfl⟩, hb⟩))
    rw [addER_ok _ hz]
    clear hz H0 k0 k1 k2
    generalize adL cs ⟨s, xa, xb⟩ = zs at *
    generalize adC cs ⟨s, xa, xb⟩ = cd at *
    go_enter Tryd.func44, Tryd.ntmps44
    go_wp2_with (go_at_call 82; refine V.out.mono ?_; rintro e w1 ⟨v, _, rfl, ⟨ho, rfl⟩, hB⟩; have b1 := Lib.hid (b0.out.trans (Below.mono hB b0.out.size)); have O1 := Lib.hid (ownEnts_weaken ho (show w.heap.size ≤ _ by simp <;> omega)); clear hB ho)
    go_returns
    exact ⟨_, rfl, O1.out, b1.out⟩

set_option maxRecDepth 100000 in
set_option maxHeartbeats 1600000 in
theorem sAddEntry_any (ad : Option Addr) (cs : List Et) (c : Nat) (s : ByteArray) (xa xb : Int) (hf : (⟨s, xa, xb⟩ : Et).fits) (w : World) (hc : EntsIn w ad cs) :
    Calls Tryd.prog 42 #[.slice ad cs.length c, .agg #[.string s, .int .i64 xa, .int .i64 xb]] w (addER cs ⟨s, xa, xb⟩ w) := by
  obtain ⟨i0, hi, hz0, hz1, hz2⟩ := info_parts info_entry
  have b0 := Lib.hid (below_new (Below.refl w.heap.size w) (.cells #[.string s, .int .i64 xa, .int .i64 xb] 49))
  have C := Lib.hid hc
  have V := sCat_any ad cs c _ (entsIn_below hc b0.out)
  clear hc
  cases hz : catOk cs
  · rw [hz] at V
    rw [addER_bad _ hz]
    have V := Lib.hid V
    clear hz
    go_enter Tryd.func42, Tryd.ntmps42
    go_wp2_with (go_at_call 49; refine V.out.mono ?_; rintro e w1 ⟨rfl, hB⟩; have b1 := Lib.hid (b0.out.trans (hB.mono b0.out.size)); clear hB)
    go_ret2
    exact ⟨_, rfl, ownE_made rfl b1.out.size, below_new b1.out _⟩
  rw [hz] at V
  rw [addER_ok _ hz]
  have V := Lib.hid V
  have hn := (cat_parts hz).1
  have CL := Lib.hid fun W (h : EntsIn W ad cs) => sCopy_any ad cs c W h (by omega)
  clear hz
  by_cases h40 : cs.length = 40
  · have d1 : ((cs.length : Int) == 40) = true := by simp [h40]
    rw [(ad_full _ h40).1, (ad_full _ h40).2]
    clear h40
    go_enter Tryd.func42, Tryd.ntmps42
    go_wp2_with (go_at_call 49; refine V.out.mono ?_; rintro e w1 ⟨rfl, hB⟩; have b1 := Lib.hid (b0.out.trans (hB.mono b0.out.size)); clear hB)
    go_ret2
    exact ⟨_, rfl, ownE_made rfl b1.out.size, below_new b1.out _⟩
  have d1 : ((cs.length : Int) == 40) = false := by simp; omega
  have LEN : (cs ++ [(⟨s, xa, xb⟩ : Et)]).length = cs.length + 1 := by simp
  cases hk : catOk (cs ++ [(⟨s, xa, xb⟩ : Et)])
  · rw [(ad_no h40 hk).1, (ad_no h40 hk).2]
    have CH := fun a c W hE => made_no a (cs ++ [⟨s, xa, xb⟩]) c W hE hk
    simp only [List.length_append, List.length_cons, List.length_nil, Nat.zero_add] at CH
    have CH := Lib.hid CH
    clear h40 hk
    go_enter Tryd.func42, Tryd.ntmps42
    go_wp2_with (go_at_call 49; refine V.out.mono ?_; rintro e w1 ⟨rfl, hB⟩; have b1 := Lib.hid (b0.out.trans (hB.mono b0.out.size)); have E1 := Lib.hid (entsIn_below C.out b1.out); have g0 : w1.cell? ⟨w.heap.size, 0, none⟩ = some (.string s) := (hB.cell (p := ⟨w.heap.size, 0, none⟩) (by simp)).trans (by simp); have g1 : w1.cell? ⟨w.heap.size, 1, none⟩ = some (.int .i64 xa) := (hB.cell (p := ⟨w.heap.size, 1, none⟩) (by simp)).trans (by simp); have g2 : w1.cell? ⟨w.heap.size, 2, none⟩ = some (.int .i64 xb) := (hB.cell (p := ⟨w.heap.size, 2, none⟩) (by simp)).trans (by simp); have gl : w.heap.size < w1.heap.size := cell_lt g0; clear hB)
    have KE := Lib.hid fun w' (h : Below w1.heap.size w1 w') => (show w'.cell? ⟨w.heap.size, 0, none⟩ = some (.string s) ∧ w'.cell? ⟨w.heap.size, 1, none⟩ = some (.int .i64 xa) ∧ w'.cell? ⟨w.heap.size, 2, none⟩ = some (.int .i64 xb) from ⟨(h.cell (p := ⟨w.heap.size, 0, none⟩) gl).trans g0, (h.cell (p := ⟨w.heap.size, 1, none⟩) gl).trans g1, (h.cell (p := ⟨w.heap.size, 2, none⟩) gl).trans g2⟩)
    go_region_held3 (fun w' => w'.cell? ⟨w.heap.size, 0, none⟩ = some (.string s) ∧ w'.cell? ⟨w.heap.size, 1, none⟩ = some (.int .i64 xa) ∧ w'.cell? ⟨w.heap.size, 2, none⟩ = some (.int .i64 xb))
      (first | exact KE.out _ (G.out.trans (b4.mono G.out.size)) | exact KE.out _ G.out | exact KE.out _ (b2.out.alloc z2 _) | exact KE.out _ b2.out | exact KE.out _ (Below.refl _ _) | exact KE.out _ (bdrew (Below.refl _ _)) | exact KE.out _ (bdrew (below_new (Below.refl _ _) _)) | exact KE.out _ (below_new (Below.refl _ _) _) | go_keep)
      (first
      | (go_at_call 81; refine (CL.out _ (by first | exact E1.out | exact entsIn_below E1.out (bdrew (Below.refl _ _)) | exact entsIn_below E1.out (bdrew (below_new (Below.refl _ _) _)) | exact entsIn_below E1.out (below_new (Below.refl _ _) _))).mono ?_; rintro e w2 ⟨v, rfl, hO, hB⟩; have b2 := Lib.hid (show Below w1.heap.size w1 w2 from (by first | exact hB | exact (bdrew (Below.refl w1.heap.size w1)).trans hB | exact (bdrew (below_new (Below.refl w1.heap.size w1) (.cells #[.string s, .int .i64 xa, .int .i64 xb] 49))).trans (hB.mono (by simp)))); have O1 := Lib.hid (ownEnts_weaken hO (show w1.heap.size ≤ _ from (by simp))); have z2 := b2.out.size; (first | have nb := (hB.block w1.heap.size (by simp)).trans (heap_alloc_new w1 (.cells #[.string s, .int .i64 xa, .int .i64 xb] 49)) | skip); clear hO hB)
      | (refine step_append_lies _ (by rfl) _ _ 26 (by rfl) w1.heap.size 49 i0 (.agg #[.string ByteArray.empty, .int .i64 0, .int .i64 0]) 3 32 Tryd.underlying26 hi hz0 hz1 hz2 rfl (by decide) v cs.length (flatE cs) (by rfl) (World.ownsRow.alloc O1.out _) ⟨w2.heap.size, 0, none⟩ 1 1 [.string s, .int .i64 xa, .int .i64 xb] (by rfl) rfl (new3E _ _ _ _ _) (fun x hx => by simp at hx; rcases hx with rfl | rfl | rfl <;> rfl) (by omega) (by unfold maxLen; omega) (by omega) (by simp; omega) _ rfl ?_; intro gg cap w3 hown hgrow hat hlt; have P0 := ownE_push hown; have P := Lib.hid P0; obtain ⟨a2, c2, hv2, hC2⟩ := ownEnts_in P0; rw [LEN] at hv2; cases hv2; have E2 := Lib.hid (ents_add hf E1.out hC2); have G := Lib.hid (Below.grown (b2.out.alloc z2 _) hgrow (by simp; omega) (ownE_lt O1.out)); clear hown hgrow hC2 P0 hat hlt)
      | (refine step_append_lies _ (by rfl) _ _ 26 (by rfl) w1.heap.size 49 i0 (.agg #[.string ByteArray.empty, .int .i64 0, .int .i64 0]) 3 32 Tryd.underlying26 hi hz0 hz1 hz2 rfl (by decide) v cs.length (flatE cs) (by rfl) O1.out ⟨w1.heap.size, 0, none⟩ 1 1 [.string s, .int .i64 xa, .int .i64 xb] (by rfl) rfl (World.news_of_block nb) (fun x hx => by simp at hx; rcases hx with rfl | rfl | rfl <;> rfl) (by omega) (by unfold maxLen; omega) (by omega) z2 _ rfl ?_; intro gg cap w3 hown hgrow hat hlt; have P0 := ownE_push hown; have P := Lib.hid P0; obtain ⟨a2, c2, hv2, hC2⟩ := ownEnts_in P0; rw [LEN] at hv2; cases hv2; have E2 := Lib.hid (ents_add hf E1.out hC2); have G := Lib.hid (Below.grown b2.out hgrow z2 (ownE_lt O1.out)); clear hown hgrow hC2 P0 hat hlt)
      | (go_at_call 80; refine (CH.out _ _ _ E2.out).mono ?_; rintro e w4 ⟨v4, rfl, hO4, hB⟩; have P3 := Lib.hid (ownEnts_weaken hO4 (Nat.le_trans b1.out.size G.out.size)); have b4 := hB; have b3 := Lib.hid (b1.out.trans ((G.out.trans (hB.mono G.out.size)).mono b1.out.size)); clear hO4))
    all_goals go_wp2
    all_goals go_ret2
    all_goals exact ⟨_, rfl, P3.out, b3.out⟩
  · rw [(ad_yes h40 hk).1, (ad_yes h40 hk).2]
    have CH := fun a c W hE => made_yes a (cs ++ [⟨s, xa, xb⟩]) c W hE hk
    simp only [List.length_append, List.length_cons, List.length_nil, Nat.zero_add] at CH
    have CH := Lib.hid CH
    clear h40 hk
    go_enter Tryd.func42, Tryd.ntmps42
    go_wp2_with (go_at_call 49; refine V.out.mono ?_; rintro e w1 ⟨rfl, hB⟩; have b1 := Lib.hid (b0.out.trans (hB.mono b0.out.size)); have E1 := Lib.hid (entsIn_below C.out b1.out); have g0 : w1.cell? ⟨w.heap.size, 0, none⟩ = some (.string s) := (hB.cell (p := ⟨w.heap.size, 0, none⟩) (by simp)).trans (by simp); have g1 : w1.cell? ⟨w.heap.size, 1, none⟩ = some (.int .i64 xa) := (hB.cell (p := ⟨w.heap.size, 1, none⟩) (by simp)).trans (by simp); have g2 : w1.cell? ⟨w.heap.size, 2, none⟩ = some (.int .i64 xb) := (hB.cell (p := ⟨w.heap.size, 2, none⟩) (by simp)).trans (by simp); have gl : w.heap.size < w1.heap.size := cell_lt g0; clear hB)
    have KE := Lib.hid fun w' (h : Below w1.heap.size w1 w') => (show w'.cell? ⟨w.heap.size, 0, none⟩ = some (.string s) ∧ w'.cell? ⟨w.heap.size, 1, none⟩ = some (.int .i64 xa) ∧ w'.cell? ⟨w.heap.size, 2, none⟩ = some (.int .i64 xb) from ⟨(h.cell (p := ⟨w.heap.size, 0, none⟩) gl).trans g0, (h.cell (p := ⟨w.heap.size, 1, none⟩) gl).trans g1, (h.cell (p := ⟨w.heap.size, 2, none⟩) gl).trans g2⟩)
    go_region_held3 (fun w' => w'.cell? ⟨w.heap.size, 0, none⟩ = some (.string s) ∧ w'.cell? ⟨w.heap.size, 1, none⟩ = some (.int .i64 xa) ∧ w'.cell? ⟨w.heap.size, 2, none⟩ = some (.int .i64 xb))
      (first | exact KE.out _ (G.out.trans (b4.mono G.out.size)) | exact KE.out _ G.out | exact KE.out _ (b2.out.alloc z2 _) | exact KE.out _ b2.out | exact KE.out _ (Below.refl _ _) | exact KE.out _ (bdrew (Below.refl _ _)) | exact KE.out _ (bdrew (below_new (Below.refl _ _) _)) | exact KE.out _ (below_new (Below.refl _ _) _) | go_keep)
      (first
      | (go_at_call 81; refine (CL.out _ (by first | exact E1.out | exact entsIn_below E1.out (bdrew (Below.refl _ _)) | exact entsIn_below E1.out (bdrew (below_new (Below.refl _ _) _)) | exact entsIn_below E1.out (below_new (Below.refl _ _) _))).mono ?_; rintro e w2 ⟨v, rfl, hO, hB⟩; have b2 := Lib.hid (show Below w1.heap.size w1 w2 from (by first | exact hB | exact (bdrew (Below.refl w1.heap.size w1)).trans hB | exact (bdrew (below_new (Below.refl w1.heap.size w1) (.cells #[.string s, .int .i64 xa, .int .i64 xb] 49))).trans (hB.mono (by simp)))); have O1 := Lib.hid (ownEnts_weaken hO (show w1.heap.size ≤ _ from (by simp))); have z2 := b2.out.size; (first | have nb := (hB.block w1.heap.size (by simp)).trans (heap_alloc_new w1 (.cells #[.string s, .int .i64 xa, .int .i64 xb] 49)) | skip); clear hO hB)
      | (refine step_append_lies _ (by rfl) _ _ 26 (by rfl) w1.heap.size 49 i0 (.agg #[.string ByteArray.empty, .int .i64 0, .int .i64 0]) 3 32 Tryd.underlying26 hi hz0 hz1 hz2 rfl (by decide) v cs.length (flatE cs) (by rfl) (World.ownsRow.alloc O1.out _) ⟨w2.heap.size, 0, none⟩ 1 1 [.string s, .int .i64 xa, .int .i64 xb] (by rfl) rfl (new3E _ _ _ _ _) (fun x hx => by simp at hx; rcases hx with rfl | rfl | rfl <;> rfl) (by omega) (by unfold maxLen; omega) (by omega) (by simp; omega) _ rfl ?_; intro gg cap w3 hown hgrow hat hlt; have P0 := ownE_push hown; have P := Lib.hid P0; obtain ⟨a2, c2, hv2, hC2⟩ := ownEnts_in P0; rw [LEN] at hv2; cases hv2; have E2 := Lib.hid (ents_add hf E1.out hC2); have G := Lib.hid (Below.grown (b2.out.alloc z2 _) hgrow (by simp; omega) (ownE_lt O1.out)); clear hown hgrow hC2 P0 hat hlt)
      | (refine step_append_lies _ (by rfl) _ _ 26 (by rfl) w1.heap.size 49 i0 (.agg #[.string ByteArray.empty, .int .i64 0, .int .i64 0]) 3 32 Tryd.underlying26 hi hz0 hz1 hz2 rfl (by decide) v cs.length (flatE cs) (by rfl) O1.out ⟨w1.heap.size, 0, none⟩ 1 1 [.string s, .int .i64 xa, .int .i64 xb] (by rfl) rfl (World.news_of_block nb) (fun x hx => by simp at hx; rcases hx with rfl | rfl | rfl <;> rfl) (by omega) (by unfold maxLen; omega) (by omega) z2 _ rfl ?_; intro gg cap w3 hown hgrow hat hlt; have P0 := ownE_push hown; have P := Lib.hid P0; obtain ⟨a2, c2, hv2, hC2⟩ := ownEnts_in P0; rw [LEN] at hv2; cases hv2; have E2 := Lib.hid (ents_add hf E1.out hC2); have G := Lib.hid (Below.grown b2.out hgrow z2 (ownE_lt O1.out)); clear hown hgrow hC2 P0 hat hlt)
      | (go_at_call 80; refine (CH.out _ _ _ E2.out).mono ?_; rintro e w4 ⟨rfl, hB⟩; have P3 := Lib.hid (ownEnts_weaken (ownEnts_kept P.out hB) b1.out.size); have b4 := hB; have b3 := Lib.hid (b1.out.trans ((G.out.trans (hB.mono G.out.size)).mono b1.out.size)); clear hB))
    all_goals go_wp2
    all_goals go_ret2
    all_goals exact ⟨_, rfl, P3.out, b3.out⟩
end Go.Proofs.YtcbcggnpbjcdfaaDoor
