/- Contracts: the masks that drop for words (DroppedOf), the program's. -/
import Derived.Test.YtoippchkhknhpaaDrg
import Derived.Test.YtoippchkhknhpaaArM
import Derived.Test.YtoippchkhknhpaaMayW
import Derived.Shelf.Abstract
namespace Go.Proofs.Ytoippchkhknhpaa
open Go.ChangeShapes Go.WideShapes Go.ChangeAt Go.RowKit
attribute [local go_sem] Oper.semAt_some

theorem own_row {B : Nat} {zs : List Int} {v : Value} {w : World} (h : OwnInts B zs v w) : w.ownsRow B 2 1 v zs.length (zs.map (Value.int .i64)) := h
/-- What the words' holes are. -/
def dofL (t z : Int) (F : Int → Nat) (ms : List (Int × Int)) (zs : List ByteArray) : List Int := idx (dropsAt (A0 t z F zs zs.length : Int) (A1 t z F zs zs.length : Int) ms) ms.length
theorem ask_masks {ms : List (Int × Int)} {zs : List ByteArray} {m : Nat} (h : askC true ms zs m = 0) : masksOk ms = true ∧ ms.length ≤ 60 ∧ wordsOk zs m = true := by
  cases h1 : masksOk ms
  · rw [ask_2 zs m h1] at h; exact absurd h (by decide)
  · by_cases h2 : 60 < ms.length
    · rw [ask_3 zs m h1 h2] at h; exact absurd h (by decide)
    · rw [ask_4 zs m h1 (by omega)] at h
      cases h3 : wordsOk zs m
      · rw [wordsC_no h3] at h; exact absurd h (by decide)
      · exact ⟨rfl, by omega, rfl⟩

set_option maxRecDepth 100000 in
set_option maxHeartbeats 2000000 in
theorem iDofNo (t z p : Int) (ht : I16 t) (hz : I16 z) (am : Option Addr) (ms : List (Int × Int)) (cm : Nat) (ad : Option Addr) (zs : List ByteArray) (cap : Nat) (w : World) (hm : MasksIn w am ms) (h : StrsIn w ad zs) (hf : Fit zs) (lm : ms.length ≤ 9223372036854775807) (hl : zs.length ≤ 9223372036854775807) (hc : askC (mixOk t z p) ms zs 12 ≠ 0) :
    Calls Try.prog 38 #[.agg #[.int .i16 t, .int .i16 z, .int .i16 p], .slice am ms.length cm, .slice ad zs.length cap] w (MwR (askC (mixOk t z p) ms zs 12) [] w) := by
  have V := Lib.hid fun W => iValidMix_any t z p ht hz W
  have B0 := Lib.hid (below_new (Below.refl w.heap.size w) (.cells #[.int .i16 t, .int .i16 z, .int .i16 p] 30))
  have K := Lib.hid fun W hb => iAreMasks_any am ms cm W (masksIn_below hm hb) lm
  have S := Lib.hid fun W hb => iAreWords_any ad zs cap 12 W (strsIn_below h hb) hf hl
  clear h hf ht hz hm
  cases hv : mixOk t z p
  · rw [hv] at V
    rw [ask_1]
    clear hv hc
    go_enter Try.func38, Try.ntmps38
    go_wp2_with (first | (go_at_call 72; refine (V.out _).mono ?_; rintro e w1 ⟨rfl, hB⟩; have b1 := Lib.hid (B0.out.trans (Below.mono hB B0.out.size)); clear hB))
    go_ret2
    exact ⟨_, rfl, u_nil _ _, b1.out⟩
  · rw [hv] at V hc
    clear hv
    cases h1 : masksOk ms
    · rw [h1] at K
      rw [ask_2 zs 12 h1]
      clear h1 hc
      go_enter Try.func38, Try.ntmps38
      go_wp2_with (first | (go_at_call 72; refine (V.out _).mono ?_; rintro e w1 ⟨rfl, hB⟩; have b1 := Lib.hid (B0.out.trans (Below.mono hB B0.out.size)); clear hB) | (go_at_call 85; refine (K.out _ b1.out).mono ?_; rintro e w2 ⟨rfl, hB⟩; have b2 := Lib.hid (b1.out.trans (Below.mono hB b1.out.size)); clear hB))
      go_ret2
      exact ⟨_, rfl, u_nil _ _, b2.out⟩
    · rw [h1] at K
      by_cases h2 : 60 < ms.length
      · have d2 : decide ((60 : Int) < (ms.length : Int)) = true := by simp; omega
        rw [ask_3 zs 12 h1 h2]
        clear h1 h2 hc
        go_enter Try.func38, Try.ntmps38
        go_wp2_with (first | (go_at_call 72; refine (V.out _).mono ?_; rintro e w1 ⟨rfl, hB⟩; have b1 := Lib.hid (B0.out.trans (Below.mono hB B0.out.size)); clear hB) | (go_at_call 85; refine (K.out _ b1.out).mono ?_; rintro e w2 ⟨rfl, hB⟩; have b2 := Lib.hid (b1.out.trans (Below.mono hB b1.out.size)); clear hB))
        go_ret2
        exact ⟨_, rfl, u_nil _ _, b2.out⟩
      · have d2 : decide ((60 : Int) < (ms.length : Int)) = false := by simp; omega
        rw [ask_4 zs 12 h1 (by omega)] at hc ⊢
        cases h3 : wordsOk zs 12
        · rw [h3] at S
          rw [wordsC_no h3]
          clear h1 h2 hc h3
          go_enter Try.func38, Try.ntmps38
          go_wp2_with (first | (go_at_call 72; refine (V.out _).mono ?_; rintro e w1 ⟨rfl, hB⟩; have b1 := Lib.hid (B0.out.trans (Below.mono hB B0.out.size)); clear hB) | (go_at_call 85; refine (K.out _ b1.out).mono ?_; rintro e w2 ⟨rfl, hB⟩; have b2 := Lib.hid (b1.out.trans (Below.mono hB b1.out.size)); clear hB) | (go_at_call 78; refine (S.out _ b2.out).mono ?_; rintro e w3 ⟨rfl, rfl⟩))
          go_ret2
          exact ⟨_, rfl, u_nil _ _, b2.out⟩
        · exact absurd (wordsC_yes h3) hc

set_option maxRecDepth 100000 in
set_option maxHeartbeats 4000000 in
theorem iDofYes (t z p : Int) (ht : I16 t) (hz : I16 z) (F : Int → Nat) (hF : StopF t z p F) (am : Option Addr) (ms : List (Int × Int)) (cm : Nat) (ad : Option Addr) (zs : List ByteArray) (cap : Nat) (w : World) (hm : MasksIn w am ms) (h : StrsIn w ad zs) (hf : Fit zs) (hl : zs.length ≤ 9223372036854775807) (hmix : mixOk t z p = true) (hc : askC true ms zs 12 = 0) :
    Calls Try.prog 38 #[.agg #[.int .i16 t, .int .i16 z, .int .i16 p], .slice am ms.length cm, .slice ad zs.length cap] w (MwR 0 (dofL t z F ms zs) w) := by
  obtain ⟨m1, m2, m3⟩ := ask_masks hc
  obtain ⟨i0, hi, hz0, hz1, hz2⟩ := info_parts info_i64
  obtain ⟨t0, z0, tz, p1, p8, pz⟩ := mix_inv hmix
  have V := fun W => iValidMix_any t z p ht hz W
  rw [hmix] at V
  have V := Lib.hid V
  have M0 := Lib.hid (block_alloc w (.cells #[.int .i16 t, .int .i16 z, .int .i16 p] 30))
  have B0 := Lib.hid (below_new (Below.refl w.heap.size w) (.cells #[.int .i16 t, .int .i16 z, .int .i16 p] 30))
  have K := fun W hb => iAreMasks_any am ms cm W (masksIn_below hm hb) (by omega)
  have S := fun W hb => iAreWords_any ad zs cap 12 W (strsIn_below h hb) hf hl
  rw [m1] at K
  rw [m3] at S
  have K := Lib.hid K
  have S := Lib.hid S
  have HM := Lib.hid hm
  have A := Lib.hid fun W (hb : Below w.heap.size w W) => iAll_any t z p F hF t0 z0 tz p1 p8 ad zs cap W (strsIn_below h hb) hf hl
  have d2 : decide ((60 : Int) < (ms.length : Int)) = false := by simp; omega
  unfold dofL
  generalize (A0 t z F zs zs.length : Int) = X at *
  generalize (A1 t z F zs zs.length : Int) = Y at *
  have DR := Lib.hid fun W => dropping_any am ms.length cm X Y W
  have DB := Lib.hid fun bm bh W h1 h2 h3 h4 h5 h6 => dropping_by bm bh am ms cm X Y (by omega) W h1 h2 h3 h4 h5 h6
  clear hm h hf ht hz hF hmix hc m1 m3
  refine (callsIn_wide (n := 0)).1 (callsIn_of_wp_marks Try.func38 rfl trivial ?_ rfl)
  simp only [Try.ntmps38, List.size_toArray, List.length_cons, List.length_nil, Nat.reduceAdd, Nat.reduceSub, Array.replicate_succ, Array.replicate_zero, List.push_toArray, List.append_toArray, List.nil_append, List.cons_append]
  refine wpIn_wide.2 ?_
  go_wp2_with (first
    | (go_at_call 72; refine (V.out _).mono ?_; rintro e w1 ⟨rfl, hB⟩; have b1 := Lib.hid (B0.out.trans (Below.mono hB B0.out.size)); have a1 := Lib.hid (Ab.block hB M0.out); clear hB)
    | (go_at_call 85; refine (K.out _ b1.out).mono ?_; rintro e w2 ⟨rfl, hB⟩; have b2 := Lib.hid (b1.out.trans (Below.mono hB b1.out.size)); have a2 := Lib.hid (Ab.block hB a1.out); have g0 := cell_of_block a2.out 0; have g1 := cell_of_block a2.out 1; have g2 := cell_of_block a2.out 2; have s2 := lt_of_block a2.out; clear hB)
    | (go_at_call 78; refine (S.out _ b2.out).mono ?_; rintro e w3 ⟨rfl, rfl⟩)
    | (go_at_call 87; refine (A.out _ (b2.out.alloc b2.out.size _)).mono ?_; rintro e w4 ⟨rfl, hB⟩; have B4 := Lib.hid hB; clear hB)
    | (go_at_call 86; refine (DR.out _).mono ?_; rintro e w5 ⟨rfl, p1, p2, hz, hB⟩; have P1 := Lib.hid p1; have P2 := Lib.hid p2; have B5 := Lib.hid hB; have hz5 := Nat.le_of_eq hz.symm; clear p1 p2 hB hz))
  have hz4 : w2.heap.size < w4.heap.size := by have := B4.out.size; simp at this; omega
  have k4 := (B4.out.cell (p := ⟨w2.heap.size, 0, none⟩) (by simp)).trans (show (w2.alloc (.cells #[.slice none 0 0] 39)).cell? ⟨w2.heap.size, 0, none⟩ = some (.slice none 0 0) by simp)
  have f4 := (B4.out.frozen (p := ⟨w2.heap.size, 0, none⟩) (by simp)).trans (show (w2.alloc (.cells #[.slice none 0 0] 39)).frozen? ⟨w2.heap.size, 0, none⟩ = false by simp)
  have c1 := (B5.out.cell (p := ⟨w2.heap.size, 0, none⟩) (by exact hz4)).trans k4
  have f1 := (B5.out.frozen (p := ⟨w2.heap.size, 0, none⟩) (by exact hz4)).trans f4
  have lw : w.heap.size ≤ w2.heap.size := b2.out.size
  have BW := Lib.hid (b2.out.trans (Below.mono ((ab_new w2 _).trans (Below.mono (B4.out.trans (Below.mono B5.out B4.out.size)) (by simp))) lw))
  have hq := DB.out _ _ w5 (by omega) (by omega) P1.out P2.out.1 P2.out.2 (masksIn_below HM.out BW.out)
  clear P1 P2 B4 B5 DR DB V K S A k4 f4 g0 g1 g2 s2 a1 a2 M0 b1
  refine wp_rangeO rfl (enters_of Try.func117 (by kernel_rfl) rfl) hq (fun _ => rfl) KpD.trans
    (fun A B hAB => ⟨hAB.size, hAB.block _ (by omega), hAB.block _ (by omega), fun b o _ hb => hAB.block b hb⟩) (fun A B hAB k _ hk2 => hAB.block k hk2)
    (fun pre W => (∃ v, W.cell? ⟨w2.heap.size, 0, none⟩ = some v ∧ OwnInts (w5.heap.size + 2) pre v W) ∧ W.frozen? ⟨w2.heap.size, 0, none⟩ = false ∧ w5.heap.size ≤ W.heap.size ∧ Below w.heap.size w W)
    (fun _ _ _ => False)
    ?i1 (fun _ _ _ _ h => h.elim) ?i3 ?i4 (fun _ _ _ _ _ _ _ _ _ h => h.elim) (fun _ _ _ => trivial) ⟨⟨_, c1, u_nil _ _⟩, f1, Nat.le_refl _, BW.out⟩
    (fun q => { tmps := #[.agg #[.int .i16 t, .int .i16 z, .int .i16 p], .slice am ms.length cm, .slice ad zs.length cap, .pointer (some ⟨w.heap.size, 0, none⟩), undef, undef, .slice none 0 0, .int .i64 0, .pointer (some ⟨w2.heap.size, 0, none⟩), .int .i64 q, .agg #[.int .i16 t, .int .i16 z, .int .i16 p], .bool true, .bool false, .bool false, .slice am ms.length cm, .bool true, .bool false, .bool false, .slice am ms.length cm, .int .i64 ms.length, .bool false, .bool false, .slice ad zs.length cap, .bool true, .bool false, .bool false, .slice am ms.length cm, .agg #[.int .i16 t, .int .i16 z, .int .i16 p], .slice ad zs.length cap, .agg #[.int .u64 X, .int .u64 Y], .func (.func 117) #[] #[.pointer (some ⟨w4.heap.size, 0, none⟩), .pointer (some ⟨w4.heap.size + 1, 0, none⟩)], .int .i64 q, undef, undef, undef, undef, undef], defers := [] }) ?assign ?body ?done (fun _ _ _ _ h => h.elim)
  case i1 =>
    rintro pre A B ⟨⟨v, h2, hO⟩, h4, h7, h8⟩ hs
    exact ⟨⟨v, (hs.cell (p := ⟨w2.heap.size, 0, none⟩) (by simp; omega)).trans h2, ownInts_kept hO hs⟩, (hs.frozen (p := ⟨w2.heap.size, 0, none⟩) (by simp; omega)).trans h4, Nat.le_trans h7 hs.size, h8.trans (hs.mono (by omega))⟩
  case i3 =>
    rintro pre A o hA ⟨⟨v, h2, hO⟩, h4, h7, h8⟩
    have hs := below_new (Below.refl A.heap.size A) o
    exact ⟨⟨v, (hs.cell (p := ⟨w2.heap.size, 0, none⟩) (by simp; omega)).trans h2, World.ownsRow.alloc hO _⟩, (hs.frozen (p := ⟨w2.heap.size, 0, none⟩) (by simp; omega)).trans h4, Nat.le_trans h7 hs.size, h8.trans (hs.mono (by omega))⟩
  case i4 =>
    rintro pre A k o o' hk hl ho ⟨⟨v, h2, hO⟩, h4, h7, h8⟩
    have hs : Below w5.heap.size A (A.putObj k o') := below_put hk
    exact ⟨⟨v, (hs.cell (p := ⟨w2.heap.size, 0, none⟩) (by simp; omega)).trans h2, ownsRow_putObj hO o' hl ho⟩, (hs.frozen (p := ⟨w2.heap.size, 0, none⟩) (by simp; omega)).trans h4, by simpa using h7, h8.trans (hs.mono (by omega))⟩
  case assign =>
    intro l x W K hK
    gi_wp2
    first | exact hK | (go_simp; exact hK) | (simp; exact hK)
  case body =>
    rintro l pre x W ⟨⟨v, h2, hO⟩, h4, h7, h8⟩ ⟨k, hk, _, hp, rfl⟩ hlt
    have hpl := idx_len (dropsAt X Y ms) k
    rw [← hp] at hpl
    have R := Lib.hid (own_row hO)
    have BW := Lib.hid h8
    have lt := u_lt hO
    clear hq hp hO h8
    gi_wp2_with (gi_at_builtin; go_loud (refine wpListIn_append_own _ rfl _ _ 39 rfl (w5.heap.size + 2) 2 i0 (.int .i64 0) 1 8 Try.underlying39 hi hz0 hz1 hz2 rfl (by decide) _ _ _ rfl (World.ownsRow.alloc R.out _) ⟨W.heap.size, 0, none⟩ 1 1 [.int .i64 (k : Int)] rfl rfl (u_one_new _ _ _) (fun x hx => by simp at hx; subst hx; rfl) (by unfold maxLen; omega) (by omega) (by simp; omega) ?_; intro v' w6 hown hgrow _; have P0 := u_push hown; obtain ⟨av, cv, rfl, _⟩ := ownInts_in P0; rw [show (pre ++ [(k : Int)]).length = pre.length + 1 from by simp] at P0; have P := Lib.hid P0; clear P0; have G := Lib.hid (Below.grown ((Below.refl (w5.heap.size + 2) W).alloc (by omega) (.cells #[.int .i64 (k : Int)] 2)) hgrow (by simp; omega) lt); have k5 := (G.out.cell (p := ⟨w2.heap.size, 0, none⟩) (by simp; omega)).trans h2; have z5 := G.out.frozen (p := ⟨w2.heap.size, 0, none⟩) (by simp; omega); rw [h4] at z5; clear hown hgrow))
    have bk : ∀ j, j < w5.heap.size + 2 → j ≠ w2.heap.size → (w6.setCell ⟨w2.heap.size, 0, none⟩ (.slice av (pre.length + 1) cv)).heap[j]? = W.heap[j]? := fun j hj hne => (Below.heap_setCell _ _ _ _ (by simp; omega)).trans (G.out.block j hj)
    have gs := G.out.size
    refine ⟨⟨bk _ (by omega) (by omega), bk _ (by omega) (by omega)⟩, ⟨by simp [World.setCell]; omega, bk _ (by omega) (by omega), bk _ (by omega) (by omega), fun b o e hb => ?_⟩, ⟨_, World.cell?_setCell_same' _ _ _ (by rw [k5]; rfl), ownsRow_setCell_below P.out (by simp; omega) _⟩, by rw [World.frozen?_setCell]; exact z5, by simp [World.setCell]; omega, (BW.out.trans (G.out.mono (by omega))).setCell (p := ⟨w2.heap.size, 0, none⟩) (by simp; omega) _⟩
    have hne : b ≠ w2.heap.size := by
      obtain ⟨b', o', e', hlt', _⟩ := HM.out k hk
      rw [e] at e'
      cases e'
      omega
    exact bk b (by omega) hne
  case done =>
    rintro xs W rfl ⟨⟨v, h2, hO⟩, h4, h7, h8⟩ hK
    have OO := Lib.hid hO
    clear hO
    go_wp2
    refine ⟨by simp, .inl ⟨_, _, rfl, run_takeDeferred hK, ?_⟩⟩
    refine ⟨.tuple #[v, .int .i64 0], ?_, v, rfl, u_weaken (ownsRow_putObj OO.out _ hK rfl) (by omega), h8.trans (below_put (by omega))⟩
    simp [results, Try.results38, go_sem]

theorem iDof_any (t z p : Int) (ht : I16 t) (hz : I16 z) (F : Int → Nat) (hF : mixOk t z p = true → StopF t z p F) (am : Option Addr) (ms : List (Int × Int)) (cm : Nat) (ad : Option Addr) (zs : List ByteArray) (cap : Nat) (w : World) (hm : MasksIn w am ms) (h : StrsIn w ad zs) (hf : Fit zs) (lm : ms.length ≤ 9223372036854775807) (hl : zs.length ≤ 9223372036854775807) :
    Calls Try.prog 38 #[.agg #[.int .i16 t, .int .i16 z, .int .i16 p], .slice am ms.length cm, .slice ad zs.length cap] w (MwR (askC (mixOk t z p) ms zs 12) (mayL (askC (mixOk t z p) ms zs 12) (dofL t z F ms zs)) w) := by
  by_cases hc : askC (mixOk t z p) ms zs 12 = 0
  · have hv := ask_ok hc
    rw [hv] at hc
    rw [hv, hc, mayL_yes]
    exact iDofYes t z p ht hz F (hF hv) am ms cm ad zs cap w hm h hf hl hv hc
  · rw [mayL_no hc]
    exact iDofNo t z p ht hz am ms cm ad zs cap w hm h hf lm hl hc
end Go.Proofs.Ytoippchkhknhpaa
