/- Contracts: the words of a name, the program's. -/
import Derived.Test.YtnfhhckkealkpaaDoorCnT
import Derived.Test.YtnfhhckkealkpaaDoorCnW
import Derived.Test.YtnfhhckkealkpaaDoorSeq
import Derived.Test.YtnfhhckkealkpaaDoorRngO
import Derived.RangeFuncBox
namespace Go.Proofs.YtnfhhckkealkpaaDoor
open Go.ChangeShapes Go.WideShapes Go.ChangeAt Go.RowKit
attribute [local go_sem] Oper.semAt_some

/-! ### strings.Cut at a blank -/
theorem liteCutB_none (s : ByteArray) (h : (32 : UInt8) ∉ s.data.toList) (w : World) :
    Calls Tryd.prog 71 #[.string s, .string ⟨#[32]⟩] w fun e w' => e = .returned (.tuple #[.string s, .string ⟨#[]⟩, .bool false]) ∧ Below w.heap.size w w' := by
  have V := Lib.hid fun W => Any.stringslite_Index_one { Tryd.lays143 with } s 32 W
  rcases ib_spec s.data.toList 32 with ⟨hi, hn⟩ | ⟨k, hi, hk, hg, hn⟩
  · rw [hi] at V
    clear h
    go_enter Tryd.func71, Tryd.ntmps71
    go_wp2_with (go_at_call 76; refine (V.out _).mono ?_; rintro e w1 ⟨rfl, rfl⟩)
    go_returns
    exact ⟨rfl, Below.refl _ _⟩
  · exact absurd (List.mem_of_getElem? hg) h
theorem liteCutB_some (s : ByteArray) (k : Nat) (hi : Lib.indexByte s.data.toList 32 = (k : Int)) (hk : k < s.size) (hs : s.size ≤ 1048576) (w : World) :
    Calls Tryd.prog 71 #[.string s, .string ⟨#[32]⟩] w fun e w' => e = .returned (.tuple #[.string (s.extract 0 k), .string (s.extract (k + 1) s.size), .bool true]) ∧ Below w.heap.size w w' := by
  have V := Lib.hid fun W => Any.stringslite_Index_one { Tryd.lays143 with } s 32 W
  rw [hi] at V
  have kn : decide ((0 : Int) ≤ (k : Int)) = true := by simp
  have kw1 : IntKind.i64.wrap ((k : Int) + 1) = ((k + 1 : Nat) : Int) := by rw [Int.natCast_succ]; exact IntWalk.i64_in _ (by omega)
  have sz1 : (ByteArray.mk #[32]).size = 1 := rfl
  have hbw := cell_bw
  clear hi
  go_enter Tryd.func71, Tryd.ntmps71
  go_wp2_with (go_at_call 76; refine (V.out _).mono ?_; rintro e w1 ⟨rfl, rfl⟩)
  refine region_bw (by kernel_rfl) (by kernel_rfl) ?_
  repeat (go_big_quiet_step (fail))
  refine wpQuiet_nil ?_; intro wq hq; replace hq := below_of_bw hq; obtain ⟨qc, qf, qz⟩ := bcell hq
  go_wp2
  go_returns
  exact ⟨rfl, (by repeat' (first | (with_reducible exact Below.refl _ _) | (with_reducible assumption) | (with_reducible refine below_drewN ?_ _) | (with_reducible refine Below.drew ?_) | (with_reducible refine below_new ?_ _) | (with_reducible refine below_next ?_ (by with_reducible assumption)) | (with_reducible refine Below.setCell ?_ ?_ _) | go_size))⟩
def CutR (a b : ByteArray) (m : Bool) (w : World) (e : Ending) (w' : World) : Prop := e = .returned (.tuple #[.string a, .string b, .bool m]) ∧ Below w.heap.size w w'
theorem cutB_none (s : ByteArray) (h : (32 : UInt8) ∉ s.data.toList) (W : World) : Calls Tryd.prog 57 #[.string s, .string ⟨#[32]⟩] W (CutR s ⟨#[]⟩ false W) := by
  have V := Lib.hid fun W => liteCutB_none s h W
  unfold CutR
  clear h
  go_enter Tryd.func57, Tryd.ntmps57
  go_wp2_with (go_at_call 71; refine (V.out _).mono ?_; rintro e w1 ⟨rfl, hB⟩; have BB := Lib.hid hB; clear hB)
  go_returns
  exact ⟨rfl, BB.out⟩
theorem cutB_some (s : ByteArray) (k : Nat) (hi : Lib.indexByte s.data.toList 32 = (k : Int)) (hk : k < s.size) (hs : s.size ≤ 1048576) (W : World) : Calls Tryd.prog 57 #[.string s, .string ⟨#[32]⟩] W (CutR (s.extract 0 k) (s.extract (k + 1) s.size) true W) := by
  have V := fun W => liteCutB_some s k hi hk hs W
  unfold CutR
  generalize s.extract 0 k = a at *
  generalize s.extract (k + 1) s.size = b at *
  have V := Lib.hid V
  clear hi hk hs
  go_enter Tryd.func57, Tryd.ntmps57
  go_wp2_with (go_at_call 71; refine (V.out _).mono ?_; rintro e w1 ⟨rfl, hB⟩; have BB := Lib.hid hB; clear hB)
  go_returns
  exact ⟨rfl, BB.out⟩
/-- What stands in front of the first blank, what behind it, and the words of a name. -/
theorem cutB_any (s : ByteArray) (hs : s.size ≤ 1048576) : ∃ a b m, (∀ W, Calls Tryd.prog 57 #[.string s, .string ⟨#[32]⟩] W (CutR a b m W)) ∧ (m = false → fw s = pieces 32 s) ∧ (m = true → b.size ≤ 1048576 ∧ (isArt a = true → fw s = pieces 32 b) ∧ (isArt a = false → fw s = pieces 32 s)) := by
  rcases ib_spec s.data.toList 32 with ⟨hi, hn⟩ | ⟨k, hi, hk, hg, hn⟩
  · refine ⟨s, ⟨#[]⟩, false, fun W => cutB_none s hn W, fun _ => ?_, fun h => by cases h⟩
    unfold fw
    rw [pieces_none hn]; rfl
  · have hk2 : k < s.size := by rw [Array.length_toList] at hk; exact hk
    have hp := pieces_at hg hn
    refine ⟨_, _, true, fun W => cutB_some s k hi hk2 hs W, fun h => (by cases h), fun _ => ⟨?_, fun h => ?_, fun h => ?_⟩⟩
    · simp; omega
    · obtain ⟨p, r, hq⟩ : ∃ p r, pieces 32 (s.extract (k + 1) s.size) = p :: r := by
        cases q : pieces 32 (s.extract (k + 1) s.size) with
        | nil => exact absurd q (pieces_ne 32 _)
        | cons p r => exact ⟨p, r, rfl⟩
      unfold fw
      rw [hp, hq]
      exact if_pos h
    · obtain ⟨p, r, hq⟩ : ∃ p r, pieces 32 (s.extract (k + 1) s.size) = p :: r := by
        cases q : pieces 32 (s.extract (k + 1) s.size) with
        | nil => exact absurd q (pieces_ne 32 _)
        | cons p r => exact ⟨p, r, rfl⟩
      unfold fw
      rw [hp, hq]
      exact if_neg (by rw [h]; simp)

/-! ### Words of the call's own -/
theorem info_fw : (Tryd.prog.info? 61).map (fun i => (i.zero, i.size, i.bytes)) = some (some (.string ByteArray.empty), 1, 16) := by kernel_rfl
def OwnFw (B : Nat) (ps : List ByteArray) (v : Value) (w : World) : Prop := w.ownsRow B 61 1 v ps.length (ps.map Value.string)
theorem ownFw_in {B : Nat} {ps : List ByteArray} {v : Value} {w : World} (h : OwnFw B ps v w) : ∃ a c, v = .slice a ps.length c ∧ StrsIn w a ps := by
  have h0 := h
  obtain ⟨_, h2⟩ := h
  rcases h2 with ⟨rfl, hn⟩ | ⟨g, cap, cur, rfl, hb, hg, _⟩
  · exact ⟨none, 0, by rw [hn], fun i hi => by omega⟩
  · refine ⟨_, cap, rfl, fun i hi => ⟨g, 0, rfl, (Array.getElem?_eq_some_iff.1 hg).1, ?_⟩⟩
    have := World.ownsRow.cellAt h0 i (by omega)
    rw [Nat.zero_add, this, List.getElem?_map, List.getElem?_eq_getElem hi]
    simp [List.getD, hi]
theorem ownFw_nil (w : World) (B : Nat) : OwnFw B [] (.slice none 0 0) w := World.ownsRow_nil w B _ 1
theorem ownFw_lt {B : Nat} {ps : List ByteArray} {v : Value} {w : World} (h : OwnFw B ps v w) : ∀ j, v.ownBlock = some j → B ≤ j := fun j hj => (World.ownsRow.lt h j hj).1
theorem ownFw_oth {B g : Nat} {ps : List ByteArray} {v : Value} {w w' : World} (h : OwnFw B ps v w) (hb : Oth g w w') (hg : g < B) : OwnFw B ps v w' := by
  obtain ⟨h1, h2⟩ := h
  refine ⟨h1, ?_⟩
  rcases h2 with hn | ⟨b, cap, cur, rfl, hB, hh, rest⟩
  · exact .inl hn
  · exact .inr ⟨b, cap, cur, rfl, hB, (hb.block b (by omega) (Array.getElem?_eq_some_iff.1 hh).1).trans hh, rest⟩
theorem ownFw_push {B : Nat} {ps : List ByteArray} {x : ByteArray} {v : Value} {w : World} (h : w.ownsRow B 61 1 v (ps.length + 1) (ps.map Value.string ++ [.string x])) : OwnFw B (ps ++ [x]) v w := by
  unfold OwnFw; rw [List.map_append, List.length_append]; exact h
theorem one_newF (w : World) (n : Nat) (hn : n = w.heap.size) (x : Value) (t : TypeId) : ∀ j u, [x][j]? = some u → (w.alloc (.cells #[x] t)).cell? ((⟨n, 0, none⟩ : Addr).add j) = some u := by
  subst hn
  intro j u h
  match j, h with
  | 0, h => simp at h; subst h; simp [Addr.add]

set_option maxRecDepth 100000 in
set_option maxHeartbeats 6400000 in
theorem iWords_any (s : ByteArray) (hs : s.size ≤ 1048576) (w : World) : Calls Tryd.prog 45 #[.string s] w (WordsR (fw s) w) := by
  obtain ⟨i0, hi, hz0, hz1, hz2⟩ := info_parts info_fw
  obtain ⟨a, b, m, CT, F0, F1⟩ := cutB_any s hs
  unfold CutR at CT
  have CT := Lib.hid CT
  cases m
  · have FWE := F0 rfl
    clear F0 F1
    have V := Lib.hid fun W => splitSeq_any s 32 W
    have NL := pieces_len 32 s
    refine (callsIn_wide (n := 0)).1 (callsIn_of_wp_marks Tryd.func45 rfl trivial ?_ rfl)
    simp only [Tryd.ntmps45, List.size_toArray, List.length_cons, List.length_nil, Nat.reduceAdd, Nat.reduceSub, Array.replicate_succ, Array.replicate_zero, List.push_toArray, List.append_toArray, List.nil_append, List.cons_append]
    refine wpIn_wide.2 ?_
    go_wp2_with (first
      | (go_at_call 57; refine (CT.out _).mono ?_; rintro e u ⟨rfl, hB⟩; have BU := Lib.hid hB; clear hB)
      | (go_at_call 41; refine (V.out _).mono ?_; rintro e w1 ⟨rfl, hS, hB⟩; have SS := Lib.hid hS; have BB := Lib.hid hB; clear hS hB))
    have c0 : w1.cell? ⟨u.heap.size, 0, none⟩ = some (.slice none 0 0) := (BB.out.cell (p := ⟨u.heap.size, 0, none⟩) (by simp)).trans (by simp)
    have f0 : w1.frozen? ⟨u.heap.size, 0, none⟩ = false := (BB.out.frozen (p := ⟨u.heap.size, 0, none⟩) (by simp)).trans (by simp)
    have g0 : u.heap.size + 4 ≤ w1.heap.size := by have := SS.out.2.2.1; simp at this; omega
    have B0 : Below u.heap.size u w1 := (below_new (Below.refl _ _) _).trans (BB.out.mono (by simp))
    have hq := splitSeq_by _ _ _ s 32 (by unfold maxLen; omega) w1 SS.out
    simp only [World.size_alloc] at hq
    clear V CT SS BB
    refine wp_rangeO rfl (enters_of Tryd.func60 (by kernel_rfl) rfl) hq (fun _ => rfl) KpS.trans
      (fun A B hAB => ⟨hAB.size, hAB.block _ (by omega), hAB.block _ (by omega), hAB.block _ (by omega)⟩) (fun A B hAB k hk hk2 => hAB.block k (by omega) hk2)
      (fun pre W => (∃ v, W.cell? ⟨u.heap.size, 0, none⟩ = some v ∧ OwnFw (w1.heap.size + 2) pre v W) ∧ W.frozen? ⟨u.heap.size, 0, none⟩ = false ∧ w1.heap.size ≤ W.heap.size ∧ Below u.heap.size u W)
      (fun _ _ _ => False)
      ?i1 (fun _ _ _ _ h => h.elim) ?i3 ?i4 (fun _ _ _ _ _ _ _ _ _ h => h.elim) (fun _ _ _ => trivial) ⟨⟨_, c0, ownFw_nil _ _⟩, f0, Nat.le_refl _, B0⟩
      (fun x => { tmps := #[.string s, undef, .slice none 0 0, .string a, .string b, .bool false, .pointer (some ⟨u.heap.size, 0, none⟩), .string x, .tuple #[.string a, .string b, .bool false], .string s, .tuple #[.string a, .string b, .bool false], .string a, .string b, .bool false, .bool false, .bool false, undef, undef, undef, undef, undef, undef, undef, undef, undef, undef, .bool false, undef, .string s, .func (.func 60) #[] #[.pointer (some ⟨u.heap.size + 1 + 1, 0, none⟩), .pointer (some ⟨u.heap.size + 1, 0, none⟩), .pointer (some ⟨u.heap.size + 1 + 2, 0, none⟩)], .string x, undef, undef, undef, undef, undef], defers := [] }) ?assign ?body ?done (fun _ _ _ _ h => h.elim)
    case i1 =>
      rintro pre A B ⟨⟨v, h2, hO⟩, h4, h7, h8⟩ hs
      exact ⟨⟨v, (cell_same (hs.block _ (by omega) (by omega))).trans h2, ownFw_oth hO hs (by omega)⟩, (frozen_same (hs.block _ (by omega) (by omega))).trans h4, Nat.le_trans h7 hs.size, h8.trans (Below.mono (hs.below (by omega)) (by omega))⟩
    case i3 =>
      rintro pre A o hA ⟨⟨v, h2, hO⟩, h4, h7, h8⟩
      have hs := below_new (Below.refl A.heap.size A) o
      exact ⟨⟨v, (hs.cell (p := ⟨u.heap.size, 0, none⟩) (by simp; omega)).trans h2, World.ownsRow.alloc hO _⟩, (hs.frozen (p := ⟨u.heap.size, 0, none⟩) (by simp; omega)).trans h4, Nat.le_trans h7 hs.size, h8.trans (hs.mono (by omega))⟩
    case i4 =>
      rintro pre A k o o' hk hl ho ⟨⟨v, h2, hO⟩, h4, h7, h8⟩
      have hs : Below w1.heap.size A (A.putObj k o') := below_put hk
      exact ⟨⟨v, (hs.cell (p := ⟨u.heap.size, 0, none⟩) (by simp; omega)).trans h2, ownsRow_putObj hO o' hl ho⟩, (hs.frozen (p := ⟨u.heap.size, 0, none⟩) (by simp; omega)).trans h4, by simpa using h7, h8.trans (hs.mono (by omega))⟩
    case assign =>
      intro l x W K hK
      gi_wp2
      first | exact hK | (go_simp; exact hK) | (simp; exact hK)
    case body =>
      rintro l pre x W ⟨⟨v, h2, hO⟩, h4, h7, h8⟩ hask hlt
      have pl : pre.length < 1048577 := by
        have := hask.length_le
        simp at this
        omega
      have OO := Lib.hid hO
      have BW := Lib.hid h8
      have lt := ownFw_lt hO
      clear hq hask hO h8
      gi_wp2_with (gi_at_builtin; go_loud (refine wpListIn_append_own _ rfl _ _ 62 rfl (w1.heap.size + 2) 61 i0 (.string ByteArray.empty) 1 16 Tryd.underlying62 hi hz0 hz1 hz2 rfl (by decide) _ _ _ rfl (World.ownsRow.alloc OO.out _) ⟨W.heap.size, 0, none⟩ 1 1 [.string x] rfl rfl (one_newF _ _ (by simp) _ _) (fun x hx => by simp at hx; subst hx; rfl) (by unfold maxLen; omega) (by omega) (by simp; omega) ?_; intro v' w5 hown hgrow _; have P0 := ownFw_push hown; obtain ⟨av, cv, rfl, _⟩ := ownFw_in P0; have P := Lib.hid P0; clear P0; have G := Lib.hid (Below.grown ((Below.refl (w1.heap.size + 2) W).alloc (by omega) (.cells #[.string x] 61)) hgrow (by simp; omega) lt); have k5 := (G.out.cell (p := ⟨u.heap.size, 0, none⟩) (by simp; omega)).trans h2; have z5 := G.out.frozen (p := ⟨u.heap.size, 0, none⟩) (by simp; omega); rw [h4] at z5; clear hown hgrow))
      have hL : (pre ++ [x]).length = pre.length + 1 := by simp
      have PP : OwnFw (w1.heap.size + 2) (pre ++ [x]) (.slice av (pre.length + 1) cv) w5 := hL ▸ P.out
      have bk : ∀ k, k < w1.heap.size + 2 → k ≠ u.heap.size → (w5.setCell ⟨u.heap.size, 0, none⟩ (.slice av (pre.length + 1) cv)).heap[k]? = W.heap[k]? := fun k hk hne => (Below.heap_setCell _ _ _ _ (by simp; omega)).trans (G.out.block k hk)
      have gs := G.out.size
      refine ⟨⟨bk _ (by omega) (by omega), bk _ (by omega) (by omega)⟩, ⟨by simp [World.setCell]; omega, bk _ (by omega) (by omega), bk _ (by omega) (by omega), bk _ (by omega) (by omega)⟩, ⟨_, World.cell?_setCell_same' _ _ _ (by rw [k5]; rfl), ownsRow_setCell_below PP (by simp; omega) _⟩, by rw [World.frozen?_setCell]; exact z5, by simp [World.setCell]; omega, (BW.out.trans (G.out.mono (by omega))).setCell (p := ⟨u.heap.size, 0, none⟩) (by simp) _⟩
    case done =>
      rintro xs W rfl ⟨⟨v, h2, hO⟩, h4, h7, h8⟩ hK
      have OO := Lib.hid hO
      obtain ⟨av, cv, rfl, _⟩ := ownFw_in hO
      clear hO
      go_wp2
      refine ⟨by simp, .inl ⟨_, _, rfl, run_takeDeferred hK, ?_⟩⟩
      obtain ⟨av', cv', e', hI⟩ := ownFw_in (ownsRow_putObj OO.out (.deferred none) hK rfl : OwnFw _ _ _ _)
      injection e' with e1 _ e3
      subst e1; subst e3
      refine ⟨.slice av (pieces 32 s).length cv, by simp [results, Tryd.results45, go_sem], ?_⟩
      rw [FWE]
      exact ⟨_, _, rfl, hI, (BU.out.trans (h8.mono BU.out.size)).trans (below_put (by have := BU.out.size; omega))⟩
  · obtain ⟨hb, F2, F3⟩ := F1 rfl
    cases ha : isArt a
    · obtain ⟨e1, e2, e3⟩ := isArt_no ha
      have f1 := beq_false_of_ne e1
      have f2 := beq_false_of_ne e2
      have f3 := beq_false_of_ne e3
      have FWE := F3 ha
      clear ha F0 F1 F2 F3
      have V := Lib.hid fun W => splitSeq_any s 32 W
      have NL := pieces_len 32 s
      refine (callsIn_wide (n := 0)).1 (callsIn_of_wp_marks Tryd.func45 rfl trivial ?_ rfl)
      simp only [Tryd.ntmps45, List.size_toArray, List.length_cons, List.length_nil, Nat.reduceAdd, Nat.reduceSub, Array.replicate_succ, Array.replicate_zero, List.push_toArray, List.append_toArray, List.nil_append, List.cons_append]
      refine wpIn_wide.2 ?_
      go_wp2_with (first
        | (go_at_call 57; refine (CT.out _).mono ?_; rintro e u ⟨rfl, hB⟩; have BU := Lib.hid hB; clear hB)
        | (go_at_call 41; refine (V.out _).mono ?_; rintro e w1 ⟨rfl, hS, hB⟩; have SS := Lib.hid hS; have BB := Lib.hid hB; clear hS hB))
      have c0 : w1.cell? ⟨u.heap.size, 0, none⟩ = some (.slice none 0 0) := (BB.out.cell (p := ⟨u.heap.size, 0, none⟩) (by simp)).trans (by simp)
      have f0 : w1.frozen? ⟨u.heap.size, 0, none⟩ = false := (BB.out.frozen (p := ⟨u.heap.size, 0, none⟩) (by simp)).trans (by simp)
      have g0 : u.heap.size + 4 ≤ w1.heap.size := by have := SS.out.2.2.1; simp at this; omega
      have B0 : Below u.heap.size u w1 := (below_new (Below.refl _ _) _).trans (BB.out.mono (by simp))
      have hq := splitSeq_by _ _ _ s 32 (by unfold maxLen; omega) w1 SS.out
      simp only [World.size_alloc] at hq
      clear V CT SS BB
      refine wp_rangeO rfl (enters_of Tryd.func60 (by kernel_rfl) rfl) hq (fun _ => rfl) KpS.trans
        (fun A B hAB => ⟨hAB.size, hAB.block _ (by omega), hAB.block _ (by omega), hAB.block _ (by omega)⟩) (fun A B hAB k hk hk2 => hAB.block k (by omega) hk2)
        (fun pre W => (∃ v, W.cell? ⟨u.heap.size, 0, none⟩ = some v ∧ OwnFw (w1.heap.size + 2) pre v W) ∧ W.frozen? ⟨u.heap.size, 0, none⟩ = false ∧ w1.heap.size ≤ W.heap.size ∧ Below u.heap.size u W)
        (fun _ _ _ => False)
        ?i1 (fun _ _ _ _ h => h.elim) ?i3 ?i4 (fun _ _ _ _ _ _ _ _ _ h => h.elim) (fun _ _ _ => trivial) ⟨⟨_, c0, ownFw_nil _ _⟩, f0, Nat.le_refl _, B0⟩
        (fun x => { tmps := #[.string s, undef, .slice none 0 0, .string a, .string b, .bool true, .pointer (some ⟨u.heap.size, 0, none⟩), .string x, .tuple #[.string a, .string b, .bool true], .string s, .tuple #[.string a, .string b, .bool true], .string a, .string b, .bool true, .bool true, .bool true, .string a, .bool false, .bool false, .string a, .bool false, .bool false, .bool false, .string a, .bool false, .bool false, .bool false, undef, .string s, .func (.func 60) #[] #[.pointer (some ⟨u.heap.size + 1 + 1, 0, none⟩), .pointer (some ⟨u.heap.size + 1, 0, none⟩), .pointer (some ⟨u.heap.size + 1 + 2, 0, none⟩)], .string x, undef, undef, undef, undef, undef], defers := [] }) ?assign ?body ?done (fun _ _ _ _ h => h.elim)
      case i1 =>
        rintro pre A B ⟨⟨v, h2, hO⟩, h4, h7, h8⟩ hs
        exact ⟨⟨v, (cell_same (hs.block _ (by omega) (by omega))).trans h2, ownFw_oth hO hs (by omega)⟩, (frozen_same (hs.block _ (by omega) (by omega))).trans h4, Nat.le_trans h7 hs.size, h8.trans (Below.mono (hs.below (by omega)) (by omega))⟩
      case i3 =>
        rintro pre A o hA ⟨⟨v, h2, hO⟩, h4, h7, h8⟩
        have hs := below_new (Below.refl A.heap.size A) o
        exact ⟨⟨v, (hs.cell (p := ⟨u.heap.size, 0, none⟩) (by simp; omega)).trans h2, World.ownsRow.alloc hO _⟩, (hs.frozen (p := ⟨u.heap.size, 0, none⟩) (by simp; omega)).trans h4, Nat.le_trans h7 hs.size, h8.trans (hs.mono (by omega))⟩
      case i4 =>
        rintro pre A k o o' hk hl ho ⟨⟨v, h2, hO⟩, h4, h7, h8⟩
        have hs : Below w1.heap.size A (A.putObj k o') := below_put hk
        exact ⟨⟨v, (hs.cell (p := ⟨u.heap.size, 0, none⟩) (by simp; omega)).trans h2, ownsRow_putObj hO o' hl ho⟩, (hs.frozen (p := ⟨u.heap.size, 0, none⟩) (by simp; omega)).trans h4, by simpa using h7, h8.trans (hs.mono (by omega))⟩
      case assign =>
        intro l x W K hK
        gi_wp2
        first | exact hK | (go_simp; exact hK) | (simp; exact hK)
      case body =>
        rintro l pre x W ⟨⟨v, h2, hO⟩, h4, h7, h8⟩ hask hlt
        have pl : pre.length < 1048577 := by
          have := hask.length_le
          simp at this
          omega
        have OO := Lib.hid hO
        have BW := Lib.hid h8
        have lt := ownFw_lt hO
        clear hq hask hO h8
        gi_wp2_with (gi_at_builtin; go_loud (refine wpListIn_append_own _ rfl _ _ 62 rfl (w1.heap.size + 2) 61 i0 (.string ByteArray.empty) 1 16 Tryd.underlying62 hi hz0 hz1 hz2 rfl (by decide) _ _ _ rfl (World.ownsRow.alloc OO.out _) ⟨W.heap.size, 0, none⟩ 1 1 [.string x] rfl rfl (one_newF _ _ (by simp) _ _) (fun x hx => by simp at hx; subst hx; rfl) (by unfold maxLen; omega) (by omega) (by simp; omega) ?_; intro v' w5 hown hgrow _; have P0 := ownFw_push hown; obtain ⟨av, cv, rfl, _⟩ := ownFw_in P0; have P := Lib.hid P0; clear P0; have G := Lib.hid (Below.grown ((Below.refl (w1.heap.size + 2) W).alloc (by omega) (.cells #[.string x] 61)) hgrow (by simp; omega) lt); have k5 := (G.out.cell (p := ⟨u.heap.size, 0, none⟩) (by simp; omega)).trans h2; have z5 := G.out.frozen (p := ⟨u.heap.size, 0, none⟩) (by simp; omega); rw [h4] at z5; clear hown hgrow))
        have hL : (pre ++ [x]).length = pre.length + 1 := by simp
        have PP : OwnFw (w1.heap.size + 2) (pre ++ [x]) (.slice av (pre.length + 1) cv) w5 := hL ▸ P.out
        have bk : ∀ k, k < w1.heap.size + 2 → k ≠ u.heap.size → (w5.setCell ⟨u.heap.size, 0, none⟩ (.slice av (pre.length + 1) cv)).heap[k]? = W.heap[k]? := fun k hk hne => (Below.heap_setCell _ _ _ _ (by simp; omega)).trans (G.out.block k hk)
        have gs := G.out.size
        refine ⟨⟨bk _ (by omega) (by omega), bk _ (by omega) (by omega)⟩, ⟨by simp [World.setCell]; omega, bk _ (by omega) (by omega), bk _ (by omega) (by omega), bk _ (by omega) (by omega)⟩, ⟨_, World.cell?_setCell_same' _ _ _ (by rw [k5]; rfl), ownsRow_setCell_below PP (by simp; omega) _⟩, by rw [World.frozen?_setCell]; exact z5, by simp [World.setCell]; omega, (BW.out.trans (G.out.mono (by omega))).setCell (p := ⟨u.heap.size, 0, none⟩) (by simp) _⟩
      case done =>
        rintro xs W rfl ⟨⟨v, h2, hO⟩, h4, h7, h8⟩ hK
        have OO := Lib.hid hO
        obtain ⟨av, cv, rfl, _⟩ := ownFw_in hO
        clear hO
        go_wp2
        refine ⟨by simp, .inl ⟨_, _, rfl, run_takeDeferred hK, ?_⟩⟩
        obtain ⟨av', cv', e', hI⟩ := ownFw_in (ownsRow_putObj OO.out (.deferred none) hK rfl : OwnFw _ _ _ _)
        injection e' with e1 _ e3
        subst e1; subst e3
        refine ⟨.slice av (pieces 32 s).length cv, by simp [results, Tryd.results45, go_sem], ?_⟩
        rw [FWE]
        exact ⟨_, _, rfl, hI, (BU.out.trans (h8.mono BU.out.size)).trans (below_put (by have := BU.out.size; omega))⟩
    · have FWE := F2 ha
      clear F0 F1 F2 F3
      rcases isArt_yes ha with e1 | ⟨e1, e2⟩ | ⟨e1, e2, e3⟩
      · clear ha
        have V := Lib.hid fun W => splitSeq_any b 32 W
        have NL := pieces_len 32 b
        refine (callsIn_wide (n := 0)).1 (callsIn_of_wp_marks Tryd.func45 rfl trivial ?_ rfl)
        simp only [Tryd.ntmps45, List.size_toArray, List.length_cons, List.length_nil, Nat.reduceAdd, Nat.reduceSub, Array.replicate_succ, Array.replicate_zero, List.push_toArray, List.append_toArray, List.nil_append, List.cons_append]
        refine wpIn_wide.2 ?_
        go_wp2_with (first
          | (go_at_call 57; refine (CT.out _).mono ?_; rintro e u ⟨rfl, hB⟩; have BU := Lib.hid hB; clear hB)
          | (go_at_call 41; refine (V.out _).mono ?_; rintro e w1 ⟨rfl, hS, hB⟩; have SS := Lib.hid hS; have BB := Lib.hid hB; clear hS hB))
        have c0 : w1.cell? ⟨u.heap.size, 0, none⟩ = some (.slice none 0 0) := (BB.out.cell (p := ⟨u.heap.size, 0, none⟩) (by simp)).trans (by simp)
        have f0 : w1.frozen? ⟨u.heap.size, 0, none⟩ = false := (BB.out.frozen (p := ⟨u.heap.size, 0, none⟩) (by simp)).trans (by simp)
        have g0 : u.heap.size + 4 ≤ w1.heap.size := by have := SS.out.2.2.1; simp at this; omega
        have B0 : Below u.heap.size u w1 := (below_new (Below.refl _ _) _).trans (BB.out.mono (by simp))
        have hq := splitSeq_by _ _ _ b 32 (by unfold maxLen; omega) w1 SS.out
        simp only [World.size_alloc] at hq
        clear V CT SS BB
        refine wp_rangeO rfl (enters_of Tryd.func60 (by kernel_rfl) rfl) hq (fun _ => rfl) KpS.trans
          (fun A B hAB => ⟨hAB.size, hAB.block _ (by omega), hAB.block _ (by omega), hAB.block _ (by omega)⟩) (fun A B hAB k hk hk2 => hAB.block k (by omega) hk2)
          (fun pre W => (∃ v, W.cell? ⟨u.heap.size, 0, none⟩ = some v ∧ OwnFw (w1.heap.size + 2) pre v W) ∧ W.frozen? ⟨u.heap.size, 0, none⟩ = false ∧ w1.heap.size ≤ W.heap.size ∧ Below u.heap.size u W)
          (fun _ _ _ => False)
          ?i1 (fun _ _ _ _ h => h.elim) ?i3 ?i4 (fun _ _ _ _ _ _ _ _ _ h => h.elim) (fun _ _ _ => trivial) ⟨⟨_, c0, ownFw_nil _ _⟩, f0, Nat.le_refl _, B0⟩
          (fun x => { tmps := #[.string b, undef, .slice none 0 0, .string a, .string b, .bool true, .pointer (some ⟨u.heap.size, 0, none⟩), .string x, .tuple #[.string a, .string b, .bool true], .string s, .tuple #[.string a, .string b, .bool true], .string a, .string b, .bool true, .bool true, .bool true, .string a, .bool true, .bool true, undef, undef, .bool true, .bool true, undef, undef, .bool true, .bool true, .string b, .string b, .func (.func 60) #[] #[.pointer (some ⟨u.heap.size + 1 + 1, 0, none⟩), .pointer (some ⟨u.heap.size + 1, 0, none⟩), .pointer (some ⟨u.heap.size + 1 + 2, 0, none⟩)], .string x, undef, undef, undef, undef, undef], defers := [] }) ?assign ?body ?done (fun _ _ _ _ h => h.elim)
        case i1 =>
          rintro pre A B ⟨⟨v, h2, hO⟩, h4, h7, h8⟩ hs
          exact ⟨⟨v, (cell_same (hs.block _ (by omega) (by omega))).trans h2, ownFw_oth hO hs (by omega)⟩, (frozen_same (hs.block _ (by omega) (by omega))).trans h4, Nat.le_trans h7 hs.size, h8.trans (Below.mono (hs.below (by omega)) (by omega))⟩
        case i3 =>
          rintro pre A o hA ⟨⟨v, h2, hO⟩, h4, h7, h8⟩
          have hs := below_new (Below.refl A.heap.size A) o
          exact ⟨⟨v, (hs.cell (p := ⟨u.heap.size, 0, none⟩) (by simp; omega)).trans h2, World.ownsRow.alloc hO _⟩, (hs.frozen (p := ⟨u.heap.size, 0, none⟩) (by simp; omega)).trans h4, Nat.le_trans h7 hs.size, h8.trans (hs.mono (by omega))⟩
        case i4 =>
          rintro pre A k o o' hk hl ho ⟨⟨v, h2, hO⟩, h4, h7, h8⟩
          have hs : Below w1.heap.size A (A.putObj k o') := below_put hk
          exact ⟨⟨v, (hs.cell (p := ⟨u.heap.size, 0, none⟩) (by simp; omega)).trans h2, ownsRow_putObj hO o' hl ho⟩, (hs.frozen (p := ⟨u.heap.size, 0, none⟩) (by simp; omega)).trans h4, by simpa using h7, h8.trans (hs.mono (by omega))⟩
        case assign =>
          intro l x W K hK
          gi_wp2
          first | exact hK | (go_simp; exact hK) | (simp; exact hK)
        case body =>
          rintro l pre x W ⟨⟨v, h2, hO⟩, h4, h7, h8⟩ hask hlt
          have pl : pre.length < 1048577 := by
            have := hask.length_le
            simp at this
            omega
          have OO := Lib.hid hO
          have BW := Lib.hid h8
          have lt := ownFw_lt hO
          clear hq hask hO h8
          gi_wp2_with (gi_at_builtin; go_loud (refine wpListIn_append_own _ rfl _ _ 62 rfl (w1.heap.size + 2) 61 i0 (.string ByteArray.empty) 1 16 Tryd.underlying62 hi hz0 hz1 hz2 rfl (by decide) _ _ _ rfl (World.ownsRow.alloc OO.out _) ⟨W.heap.size, 0, none⟩ 1 1 [.string x] rfl rfl (one_newF _ _ (by simp) _ _) (fun x hx => by simp at hx; subst hx; rfl) (by unfold maxLen; omega) (by omega) (by simp; omega) ?_; intro v' w5 hown hgrow _; have P0 := ownFw_push hown; obtain ⟨av, cv, rfl, _⟩ := ownFw_in P0; have P := Lib.hid P0; clear P0; have G := Lib.hid (Below.grown ((Below.refl (w1.heap.size + 2) W).alloc (by omega) (.cells #[.string x] 61)) hgrow (by simp; omega) lt); have k5 := (G.out.cell (p := ⟨u.heap.size, 0, none⟩) (by simp; omega)).trans h2; have z5 := G.out.frozen (p := ⟨u.heap.size, 0, none⟩) (by simp; omega); rw [h4] at z5; clear hown hgrow))
          have hL : (pre ++ [x]).length = pre.length + 1 := by simp
          have PP : OwnFw (w1.heap.size + 2) (pre ++ [x]) (.slice av (pre.length + 1) cv) w5 := hL ▸ P.out
          have bk : ∀ k, k < w1.heap.size + 2 → k ≠ u.heap.size → (w5.setCell ⟨u.heap.size, 0, none⟩ (.slice av (pre.length + 1) cv)).heap[k]? = W.heap[k]? := fun k hk hne => (Below.heap_setCell _ _ _ _ (by simp; omega)).trans (G.out.block k hk)
          have gs := G.out.size
          refine ⟨⟨bk _ (by omega) (by omega), bk _ (by omega) (by omega)⟩, ⟨by simp [World.setCell]; omega, bk _ (by omega) (by omega), bk _ (by omega) (by omega), bk _ (by omega) (by omega)⟩, ⟨_, World.cell?_setCell_same' _ _ _ (by rw [k5]; rfl), ownsRow_setCell_below PP (by simp; omega) _⟩, by rw [World.frozen?_setCell]; exact z5, by simp [World.setCell]; omega, (BW.out.trans (G.out.mono (by omega))).setCell (p := ⟨u.heap.size, 0, none⟩) (by simp) _⟩
        case done =>
          rintro xs W rfl ⟨⟨v, h2, hO⟩, h4, h7, h8⟩ hK
          have OO := Lib.hid hO
          obtain ⟨av, cv, rfl, _⟩ := ownFw_in hO
          clear hO
          go_wp2
          refine ⟨by simp, .inl ⟨_, _, rfl, run_takeDeferred hK, ?_⟩⟩
          obtain ⟨av', cv', e', hI⟩ := ownFw_in (ownsRow_putObj OO.out (.deferred none) hK rfl : OwnFw _ _ _ _)
          injection e' with e1 _ e3
          subst e1; subst e3
          refine ⟨.slice av (pieces 32 b).length cv, by simp [results, Tryd.results45, go_sem], ?_⟩
          rw [FWE]
          exact ⟨_, _, rfl, hI, (BU.out.trans (h8.mono BU.out.size)).trans (below_put (by have := BU.out.size; omega))⟩
      · have f1 := beq_false_of_ne e1
        clear ha
        have V := Lib.hid fun W => splitSeq_any b 32 W
        have NL := pieces_len 32 b
        refine (callsIn_wide (n := 0)).1 (callsIn_of_wp_marks Tryd.func45 rfl trivial ?_ rfl)
        simp only [Tryd.ntmps45, List.size_toArray, List.length_cons, List.length_nil, Nat.reduceAdd, Nat.reduceSub, Array.replicate_succ, Array.replicate_zero, List.push_toArray, List.append_toArray, List.nil_append, List.cons_append]
        refine wpIn_wide.2 ?_
        go_wp2_with (first
          | (go_at_call 57; refine (CT.out _).mono ?_; rintro e u ⟨rfl, hB⟩; have BU := Lib.hid hB; clear hB)
          | (go_at_call 41; refine (V.out _).mono ?_; rintro e w1 ⟨rfl, hS, hB⟩; have SS := Lib.hid hS; have BB := Lib.hid hB; clear hS hB))
        have c0 : w1.cell? ⟨u.heap.size, 0, none⟩ = some (.slice none 0 0) := (BB.out.cell (p := ⟨u.heap.size, 0, none⟩) (by simp)).trans (by simp)
        have f0 : w1.frozen? ⟨u.heap.size, 0, none⟩ = false := (BB.out.frozen (p := ⟨u.heap.size, 0, none⟩) (by simp)).trans (by simp)
        have g0 : u.heap.size + 4 ≤ w1.heap.size := by have := SS.out.2.2.1; simp at this; omega
        have B0 : Below u.heap.size u w1 := (below_new (Below.refl _ _) _).trans (BB.out.mono (by simp))
        have hq := splitSeq_by _ _ _ b 32 (by unfold maxLen; omega) w1 SS.out
        simp only [World.size_alloc] at hq
        clear V CT SS BB
        refine wp_rangeO rfl (enters_of Tryd.func60 (by kernel_rfl) rfl) hq (fun _ => rfl) KpS.trans
          (fun A B hAB => ⟨hAB.size, hAB.block _ (by omega), hAB.block _ (by omega), hAB.block _ (by omega)⟩) (fun A B hAB k hk hk2 => hAB.block k (by omega) hk2)
          (fun pre W => (∃ v, W.cell? ⟨u.heap.size, 0, none⟩ = some v ∧ OwnFw (w1.heap.size + 2) pre v W) ∧ W.frozen? ⟨u.heap.size, 0, none⟩ = false ∧ w1.heap.size ≤ W.heap.size ∧ Below u.heap.size u W)
          (fun _ _ _ => False)
          ?i1 (fun _ _ _ _ h => h.elim) ?i3 ?i4 (fun _ _ _ _ _ _ _ _ _ h => h.elim) (fun _ _ _ => trivial) ⟨⟨_, c0, ownFw_nil _ _⟩, f0, Nat.le_refl _, B0⟩
          (fun x => { tmps := #[.string b, undef, .slice none 0 0, .string a, .string b, .bool true, .pointer (some ⟨u.heap.size, 0, none⟩), .string x, .tuple #[.string a, .string b, .bool true], .string s, .tuple #[.string a, .string b, .bool true], .string a, .string b, .bool true, .bool true, .bool true, .string a, .bool false, .bool false, .string a, .bool true, .bool true, .bool true, undef, undef, .bool true, .bool true, .string b, .string b, .func (.func 60) #[] #[.pointer (some ⟨u.heap.size + 1 + 1, 0, none⟩), .pointer (some ⟨u.heap.size + 1, 0, none⟩), .pointer (some ⟨u.heap.size + 1 + 2, 0, none⟩)], .string x, undef, undef, undef, undef, undef], defers := [] }) ?assign ?body ?done (fun _ _ _ _ h => h.elim)
        case i1 =>
          rintro pre A B ⟨⟨v, h2, hO⟩, h4, h7, h8⟩ hs
          exact ⟨⟨v, (cell_same (hs.block _ (by omega) (by omega))).trans h2, ownFw_oth hO hs (by omega)⟩, (frozen_same (hs.block _ (by omega) (by omega))).trans h4, Nat.le_trans h7 hs.size, h8.trans (Below.mono (hs.below (by omega)) (by omega))⟩
        case i3 =>
          rintro pre A o hA ⟨⟨v, h2, hO⟩, h4, h7, h8⟩
          have hs := below_new (Below.refl A.heap.size A) o
          exact ⟨⟨v, (hs.cell (p := ⟨u.heap.size, 0, none⟩) (by simp; omega)).trans h2, World.ownsRow.alloc hO _⟩, (hs.frozen (p := ⟨u.heap.size, 0, none⟩) (by simp; omega)).trans h4, Nat.le_trans h7 hs.size, h8.trans (hs.mono (by omega))⟩
        case i4 =>
          rintro pre A k o o' hk hl ho ⟨⟨v, h2, hO⟩, h4, h7, h8⟩
          have hs : Below w1.heap.size A (A.putObj k o') := below_put hk
          exact ⟨⟨v, (hs.cell (p := ⟨u.heap.size, 0, none⟩) (by simp; omega)).trans h2, ownsRow_putObj hO o' hl ho⟩, (hs.frozen (p := ⟨u.heap.size, 0, none⟩) (by simp; omega)).trans h4, by simpa using h7, h8.trans (hs.mono (by omega))⟩
        case assign =>
          intro l x W K hK
          gi_wp2
          first | exact hK | (go_simp; exact hK) | (simp; exact hK)
        case body =>
          rintro l pre x W ⟨⟨v, h2, hO⟩, h4, h7, h8⟩ hask hlt
          have pl : pre.length < 1048577 := by
            have := hask.length_le
            simp at this
            omega
          have OO := Lib.hid hO
          have BW := Lib.hid h8
          have lt := ownFw_lt hO
          clear hq hask hO h8
          gi_wp2_with (gi_at_builtin; go_loud (refine wpListIn_append_own _ rfl _ _ 62 rfl (w1.heap.size + 2) 61 i0 (.string ByteArray.empty) 1 16 Tryd.underlying62 hi hz0 hz1 hz2 rfl (by decide) _ _ _ rfl (World.ownsRow.alloc OO.out _) ⟨W.heap.size, 0, none⟩ 1 1 [.string x] rfl rfl (one_newF _ _ (by simp) _ _) (fun x hx => by simp at hx; subst hx; rfl) (by unfold maxLen; omega) (by omega) (by simp; omega) ?_; intro v' w5 hown hgrow _; have P0 := ownFw_push hown; obtain ⟨av, cv, rfl, _⟩ := ownFw_in P0; have P := Lib.hid P0; clear P0; have G := Lib.hid (Below.grown ((Below.refl (w1.heap.size + 2) W).alloc (by omega) (.cells #[.string x] 61)) hgrow (by simp; omega) lt); have k5 := (G.out.cell (p := ⟨u.heap.size, 0, none⟩) (by simp; omega)).trans h2; have z5 := G.out.frozen (p := ⟨u.heap.size, 0, none⟩) (by simp; omega); rw [h4] at z5; clear hown hgrow))
          have hL : (pre ++ [x]).length = pre.length + 1 := by simp
          have PP : OwnFw (w1.heap.size + 2) (pre ++ [x]) (.slice av (pre.length + 1) cv) w5 := hL ▸ P.out
          have bk : ∀ k, k < w1.heap.size + 2 → k ≠ u.heap.size → (w5.setCell ⟨u.heap.size, 0, none⟩ (.slice av (pre.length + 1) cv)).heap[k]? = W.heap[k]? := fun k hk hne => (Below.heap_setCell _ _ _ _ (by simp; omega)).trans (G.out.block k hk)
          have gs := G.out.size
          refine ⟨⟨bk _ (by omega) (by omega), bk _ (by omega) (by omega)⟩, ⟨by simp [World.setCell]; omega, bk _ (by omega) (by omega), bk _ (by omega) (by omega), bk _ (by omega) (by omega)⟩, ⟨_, World.cell?_setCell_same' _ _ _ (by rw [k5]; rfl), ownsRow_setCell_below PP (by simp; omega) _⟩, by rw [World.frozen?_setCell]; exact z5, by simp [World.setCell]; omega, (BW.out.trans (G.out.mono (by omega))).setCell (p := ⟨u.heap.size, 0, none⟩) (by simp) _⟩
        case done =>
          rintro xs W rfl ⟨⟨v, h2, hO⟩, h4, h7, h8⟩ hK
          have OO := Lib.hid hO
          obtain ⟨av, cv, rfl, _⟩ := ownFw_in hO
          clear hO
          go_wp2
          refine ⟨by simp, .inl ⟨_, _, rfl, run_takeDeferred hK, ?_⟩⟩
          obtain ⟨av', cv', e', hI⟩ := ownFw_in (ownsRow_putObj OO.out (.deferred none) hK rfl : OwnFw _ _ _ _)
          injection e' with e1 _ e3
          subst e1; subst e3
          refine ⟨.slice av (pieces 32 b).length cv, by simp [results, Tryd.results45, go_sem], ?_⟩
          rw [FWE]
          exact ⟨_, _, rfl, hI, (BU.out.trans (h8.mono BU.out.size)).trans (below_put (by have := BU.out.size; omega))⟩
      · have f1 := beq_false_of_ne e1
        have f2 := beq_false_of_ne e2
        clear ha
        have V := Lib.hid fun W => splitSeq_any b 32 W
        have NL := pieces_len 32 b
        refine (callsIn_wide (n := 0)).1 (callsIn_of_wp_marks Tryd.func45 rfl trivial ?_ rfl)
        simp only [Tryd.ntmps45, List.size_toArray, List.length_cons, List.length_nil, Nat.reduceAdd, Nat.reduceSub, Array.replicate_succ, Array.replicate_zero, List.push_toArray, List.append_toArray, List.nil_append, List.cons_append]
        refine wpIn_wide.2 ?_
        go_wp2_with (first
          | (go_at_call 57; refine (CT.out _).mono ?_; rintro e u ⟨rfl, hB⟩; have BU := Lib.hid hB; clear hB)
          | (go_at_call 41; refine (V.out _).mono ?_; rintro e w1 ⟨rfl, hS, hB⟩; have SS := Lib.hid hS; have BB := Lib.hid hB; clear hS hB))
        have c0 : w1.cell? ⟨u.heap.size, 0, none⟩ = some (.slice none 0 0) := (BB.out.cell (p := ⟨u.heap.size, 0, none⟩) (by simp)).trans (by simp)
        have f0 : w1.frozen? ⟨u.heap.size, 0, none⟩ = false := (BB.out.frozen (p := ⟨u.heap.size, 0, none⟩) (by simp)).trans (by simp)
        have g0 : u.heap.size + 4 ≤ w1.heap.size := by have := SS.out.2.2.1; simp at this; omega
        have B0 : Below u.heap.size u w1 := (below_new (Below.refl _ _) _).trans (BB.out.mono (by simp))
        have hq := splitSeq_by _ _ _ b 32 (by unfold maxLen; omega) w1 SS.out
        simp only [World.size_alloc] at hq
        clear V CT SS BB
        refine wp_rangeO rfl (enters_of Tryd.func60 (by kernel_rfl) rfl) hq (fun _ => rfl) KpS.trans
          (fun A B hAB => ⟨hAB.size, hAB.block _ (by omega), hAB.block _ (by omega), hAB.block _ (by omega)⟩) (fun A B hAB k hk hk2 => hAB.block k (by omega) hk2)
          (fun pre W => (∃ v, W.cell? ⟨u.heap.size, 0, none⟩ = some v ∧ OwnFw (w1.heap.size + 2) pre v W) ∧ W.frozen? ⟨u.heap.size, 0, none⟩ = false ∧ w1.heap.size ≤ W.heap.size ∧ Below u.heap.size u W)
          (fun _ _ _ => False)
          ?i1 (fun _ _ _ _ h => h.elim) ?i3 ?i4 (fun _ _ _ _ _ _ _ _ _ h => h.elim) (fun _ _ _ => trivial) ⟨⟨_, c0, ownFw_nil _ _⟩, f0, Nat.le_refl _, B0⟩
          (fun x => { tmps := #[.string b, undef, .slice none 0 0, .string a, .string b, .bool true, .pointer (some ⟨u.heap.size, 0, none⟩), .string x, .tuple #[.string a, .string b, .bool true], .string s, .tuple #[.string a, .string b, .bool true], .string a, .string b, .bool true, .bool true, .bool true, .string a, .bool false, .bool false, .string a, .bool false, .bool false, .bool false, .string a, .bool true, .bool true, .bool true, .string b, .string b, .func (.func 60) #[] #[.pointer (some ⟨u.heap.size + 1 + 1, 0, none⟩), .pointer (some ⟨u.heap.size + 1, 0, none⟩), .pointer (some ⟨u.heap.size + 1 + 2, 0, none⟩)], .string x, undef, undef, undef, undef, undef], defers := [] }) ?assign ?body ?done (fun _ _ _ _ h => h.elim)
        case i1 =>
          rintro pre A B ⟨⟨v, h2, hO⟩, h4, h7, h8⟩ hs
          exact ⟨⟨v, (cell_same (hs.block _ (by omega) (by omega))).trans h2, ownFw_oth hO hs (by omega)⟩, (frozen_same (hs.block _ (by omega) (by omega))).trans h4, Nat.le_trans h7 hs.size, h8.trans (Below.mono (hs.below (by omega)) (by omega))⟩
        case i3 =>
          rintro pre A o hA ⟨⟨v, h2, hO⟩, h4, h7, h8⟩
          have hs := below_new (Below.refl A.heap.size A) o
          exact ⟨⟨v, (hs.cell (p := ⟨u.heap.size, 0, none⟩) (by simp; omega)).trans h2, World.ownsRow.alloc hO _⟩, (hs.frozen (p := ⟨u.heap.size, 0, none⟩) (by simp; omega)).trans h4, Nat.le_trans h7 hs.size, h8.trans (hs.mono (by omega))⟩
        case i4 =>
          rintro pre A k o o' hk hl ho ⟨⟨v, h2, hO⟩, h4, h7, h8⟩
          have hs : Below w1.heap.size A (A.putObj k o') := below_put hk
          exact ⟨⟨v, (hs.cell (p := ⟨u.heap.size, 0, none⟩) (by simp; omega)).trans h2, ownsRow_putObj hO o' hl ho⟩, (hs.frozen (p := ⟨u.heap.size, 0, none⟩) (by simp; omega)).trans h4, by simpa using h7, h8.trans (hs.mono (by omega))⟩
        case assign =>
          intro l x W K hK
          gi_wp2
          first | exact hK | (go_simp; exact hK) | (simp; exact hK)
        case body =>
          rintro l pre x W ⟨⟨v, h2, hO⟩, h4, h7, h8⟩ hask hlt
          have pl : pre.length < 1048577 := by
            have := hask.length_le
            simp at this
            omega
          have OO := Lib.hid hO
          have BW := Lib.hid h8
          have lt := ownFw_lt hO
          clear hq hask hO h8
          gi_wp2_with (gi_at_builtin; go_loud (refine wpListIn_append_own _ rfl _ _ 62 rfl (w1.heap.size + 2) 61 i0 (.string ByteArray.empty) 1 16 Tryd.underlying62 hi hz0 hz1 hz2 rfl (by decide) _ _ _ rfl (World.ownsRow.alloc OO.out _) ⟨W.heap.size, 0, none⟩ 1 1 [.string x] rfl rfl (one_newF _ _ (by simp) _ _) (fun x hx => by simp at hx; subst hx; rfl) (by unfold maxLen; omega) (by omega) (by simp; omega) ?_; intro v' w5 hown hgrow _; have P0 := ownFw_push hown; obtain ⟨av, cv, rfl, _⟩ := ownFw_in P0; have P := Lib.hid P0; clear P0; have G := Lib.hid (Below.grown ((Below.refl (w1.heap.size + 2) W).alloc (by omega) (.cells #[.string x] 61)) hgrow (by simp; omega) lt); have k5 := (G.out.cell (p := ⟨u.heap.size, 0, none⟩) (by simp; omega)).trans h2; have z5 := G.out.frozen (p := ⟨u.heap.size, 0, none⟩) (by simp; omega); rw [h4] at z5; clear hown hgrow))
          have hL : (pre ++ [x]).length = pre.length + 1 := by simp
          have PP : OwnFw (w1.heap.size + 2) (pre ++ [x]) (.slice av (pre.length + 1) cv) w5 := hL ▸ P.out
          have bk : ∀ k, k < w1.heap.size + 2 → k ≠ u.heap.size → (w5.setCell ⟨u.heap.size, 0, none⟩ (.slice av (pre.length + 1) cv)).heap[k]? = W.heap[k]? := fun k hk hne => (Below.heap_setCell _ _ _ _ (by simp; omega)).trans (G.out.block k hk)
          have gs := G.out.size
          refine ⟨⟨bk _ (by omega) (by omega), bk _ (by omega) (by omega)⟩, ⟨by simp [World.setCell]; omega, bk _ (by omega) (by omega), bk _ (by omega) (by omega), bk _ (by omega) (by omega)⟩, ⟨_, World.cell?_setCell_same' _ _ _ (by rw [k5]; rfl), ownsRow_setCell_below PP (by simp; omega) _⟩, by rw [World.frozen?_setCell]; exact z5, by simp [World.setCell]; omega, (BW.out.trans (G.out.mono (by omega))).setCell (p := ⟨u.heap.size, 0, none⟩) (by simp) _⟩
        case done =>
          rintro xs W rfl ⟨⟨v, h2, hO⟩, h4, h7, h8⟩ hK
          have OO := Lib.hid hO
          obtain ⟨av, cv, rfl, _⟩ := ownFw_in hO
          clear hO
          go_wp2
          refine ⟨by simp, .inl ⟨_, _, rfl, run_takeDeferred hK, ?_⟩⟩
          obtain ⟨av', cv', e', hI⟩ := ownFw_in (ownsRow_putObj OO.out (.deferred none) hK rfl : OwnFw _ _ _ _)
          injection e' with e1 _ e3
          subst e1; subst e3
          refine ⟨.slice av (pieces 32 b).length cv, by simp [results, Tryd.results45, go_sem], ?_⟩
          rw [FWE]
          exact ⟨_, _, rfl, hI, (BU.out.trans (h8.mono BU.out.size)).trans (below_put (by have := BU.out.size; omega))⟩
end Go.Proofs.YtnfhhckkealkpaaDoor
