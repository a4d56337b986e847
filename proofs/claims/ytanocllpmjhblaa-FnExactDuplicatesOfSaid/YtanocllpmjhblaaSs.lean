/- Rows of rows of numbers of the call's own: carried over, grown by one, compared, marked, looked at by the laws' functions. -/
import Derived.Test.YtanocllpmjhblaaOth
import Derived.Test.YtanocllpmjhblaaQuiet
import Derived.OneCell
import Derived.Deep.DeepCutAuto
import Derived.Below
namespace Go.Proofs.Ytanocllpmjhblaa
open Go.ChangeShapes Go.WideShapes Go.ChangeAt Go.RowKit

theorem ss_ne {w : World} {B C e f k l n m : Nat} {u v : Value} {xs ys : List Value} (h : w.ownsRow B e k v n xs) (g : w.ownsRow C f l u m ys) (hne : e ≠ f) : ∀ j, v.ownBlock = some j → u.ownBlock ≠ some j := by
  obtain ⟨_, h2⟩ := h
  obtain ⟨_, g2⟩ := g
  intro j hj hk
  rcases h2 with ⟨rfl, _⟩ | ⟨b, _, _, rfl, _, hb, _⟩
  · cases hj
  rcases g2 with ⟨rfl, _⟩ | ⟨b2, _, _, rfl, _, hb2, _⟩
  · cases hk
  cases hj
  cases hk
  have e2 := hb.symm.trans hb2
  injection e2 with e2
  injection e2 with _ e2 _
  exact hne e2
theorem ints_grown {w w' : World} {B : Nat} {v : Value} {r : Option Nat} {zs : List Int} (h : OwnInts B zs v w) (hg : w.grownBy w' r) (hne : ∀ j, v.ownBlock = some j → r ≠ some j) : OwnInts B zs v w' := by
  obtain ⟨h1, h2⟩ := h
  refine ⟨h1, ?_⟩
  rcases h2 with hn | ⟨b, cap, cur, rfl, hB, hb, rest⟩
  · exact .inl hn
  · exact .inr ⟨b, cap, cur, rfl, hB, (hg.block b (Array.getElem?_eq_some_iff.1 hb).1 (fun e => hne b rfl e.symm)).trans hb, rest⟩
theorem ints_weaken {B B' : Nat} {zs : List Int} {v : Value} {w : World} (h : OwnInts B zs v w) (hb : B' ≤ B) : OwnInts B' zs v w := by
  obtain ⟨h1, h2⟩ := h
  refine ⟨h1, ?_⟩
  rcases h2 with hn | ⟨g, cap, cur, rfl, hB, rest⟩
  · exact .inl hn
  · exact .inr ⟨g, cap, cur, rfl, Nat.le_trans hb hB, rest⟩
theorem ints_one {B : Nat} {zs : List Int} {v : Value} {w : World} (h : OwnInts B zs v w) : v.oneCell' = true := by
  obtain ⟨_, h2⟩ := h
  rcases h2 with ⟨rfl, _⟩ | ⟨g, cap, cur, rfl, _⟩ <;> rfl
/-- Do two slices lie in different blocks (or in none)? -/
def Ap (u v : Value) : Prop := u.ownBlock = none ∨ u.ownBlock ≠ v.ownBlock
/-- A row of rows of numbers: each in a block of its own. -/
def OwnSS (B : Nat) (gs : List (List Int)) (v : Value) (w : World) : Prop := ∃ xs : List Value, w.ownsRow B 56 1 v gs.length xs ∧ xs.length = gs.length ∧ (∀ i, i < gs.length → ∃ u, xs[i]? = some u ∧ OwnInts B (gs.getD i []) u w) ∧ ∀ (i j : Nat) (u u' : Value), i < j → xs[i]? = some u → xs[j]? = some u' → Ap u u' ∧ Ap u' u
theorem ownSS_nil (B : Nat) (w : World) : OwnSS B [] (.slice none 0 0) w := ⟨[], World.ownsRow_nil w B _ _, rfl, fun i h => absurd h (Nat.not_lt_zero _), fun (i j : Nat) (u u' : Value) _ (h : ([] : List Value)[i]? = some u) => by simp at h⟩
theorem ownSS_none {w : World} {n B : Nat} (hn : n = w.heap.size) (hB : B ≤ w.heap.size) : OwnSS B [] (.slice (some ⟨n, 0, none⟩) 0 0) (w.alloc (.cells #[] 56)) := by
  subst hn; exact ⟨[], World.ownsRow_made w #[] 0 hB (Nat.zero_le _) rfl, rfl, fun i h => absurd h (Nat.not_lt_zero _), fun (i j : Nat) (u u' : Value) _ (h : ([] : List Value)[i]? = some u) => by simp at h⟩
theorem OwnSS.kept {B : Nat} {gs : List (List Int)} {v : Value} {w w' : World} (h : OwnSS B gs v w) (hb : Below w.heap.size w w') : OwnSS B gs v w' := by
  obtain ⟨xs, h1, h2, h3, h4⟩ := h
  refine ⟨xs, ?_, h2, fun i hi => (h3 i hi).imp fun u hu => ⟨hu.1, ownInts_kept hu.2 hb⟩, h4⟩
  obtain ⟨a1, a2⟩ := h1
  refine ⟨a1, ?_⟩
  rcases a2 with hn | ⟨b, cap, cur, rfl, hB, hh, rest⟩
  · exact .inl hn
  · exact .inr ⟨b, cap, cur, rfl, hB, (hb.block b (Array.getElem?_eq_some_iff.1 hh).1).trans hh, rest⟩
theorem OwnSS.weaken {B B' : Nat} {gs : List (List Int)} {v : Value} {w : World} (h : OwnSS B gs v w) (hb : B' ≤ B) : OwnSS B' gs v w := by
  obtain ⟨xs, h1, h2, h3, h4⟩ := h
  refine ⟨xs, ?_, h2, fun i hi => (h3 i hi).imp fun u hu => ⟨hu.1, ints_weaken hu.2 hb⟩, h4⟩
  obtain ⟨a1, a2⟩ := h1
  refine ⟨a1, ?_⟩
  rcases a2 with hn | ⟨b, cap, cur, rfl, hB, rest⟩
  · exact .inl hn
  · exact .inr ⟨b, cap, cur, rfl, Nat.le_trans hb hB, rest⟩
/-- A row is pushed: what an append leaves. -/
theorem ownSS_push {B : Nat} {gs : List (List Int)} {zs : List Int} {v v' u : Value} {w w' : World} {xs : List Value} (hx : xs.length = gs.length) (h3 : ∀ i, i < gs.length → ∃ u, xs[i]? = some u ∧ OwnInts B (gs.getD i []) u w) (h4 : ∀ (i j : Nat) (u u' : Value), i < j → xs[i]? = some u → xs[j]? = some u' → Ap u u' ∧ Ap u' u)
    (hv : w.ownsRow B 56 1 v gs.length xs) (hu : OwnInts B zs u w) (hg : w.grownBy w' v.ownBlock) (hap : ∀ (i : Nat) (u' : Value), xs[i]? = some u' → Ap u u' ∧ Ap u' u) (ho : w'.ownsRow B 56 1 v' (gs.length + 1) (xs ++ [u])) : OwnSS B (gs ++ [zs]) v' w' := by
  have key : ∀ {ys : List Int} {x : Value}, OwnInts B ys x w → OwnInts B ys x w' := fun hy => ints_grown hy hg (fun j hj => ss_ne hy hv (by decide) j hj)
  refine ⟨xs ++ [u], by rw [List.length_append]; exact ho, by simp [hx], fun i hi => ?_, fun i j a b hij ha hb => ?_⟩
  · rw [List.length_append, List.length_singleton] at hi
    by_cases e : i < gs.length
    · obtain ⟨a, ha, hq⟩ := h3 i e
      refine ⟨a, by rw [List.getElem?_append_left (by omega)]; exact ha, ?_⟩
      rw [show (gs ++ [zs]).getD i [] = gs.getD i [] by simp [List.getD, List.getElem?_append_left e]]
      exact key hq
    · have : i = gs.length := by omega
      subst this
      refine ⟨u, by rw [List.getElem?_append_right (by omega), hx, Nat.sub_self]; rfl, ?_⟩
      rw [show (gs ++ [zs]).getD gs.length [] = zs by simp [List.getD]]
      exact key hu
  · have hi : i < xs.length + 1 := by have := (List.getElem?_eq_some_iff.1 ha).1; simpa using this
    have hj : j < xs.length + 1 := by have := (List.getElem?_eq_some_iff.1 hb).1; simpa using this
    have ia : xs[i]? = some a := by rwa [List.getElem?_append_left (by omega)] at ha
    by_cases e : j < xs.length
    · rw [List.getElem?_append_left e] at hb
      exact h4 i j a b hij ia hb
    · have : j = xs.length := by omega
      subst this
      rw [List.getElem?_append_right (Nat.le_refl _), Nat.sub_self] at hb
      cases hb
      exact ⟨(hap i a ia).2, (hap i a ia).1⟩
/-- Rows of numbers that lie in memory. -/
def SsIn (w : World) (a : Option Addr) (gs : List (List Int)) : Prop := ∀ i, i < gs.length → ∃ b off c n, a = some ⟨b, off, none⟩ ∧ b < w.heap.size ∧ w.cell? ⟨b, off + i, none⟩ = some (.slice c (gs.getD i []).length n) ∧ IntsIn w c (gs.getD i [])
theorem ssIn_below {w w' : World} {a : Option Addr} {gs : List (List Int)} (h : SsIn w a gs) (hb : Below w.heap.size w w') : SsIn w' a gs := fun i hi => by
  obtain ⟨b, off, c, n, ha, hlt, hc, hi⟩ := h i hi
  exact ⟨b, off, c, n, ha, Nat.lt_of_lt_of_le hlt hb.size, (hb.cell hlt).trans hc, intsIn_below hi hb⟩
theorem OwnSS.in {B : Nat} {gs : List (List Int)} {v : Value} {w : World} (h : OwnSS B gs v w) : ∃ a c, v = .slice a gs.length c ∧ SsIn w a gs := by
  obtain ⟨xs, h1, h2, h3, _⟩ := h
  have h0 := h1
  obtain ⟨_, a2⟩ := h1
  rcases a2 with ⟨rfl, hn⟩ | ⟨g, cap, cur, rfl, hb, hg, _⟩
  · exact ⟨none, 0, by rw [hn], fun i hi => by omega⟩
  · refine ⟨_, cap, rfl, fun i hi => ?_⟩
    obtain ⟨u, hu, ho⟩ := h3 i hi
    obtain ⟨c, n, rfl, hin⟩ := ownInts_in ho
    exact ⟨g, 0, c, n, rfl, (Array.getElem?_eq_some_iff.1 hg).1, by rw [Nat.zero_add, World.ownsRow.cellAt h0 _ (by omega)]; exact hu, hin⟩

set_option maxHeartbeats 1600000 in
theorem eqSS_same (a b : Option Addr) (gs : List (List Int)) (c d : Nat) (w : World) (ha : SsIn w a gs) (hb : SsIn w b gs) (hl : gs.length ≤ 1048576) (hm : ∀ i, i < gs.length → (gs.getD i []).length ≤ 1048576) :
    Calls Try.prog 23 #[.slice a gs.length c, .slice b gs.length d] w fun e w' => e = .returned (.bool true) ∧ Below w.heap.size w w' := by
  have A := Lib.hid ha
  have B := Lib.hid hb
  have M := Lib.hid hm
  clear ha hb hm
  go_enter Try.func23, Try.ntmps23
  go_wp2
  go_loopw [5] (fun i wr => ∃ k : Nat, k ≤ gs.length ∧ i = .int .i64 k ∧ Below w.heap.size w wr) (fun i _ => gs.length - (intOf i).toNat)
  case atStart => exact ⟨0, Nat.zero_le _, rfl, Below.refl _ _⟩
  case round =>
    obtain ⟨k, hk, rfl, hB2⟩ := hrel
    have B3 := Lib.hid hB2
    by_cases hkl : k < gs.length
    · obtain ⟨b1, o1, a1, n1, rfl, h1, p0, p1⟩ := A.out k hkl
      obtain ⟨b2, o2, a2, n2, rfl, h2, q0, q1⟩ := B.out k hkl
      have g0 := (hB2.cell (p := ⟨b1, o1 + k, none⟩) h1).trans p0
      have g2 := (hB2.cell (p := ⟨b2, o2 + k, none⟩) h2).trans q0
      have l1 : b1 < wr.heap.size := Nat.lt_of_lt_of_le h1 hB2.size
      have l2 : b2 < wr.heap.size := Nat.lt_of_lt_of_le h2 hB2.size
      have hd : decide ((k : Int) < (gs.length : Int)) = true := by simpa using hkl
      have i1 : (0 : Int) ≤ (k : Int) := by omega
      have i2 : (k : Int) < (gs.length : Int) := by omega
      have I1 := Lib.hid (intsIn_below p1 hB2)
      have I2 := Lib.hid (intsIn_below q1 hB2)
      have LL := Lib.hid (M.out k hkl)
      clear hB2 p0 p1 q0 q1
      generalize gs.getD k [] = zs at *
      have E := Lib.hid fun W (hb : Below wr.heap.size wr W) => eqInts_same a1 a2 zs n1 n2 W (intsIn_below I1.out hb) (intsIn_below I2.out hb) (Nat.le_trans LL.out (by omega))
      have hbw := cell_bw
      go_upto_region 6 with fail
      refine region_bw (by kernel_rfl) (by kernel_rfl) ?_
      repeat (go_big_quiet_step (first | (go_at_call 63; refine calls_bw (E.out _ ?_); exact below_bw _ _)))
      refine wpQuiet_nil ?_; intro wq hq
      have hq := Lib.hid (below_of_bw hq)
      clear hbw
      go_wp2
      go_roundw
      case rel => exact ⟨k + 1, hkl, by go_num, B3.out.trans (Below.mono hq.out B3.out.size)⟩
      case measure => simp [intOf]; omega
    · have e : k = gs.length := by omega
      subst e
      clear hB2
      go_wp2
      go_ret
      exact ⟨rfl, B3.out⟩

/-! ### Marks -/
/-- Nothing lies otherwise but the slice's own block. -/
structure OthV (v : Value) (w w' : World) : Prop where
  size : w'.heap.size = w.heap.size
  block : ∀ j, v.ownBlock ≠ some j → w'.heap[j]? = w.heap[j]?
set_option maxHeartbeats 1600000 in
theorem markIntsV_any (B : Nat) (zs : List Int) (v : Value) (k : Int) (w : World) (h : OwnInts B zs v w) (hn : zs.length ≤ 1048576) (k0 : 0 ≤ k) (k1 : k ≤ 1000000) :
    Calls Try.prog 65 #[v, .int .i64 k] w fun e w' => e = .returned (.int .i64 (k + (zs.length : Int))) ∧ OwnInts B (marks k zs.length) v w' ∧ Below B w w' ∧ OthV v w w' := by
  obtain ⟨h1, h2⟩ := h
  rcases h2 with ⟨rfl, hz⟩ | ⟨g, cap, cur, rfl, hb, hg, hcap, hmax, hsz, htk⟩
  · have e : zs = [] := List.length_eq_zero_iff.1 hz
    subst e
    go_enter Try.func65, Try.ntmps65
    go_wp2
    refine wp_loop_rounds 1 ?_
    rw [rounds_succ]; go_wp2
    go_ret
    exact ⟨by simp, ⟨by simp [marks], .inl ⟨rfl, by simp [marks]⟩⟩, Below.refl _ _, ⟨rfl, fun _ _ => rfl⟩⟩
  · have O : w.ownsRow B 2 1 (.slice (some ⟨g, 0, none⟩) zs.length cap) zs.length ((markTo zs k 0).map (Value.int .i64)) := by
      rw [markTo_zero]; exact ⟨h1, .inr ⟨g, cap, cur, rfl, hb, hg, hcap, hmax, hsz, htk⟩⟩
    have hgB := Lib.hid hb
    clear h1 hg hcap hsz htk hmax cur
    go_enter Try.func65, Try.ntmps65
    go_wp2
    go_loopw [1, 5] (fun q i wr => ∃ j : Nat, j ≤ zs.length ∧ i = .int .i64 j ∧ q = .int .i64 (k + (j : Int)) ∧ wr.ownsRow B 2 1 (.slice (some ⟨g, 0, none⟩) zs.length cap) zs.length ((markTo zs k j).map (Value.int .i64)) ∧ Below B w wr ∧ OthV (.slice (some ⟨g, 0, none⟩) zs.length cap) w wr) (fun _ i _ => zs.length - (intOf i).toNat)
    case atStart => exact ⟨0, Nat.zero_le _, rfl, by simp, O, Below.refl _ _, ⟨rfl, fun _ _ => rfl⟩⟩
    case round =>
      obtain ⟨j, hj, rfl, rfl, O2, hB2, hO2⟩ := hrel
      clear O
      have O3 := Lib.hid O2
      have B3 := Lib.hid hB2
      have T3 := Lib.hid hO2
      by_cases hkl : j < zs.length
      · have hd : decide ((j : Int) < (zs.length : Int)) = true := by simpa using hkl
        have v1 : IntKind.i64.wrap (k + (j : Int)) = k + (j : Int) := IntWalk.i64_in _ (by omega)
        have v2 : IntKind.i64.wrap (k + (j : Int) + 1) = k + (j : Int) + 1 := IntWalk.i64_in _ (by omega)
        have hdst := O2.cellAt j (by omega)
        rw [List.getElem?_map, List.getElem?_eq_getElem (by rw [markTo_len]; exact hkl)] at hdst
        simp only [Option.map_some] at hdst
        generalize (markTo zs k j)[j]'(by rw [markTo_len]; exact hkl) = old at hdst
        have hfz := O2.frozenAt j
        clear O2 hB2 hO2
        go_wp2
        have hs := O3.out.stored j (.int .i64 (k + (j : Int)))
        rw [markTo_next zs k j hkl] at hs
        refine ⟨⟨j + 1, hkl, by rw [Int.natCast_succ], by rw [Int.natCast_succ, Int.add_assoc], hs.1, B3.out.setCell hgB.out _, ⟨by rw [World.size_setCell]; exact T3.out.size, fun i hi => (Below.heap_setCell _ _ _ _ (fun e => hi (by subst e; rfl))).trans (T3.out.block i hi)⟩⟩, by simp [intOf]; omega⟩
      · have e : j = zs.length := by omega
        subst e
        clear O2 hB2 hO2
        go_wp2
        go_ret
        have o := O3.out
        rw [markTo_all] at o
        exact ⟨rfl, by unfold OwnInts; rw [marks_len]; exact o, B3.out, T3.out⟩
/-- The first j rows marked from k on, the others as they were. -/
def mkSS (k : Nat) (gs : List (List Int)) : Nat → Nat × List (List Int)
  | 0 => (k, gs)
  | j + 1 => ((mkSS k gs j).1 + (gs.getD j []).length, (mkSS k gs j).2.set j (marks ((mkSS k gs j).1 : Int) (gs.getD j []).length))
theorem mkSS_len (k : Nat) (gs : List (List Int)) : ∀ j, (mkSS k gs j).2.length = gs.length
  | 0 => rfl
  | j + 1 => by show ((mkSS k gs j).2.set _ _).length = _; rw [List.length_set]; exact mkSS_len k gs j
theorem mkSS_old (k : Nat) (gs : List (List Int)) : ∀ j i, j ≤ i → (mkSS k gs j).2.getD i [] = gs.getD i []
  | 0, _, _ => rfl
  | j + 1, i, h => by
    show ((mkSS k gs j).2.set _ _).getD i [] = _
    rw [List.getD, List.getElem?_set, if_neg (by omega)]
    exact mkSS_old k gs j i (by omega)
theorem mkSS_new (k : Nat) (gs : List (List Int)) : ∀ j i, i < j → j ≤ gs.length → (mkSS k gs j).2.getD i [] = marks ((mkSS k gs i).1 : Int) (gs.getD i []).length
  | 0, _, h, _ => absurd h (Nat.not_lt_zero _)
  | j + 1, i, h, hj => by
    show ((mkSS k gs j).2.set _ _).getD i [] = _
    rw [List.getD, List.getElem?_set]
    by_cases e : j = i
    · subst e; rw [if_pos rfl, if_pos (by rw [mkSS_len]; omega)]; rfl
    · rw [if_neg e]; exact mkSS_new k gs j i (by omega) (by omega)
theorem mkSS_mono (k : Nat) (gs : List (List Int)) (i : Nat) : ∀ d, (mkSS k gs i).1 ≤ (mkSS k gs (i + d)).1
  | 0 => Nat.le_refl _
  | d + 1 => Nat.le_trans (mkSS_mono k gs i d) (Nat.le_add_right _ _)
theorem set_row {xs : List Value} {B : Nat} {gs gs' : List (List Int)} {u0 : Value} {j : Nat} {w w' : World} (hx : xs.length = gs.length) (hl : gs'.length = gs.length) (h3 : ∀ i, i < gs.length → ∃ u, xs[i]? = some u ∧ OwnInts B (gs.getD i []) u w) (h4 : ∀ (i j : Nat) (u u' : Value), i < j → xs[i]? = some u → xs[j]? = some u' → Ap u u' ∧ Ap u' u)
    (hu : xs[j]? = some u0) (ho : OthV u0 w w') (hn : OwnInts B (gs'.getD j []) u0 w') (hsame : ∀ i, i ≠ j → gs'.getD i [] = gs.getD i []) : ∀ i, i < gs'.length → ∃ u, xs[i]? = some u ∧ OwnInts B (gs'.getD i []) u w' := fun i hi => by
  by_cases e : i = j
  · subst e; exact ⟨u0, hu, hn⟩
  · obtain ⟨u, h1, h2⟩ := h3 i (by omega)
    refine ⟨u, h1, ?_⟩
    rw [hsame i e]
    have ap : Ap u u0 := by
      rcases Nat.lt_or_gt_of_ne e with h | h
      · exact (h4 i j u u0 h h1 hu).1
      · exact (h4 j i u0 u h hu h1).2
    obtain ⟨a1, a2⟩ := h2
    refine ⟨a1, ?_⟩
    rcases a2 with hn | ⟨b, cap, cur, rfl, hB, hh, rest⟩
    · exact .inl hn
    · refine .inr ⟨b, cap, cur, rfl, hB, (ho.block b (fun e1 => ?_)).trans hh, rest⟩
      rcases ap with ap | ap
      · cases ap
      · exact ap (by rw [e1]; rfl)

/-- Total length. -/
def totSS (gs : List (List Int)) : Nat := (mkSS 0 gs gs.length).1
theorem mkSS_add (k : Nat) (gs : List (List Int)) : ∀ j, (mkSS k gs j).1 = k + (mkSS 0 gs j).1
  | 0 => rfl
  | j + 1 => by
    show (mkSS k gs j).1 + _ = k + ((mkSS 0 gs j).1 + _)
    rw [mkSS_add k gs j]; omega
theorem mkSS_le (k : Nat) (gs : List (List Int)) {j : Nat} (h : j ≤ gs.length) : (mkSS k gs j).1 ≤ k + totSS gs := by
  have := mkSS_mono 0 gs j (gs.length - j)
  rw [show j + (gs.length - j) = gs.length by omega] at this
  rw [mkSS_add]; unfold totSS; omega

set_option maxHeartbeats 1600000 in
theorem markSS_any (B : Nat) (gs : List (List Int)) (v : Value) (k : Nat) (w : World) (h : OwnSS B gs v w) (hl : gs.length ≤ 1048576) (hm : ∀ i, i < gs.length → (gs.getD i []).length ≤ 1048576) (hk : k + totSS gs ≤ 1000000) :
    Calls Try.prog 26 #[v, .int .i64 (k : Int)] w fun e w' => e = .returned (.int .i64 ((k + totSS gs : Nat) : Int)) ∧ OwnSS B (mkSS k gs gs.length).2 v w' ∧ Below B w w' := by
  have H := Lib.hid h
  have M := Lib.hid hm
  obtain ⟨a, c, rfl, _⟩ := h.in
  clear h hm
  go_enter Try.func26, Try.ntmps26
  go_wp2
  go_loopw [1, 5] (fun q i wr => ∃ j : Nat, j ≤ gs.length ∧ i = .int .i64 j ∧ q = .int .i64 ((mkSS k gs j).1 : Int) ∧ OwnSS B (mkSS k gs j).2 (.slice a gs.length c) wr ∧ Below B w wr) (fun _ i _ => gs.length - (intOf i).toNat)
  case atStart => exact ⟨0, Nat.zero_le _, rfl, rfl, H.out, Below.refl _ _⟩
  case round =>
    obtain ⟨j, hj, rfl, rfl, O, hB⟩ := hrel
    have OO := Lib.hid O
    have BB := Lib.hid hB
    have LE := Lib.hid (mkSS_le k gs hj)
    by_cases hkl : j < gs.length
    · have hd : decide ((j : Int) < (gs.length : Int)) = true := by simpa using hkl
      have LN := mkSS_len k gs j
      obtain ⟨xs, x1, x2, x3, x4⟩ := O
      obtain ⟨u, hu, hO⟩ := x3 j (by omega)
      rw [mkSS_old k gs j j (Nat.le_refl _)] at hO
      obtain ⟨au, cu, rfl, _⟩ := ownInts_in hO
      have hx := x1
      obtain ⟨_, hx2⟩ := hx
      rcases hx2 with ⟨hn, hz⟩ | ⟨g, cap, cur, hv, hgB, hg, _⟩
      · rw [LN] at hz; omega
      injection hv with ha hv2 hv3
      clear hv2 hv3
      subst ha
      have x1' := x1
      rw [LN] at x1'
      have cell := World.ownsRow.cellAt x1' j (by omega)
      rw [hu] at cell
      clear x1'
      have gl := (Array.getElem?_eq_some_iff.1 hg).1
      have MK := Lib.hid (markIntsV_any B (gs.getD j []) (.slice au (gs.getD j []).length cu) ((mkSS k gs j).1 : Int) wr hO (M.out j hkl) (by omega) (by have := LE.out; omega))
      have NX : ∀ W, OthV (.slice au (gs.getD j []).length cu) wr W → OwnInts B (marks ((mkSS k gs j).1 : Int) (gs.getD j []).length) (.slice au (gs.getD j []).length cu) W → OwnSS B (mkSS k gs (j + 1)).2 (.slice (some ⟨g, 0, none⟩) gs.length c) W := fun W ho hn => by
        have e1 : (mkSS k gs (j + 1)).2.getD j [] = marks ((mkSS k gs j).1 : Int) (gs.getD j []).length := mkSS_new k gs (j + 1) j (Nat.lt_succ_self j) hkl
        refine ⟨xs, ?_, by rw [mkSS_len]; omega, set_row (gs := (mkSS k gs j).2) (gs' := (mkSS k gs (j + 1)).2) x2 (by rw [mkSS_len, mkSS_len]) x3 x4 hu ho (by rw [e1]; exact hn) (fun i hi => ?_), x4⟩
        · rw [mkSS_len]
          rw [LN] at x1
          obtain ⟨a1, a2⟩ := x1
          refine ⟨a1, ?_⟩
          rcases a2 with hn2 | ⟨b, cap2, cur2, hv2, hB2, hh, rest⟩
          · exact .inl hn2
          · injection hv2 with hb2 _ hc2
            injection hb2 with hb2
            injection hb2 with hb2
            subst hb2
            subst hc2
            have x9 : wr.ownsRow B 56 1 (.slice (some ⟨g, 0, none⟩) gs.length c) gs.length xs := ⟨a1, .inr ⟨g, c, cur2, rfl, hB2, hh, rest⟩⟩
            refine .inr ⟨g, c, cur2, rfl, hB2, (ho.block g (fun e1 => ss_ne x9 hO (by decide) g rfl e1)).trans hh, rest⟩
        · show ((mkSS k gs j).2.set j _).getD i [] = _
          rw [List.getD, List.getElem?_set, if_neg (Ne.symm hi)]
          rfl
      have NX := Lib.hid NX
      have i1 : (0 : Int) ≤ (j : Int) := by omega
      have i2 : (j : Int) < (gs.length : Int) := by omega
      have S1 := Lib.hid (show ((mkSS k gs (j + 1)).1 : Int) = ((mkSS k gs j).1 : Int) + ((gs.getD j []).length : Int) from by show (((mkSS k gs j).1 + (gs.getD j []).length : Nat) : Int) = _; rw [Int.natCast_add])
      clear x1 x2 x3 x4 hu hO hg hB hgB LN
      generalize (gs.getD j []).length = n at *
      generalize ((mkSS k gs j).1 : Int) = q at *
      go_wp2_with (go_at_call 65; refine MK.out.mono ?_; rintro e w2 ⟨rfl, hO2, hB2, hT2⟩; have O2 := Lib.hid (NX.out _ hT2 hO2); have B2 := Lib.hid (BB.out.trans hB2); clear hO2 hB2 hT2)
      exact ⟨⟨j + 1, hkl, by rw [Int.natCast_succ], by rw [S1.out], O2.out, B2.out⟩, by (simp [intOf]) <;> omega⟩
    · have e : j = gs.length := by omega
      subst e
      have hd : decide ((gs.length : Int) < (gs.length : Int)) = false := by simp
      have E := Lib.hid (mkSS_add k gs gs.length)
      clear O hB
      go_wp2
      go_ret
      exact ⟨by rw [E.out]; rfl, OO.out, BB.out⟩

set_option maxHeartbeats 1600000 in
theorem heldSS_any (a : Option Addr) (gs : List (List Int)) (k : Nat) (c n : Nat) (hn : n = gs.length) (w : World) (h : SsIn w a (mkSS k gs gs.length).2) (hl : gs.length ≤ 1048576) (hm : ∀ i, i < gs.length → (gs.getD i []).length ≤ 1048576) (hk : k + totSS gs ≤ 1000000) :
    Calls Try.prog 27 #[.slice a n c, .int .i64 (k : Int)] w fun e w' => e = .returned (.int .i64 ((k + totSS gs : Nat) : Int)) ∧ w = w' := by
  subst hn
  have H := Lib.hid h
  have M := Lib.hid hm
  clear h hm
  go_enter Try.func27, Try.ntmps27
  go_wp2
  go_loop [1, 5] (fun q i => ∃ j : Nat, j ≤ gs.length ∧ i = .int .i64 j ∧ q = .int .i64 ((mkSS k gs j).1 : Int)) (fun _ i => gs.length - (intOf i).toNat)
  case atStart => exact ⟨0, Nat.zero_le _, rfl, rfl⟩
  case round =>
    obtain ⟨j, hj, rfl, rfl⟩ := hrel
    have LE := Lib.hid (mkSS_le k gs hj)
    by_cases hkl : j < gs.length
    · have hd : decide ((j : Int) < (gs.length : Int)) = true := by simpa using hkl
      obtain ⟨b, off, c1, n1, rfl, hb, hc, hi⟩ := H.out j (by rw [mkSS_len]; exact hkl)
      rw [mkSS_new k gs gs.length j hkl (Nat.le_refl _)] at hc hi
      rw [marks_len] at hc
      have HE := Lib.hid (heldInts_any c1 ((mkSS k gs j).1 : Int) (gs.getD j []).length n1 w hi (Nat.le_trans (M.out j hkl) (by omega)) (by omega) (by have := LE.out; omega))
      have i1 : (0 : Int) ≤ (j : Int) := by omega
      have i2 : (j : Int) < (gs.length : Int) := by omega
      have S1 := Lib.hid (show ((mkSS k gs (j + 1)).1 : Int) = ((mkSS k gs j).1 : Int) + ((gs.getD j []).length : Int) from by show (((mkSS k gs j).1 + (gs.getD j []).length : Nat) : Int) = _; rw [Int.natCast_add])
      have ng : decide (((mkSS k gs j).1 : Int) + ((gs.getD j []).length : Int) < 0) = false := decide_eq_false (by omega)
      clear hi
      generalize (gs.getD j []).length = n at *
      generalize ((mkSS k gs j).1 : Int) = q at *
      go_wp2_with (go_at_call 66; refine HE.out.mono ?_; rintro e w2 ⟨rfl, rfl⟩)
      exact ⟨⟨j + 1, hkl, by rw [Int.natCast_succ], by rw [S1.out]⟩, by (simp [intOf]) <;> omega⟩
    · have e : j = gs.length := by omega
      subst e
      have hd : decide ((gs.length : Int) < (gs.length : Int)) = false := by simp
      have E := Lib.hid (mkSS_add k gs gs.length)
      go_wp2
      go_ret
      exact ⟨by rw [E.out]; rfl, rfl⟩
end Go.Proofs.Ytanocllpmjhblaa
