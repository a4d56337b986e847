/- Tables: what is wrong with cards, by the program's errors and by the model's code; the tallies of holes; the idle holes. -/
import Derived.Test.YtanocllpmjhblaaDoorTbC
import Derived.Test.YtanocllpmjhblaaDoorErIs
namespace Go.Proofs.YtanocllpmjhblaaDoor
open Go.ChangeShapes Go.WideShapes Go.ChangeAt Go.RowKit

/-- The code of cards. -/
def cdC (cs : List Cd) : Int := if csOk cs then (if cs.length ≤ 60 then 0 else 2) else 1
theorem cdC_bad {cs : List Cd} (h : csOk cs = false) : cdC cs = 1 := by unfold cdC; rw [h]; rfl
theorem cdC_long {cs : List Cd} (h : csOk cs = true) (hl : ¬ cs.length ≤ 60) : cdC cs = 2 := by unfold cdC; rw [h, if_pos rfl, if_neg hl]
theorem cdC_ok {cs : List Cd} (h : csOk cs = true) (hl : cs.length ≤ 60) : cdC cs = 0 := by unfold cdC; rw [h, if_pos rfl, if_pos hl]
/-- The three sentinels, and where they lie. -/
structure Sen (w : World) (a0 a1 a2 : Addr) : Prop where
  g0 : w.cell? ⟨0, 0, none⟩ = some (.iface 182 (.pointer (some a0)))
  g1 : w.cell? ⟨1, 0, none⟩ = some (.iface 182 (.pointer (some a1)))
  g2 : w.cell? ⟨2, 0, none⟩ = some (.iface 182 (.pointer (some a2)))
  b0 : ∃ c t, w.heap[a0.block]? = some (.cells c t (0, 0))
  b1 : ∃ c t, w.heap[a1.block]? = some (.cells c t (0, 0))
  b2 : ∃ c t, w.heap[a2.block]? = some (.cells c t (0, 0))
  n01 : a0 ≠ a1
  n02 : a0 ≠ a2
  n12 : a1 ≠ a2
theorem Sen.below {w w2 : World} {a0 a1 a2 : Addr} (h : Sen w a0 a1 a2) (hb : Below w.heap.size w w2) : Sen w2 a0 a1 a2 := by
  have k : ∀ {a : Addr}, (∃ c t, w.heap[a.block]? = some (.cells c t (0, 0))) → ∃ c t, w2.heap[a.block]? = some (.cells c t (0, 0)) := by
    rintro a ⟨c, t, hc⟩
    exact ⟨c, t, (hb.block _ (Array.getElem?_eq_some_iff.1 hc).1).trans hc⟩
  exact ⟨(hb.cell (World.block_lt_of_cell? _ _ h.g0)).trans h.g0, (hb.cell (World.block_lt_of_cell? _ _ h.g1)).trans h.g1, (hb.cell (World.block_lt_of_cell? _ _ h.g2)).trans h.g2, k h.b0, k h.b1, k h.b2, h.n01, h.n02, h.n12⟩
/-- What the program says is wrong. -/
def eV (a0 a1 : Addr) (c : Int) : Value := if c = 0 then .nilIface else if c = 1 then .iface 182 (.pointer (some a0)) else .iface 182 (.pointer (some a1))

set_option maxHeartbeats 1600000 in
theorem iCheckTable_any (a0 a1 a2 : Addr) (ad : Option Addr) (cs : List Cd) (c : Nat) (w : World) (hS : Sen w a0 a1 a2) (hc : CardsIn w ad cs) (hl : cs.length ≤ 9223372036854775807) :
    Calls Tryd.prog 35 #[.slice ad cs.length c] w fun e w' => e = .returned (eV a0 a1 (cdC cs)) ∧ Below w.heap.size w w' := by
  have A := Lib.hid (iAreCards_any ad cs c w hc hl)
  have SS := Lib.hid hS
  clear hc hS
  cases h0 : csOk cs
  · rw [h0] at A
    rw [cdC_bad h0]
    clear h0
    go_enter Tryd.func35, Tryd.ntmps35
    go_wp2_with (go_at_call 63; refine A.out.mono ?_; rintro e w1 ⟨rfl, hB⟩; have B := Lib.hid hB; have g0 := (SS.out.below hB).g0; clear hB)
    go_ret
    exact ⟨rfl, B.out⟩
  · rw [h0] at A
    by_cases h1 : cs.length ≤ 60
    · rw [cdC_ok h0 h1]
      clear h0
      have hd : decide ((60 : Int) < (cs.length : Int)) = false := by simp; omega
      go_enter Tryd.func35, Tryd.ntmps35
      go_wp2_with (go_at_call 63; refine A.out.mono ?_; rintro e w1 ⟨rfl, hB⟩; have B := Lib.hid hB; clear hB)
      go_ret
      exact ⟨rfl, B.out⟩
    · rw [cdC_long h0 h1]
      clear h0
      have hd : decide ((60 : Int) < (cs.length : Int)) = true := by simp; omega
      go_enter Tryd.func35, Tryd.ntmps35
      go_wp2_with (go_at_call 63; refine A.out.mono ?_; rintro e w1 ⟨rfl, hB⟩; have B := Lib.hid hB; have g1 := (SS.out.below hB).g1; clear hB)
      go_ret
      exact ⟨rfl, B.out⟩

set_option maxHeartbeats 1600000 in
theorem iCode_1 (a0 a1 a2 : Addr) (w : World) (hS : Sen w a0 a1 a2) :
    Calls Tryd.prog 36 #[.iface 182 (.pointer (some a0))] w fun e w' => e = .returned (.int .i64 1) ∧ w = w' := by
  obtain ⟨g0, g1, g2, b0, b1, b2, n01, n02, n12⟩ := hS
  go_enter Tryd.func36, Tryd.ntmps36
  go_wp2_with (go_at_call 64; refine (is_same _ _).mono ?_; rintro e w1 ⟨rfl, rfl⟩)
  go_ret
  exact ⟨rfl, rfl⟩
set_option maxHeartbeats 1600000 in
theorem iCode_2 (a0 a1 a2 : Addr) (w : World) (hS : Sen w a0 a1 a2) :
    Calls Tryd.prog 36 #[.iface 182 (.pointer (some a1))] w fun e w' => e = .returned (.int .i64 2) ∧ w = w' := by
  obtain ⟨g0, g1, g2, ⟨c0, t0, b0⟩, ⟨c1, t1, b1⟩, b2, n01, n02, n12⟩ := hS
  have tk : True := trivial
  go_enter Tryd.func36, Tryd.ntmps36
  go_wp2_with (first
    | (go_at_call 64; have _t := tk; clear _t tk; refine (is_other a1 a0 c1 c0 t1 t0 w (Ne.symm n01) b1 b0).mono ?_; rintro e w1 ⟨rfl, rfl⟩)
    | (go_at_call 64; refine (is_same _ _).mono ?_; rintro e w1 ⟨rfl, rfl⟩))
  go_ret
  exact ⟨rfl, rfl⟩

set_option maxHeartbeats 1600000 in
theorem sScheme_nil (a : Option Addr) (w : World) :
    Calls Tryd.prog 91 #[.slice a 0 0] w fun e w' => e = .returned (.bool true) ∧ Below w.heap.size w w' := by
  go_enter Tryd.func91, Tryd.ntmps91
  go_wp2
  refine wp_loop_rounds 1 ?_
  rw [rounds_succ]; go_wp2
  go_returns
  exact ⟨rfl, (by repeat' (first | (with_reducible exact Below.refl _ _) | (with_reducible assumption) | (with_reducible refine below_drewN ?_ _) | (with_reducible refine Below.drew ?_) | (with_reducible refine below_new ?_ _) | (with_reducible refine below_next ?_ (by with_reducible assumption)) | (with_reducible refine Below.setCell ?_ ?_ _) | go_size))⟩
set_option maxHeartbeats 1600000 in
theorem sDeckC_any (ad : Option Addr) (cs : List Cd) (c : Nat) (w : World) (hc : CardsIn w ad cs) (hl : cs.length ≤ 9223372036854775807) :
    Calls Tryd.prog 42 #[.slice ad cs.length c] w fun e w' => e = .returned (.int .i64 (cdC cs)) ∧ Below w.heap.size w w' := by
  have key : ∀ (x : Option Addr) (W : World), CardsIn W ad cs → Calls Tryd.prog 67 #[.slice x 0 0, .slice ad cs.length c] W fun e w' => e = .returned (.int .i64 (cdC cs)) ∧ Below W.heap.size W w' := by
    intro x W hW
    have A := Lib.hid fun (W2 : World) (hb : Below W.heap.size W W2) => sCards_any ad cs c W2 (cardsIn_below hW hb) hl
    clear hW hc
    cases h0 : csOk cs
    · rw [h0] at A
      rw [cdC_bad h0]
      clear h0
      go_enter Tryd.func67, Tryd.ntmps67
      go_wp2_with (first | (go_at_call 91; refine (sScheme_nil _ _).mono ?_; rintro e w1 ⟨rfl, hB⟩; have B1 := Lib.hid hB; clear hB) | (go_at_call 92; refine (A.out _ B1.out).mono ?_; rintro e w2 ⟨rfl, hB⟩; have B2 := Lib.hid (B1.out.trans (Below.mono hB B1.out.size)); clear hB))
      go_ret
      exact ⟨rfl, B2.out⟩
    · rw [h0] at A
      by_cases h1 : cs.length ≤ 60
      · rw [cdC_ok h0 h1]
        clear h0
        have hd : decide ((60 : Int) < (cs.length : Int)) = false := by simp; omega
        go_enter Tryd.func67, Tryd.ntmps67
        go_wp2_with (first | (go_at_call 91; refine (sScheme_nil _ _).mono ?_; rintro e w1 ⟨rfl, hB⟩; have B1 := Lib.hid hB; clear hB) | (go_at_call 92; refine (A.out _ B1.out).mono ?_; rintro e w2 ⟨rfl, hB⟩; have B2 := Lib.hid (B1.out.trans (Below.mono hB B1.out.size)); clear hB))
        go_ret
        exact ⟨rfl, B2.out⟩
      · rw [cdC_long h0 h1]
        clear h0
        have hd : decide ((60 : Int) < (cs.length : Int)) = true := by simp; omega
        go_enter Tryd.func67, Tryd.ntmps67
        go_wp2_with (first | (go_at_call 91; refine (sScheme_nil _ _).mono ?_; rintro e w1 ⟨rfl, hB⟩; have B1 := Lib.hid hB; clear hB) | (go_at_call 92; refine (A.out _ B1.out).mono ?_; rintro e w2 ⟨rfl, hB⟩; have B2 := Lib.hid (B1.out.trans (Below.mono hB B1.out.size)); clear hB))
        go_ret
        exact ⟨rfl, B2.out⟩
  have B0 := Lib.hid (ab_new w (.cells #[] 174))
  have K := Lib.hid key
  have HC := Lib.hid hc
  clear key hc
  go_enter Tryd.func42, Tryd.ntmps42
  go_wp2_with (go_at_call 67; refine (K.out _ _ (cardsIn_below HC.out B0.out)).mono ?_; rintro e w1 ⟨rfl, hB⟩; have B1 := Lib.hid (Ab.trans B0.out hB); clear hB)
  go_ret
  exact ⟨rfl, B1.out⟩

/-! ### The tallies of holes -/
def tlyTo (cs : List Cd) (h : Int) : Nat → Nat
  | 0 => 0
  | i + 1 => if hasB (cdAt cs i).a (cdAt cs i).b h = true then tlyTo cs h i + 1 else tlyTo cs h i
def tl (cs : List Cd) (k : Nat) : List Int := (List.range k).map fun h : Nat => (tlyTo cs (h : Int) cs.length : Int)
theorem tl_len (cs : List Cd) (k : Nat) : (tl cs k).length = k := by unfold tl; simp
theorem tl_next (cs : List Cd) (k : Nat) : tl cs (k + 1) = tl cs k ++ [(tlyTo cs (k : Int) cs.length : Int)] := by unfold tl; rw [List.range_succ, List.map_append]; rfl
theorem tl_at {cs : List Cd} {k i : Nat} (h : i < k) : (tl cs k).getD i 0 = (tlyTo cs (i : Int) cs.length : Int) := by unfold tl; simp [List.getD, h]
theorem tly_yes {cs : List Cd} {h : Int} {i : Nat} (q : hasB (cdAt cs i).a (cdAt cs i).b h = true) : tlyTo cs h (i + 1) = tlyTo cs h i + 1 := if_pos q
theorem tly_no {cs : List Cd} {h : Int} {i : Nat} (q : hasB (cdAt cs i).a (cdAt cs i).b h = false) : tlyTo cs h (i + 1) = tlyTo cs h i := if_neg (by rw [q]; decide)
theorem tlyTo_le (cs : List Cd) (h : Int) : ∀ i, tlyTo cs h i ≤ i
  | 0 => Nat.le_refl _
  | i + 1 => by
    have := tlyTo_le cs h i
    cases q : hasB (cdAt cs i).a (cdAt cs i).b h
    · rw [tly_no q]; omega
    · rw [tly_yes q]; omega
def TlR (c : Int) (xs : List Int) (w : World) (e : Ending) (w' : World) : Prop := ∃ v, e = .returned (.tuple #[v, .int .i64 c]) ∧ OwnInts w.heap.size xs v w' ∧ Below w.heap.size w w'
def tlL (c : Int) (xs : List Int) : List Int := if c = 0 then xs else []
theorem own_noneT {w : World} {n B : Nat} (hn : n = w.heap.size) (hB : B ≤ w.heap.size) : OwnInts B [] (.slice (some ⟨n, 0, none⟩) 0 0) (w.alloc (.cells #[] 2)) := by
  subst hn; exact World.ownsRow_made w #[] 0 hB (Nat.zero_le _) rfl
theorem own_pushT {B : Nat} {ms : List Int} {x : Int} {v : Value} {w : World} (h : w.ownsRow B 2 1 v (ms.length + 1) (ms.map (Value.int .i64) ++ [.int .i64 x])) : OwnInts B (ms ++ [x]) v w := by
  unfold OwnInts; rw [List.map_append, List.length_append]; exact h
theorem info_i64T : (Tryd.prog.info? 2).map (fun i => (i.zero, i.size, i.bytes)) = some (some (.int .i64 0), 1, 8) := by kernel_rfl
theorem one_newT (w : World) (x : Value) (t : TypeId) : ∀ j u, [x][j]? = some u → (w.alloc (.cells #[x] t)).cell? ((⟨w.heap.size, 0, none⟩ : Addr).add j) = some u := by
  intro j u h
  match j, h with
  | 0, h => simp at h; subst h; simp [Addr.add]
theorem lt_own {B : Nat} {ms : List Int} {v : Value} {w : World} (h : OwnInts B ms v w) : ∀ j, v.ownBlock = some j → B ≤ j := fun j hj => (World.ownsRow.lt h j hj).1
theorem ints_weakenT {B B' : Nat} {zs : List Int} {v : Value} {w : World} (h : OwnInts B zs v w) (hb : B' ≤ B) : OwnInts B' zs v w := by
  obtain ⟨h1, h2⟩ := h
  refine ⟨h1, ?_⟩
  rcases h2 with hn | ⟨g, cap, cur, rfl, hB, rest⟩
  · exact .inl hn
  · exact .inr ⟨g, cap, cur, rfl, Nat.le_trans hb hB, rest⟩

set_option maxRecDepth 100000 in
set_option maxHeartbeats 3200000 in
theorem sTally_any (ad : Option Addr) (cs : List Cd) (c : Nat) (w : World) (hc : CardsIn w ad cs) (hl : cs.length ≤ 9223372036854775807) :
    Calls Tryd.prog 31 #[.slice ad cs.length c] w (TlR (cdC cs) (tlL (cdC cs) (tl cs 96)) w) := by
  obtain ⟨i0, hi, hz0, hz1, hz2⟩ := info_parts info_i64T
  have D := Lib.hid (sDeckC_any ad cs c w hc hl)
  have C := Lib.hid hc
  clear hc
  generalize hq : cdC cs = q at *
  by_cases h0 : q = 0
  · subst h0
    have hn : cs.length ≤ 60 := by
      unfold cdC at hq
      by_cases a : csOk cs = true
      · rw [if_pos a] at hq
        by_cases b : cs.length ≤ 60
        · exact b
        · rw [if_neg b] at hq; exact absurd hq (by decide)
      · rw [if_neg a] at hq; exact absurd hq (by decide)
    clear hq
    rw [show tlL 0 (tl cs 96) = tl cs 96 from rfl]
    go_enter Tryd.func31, Tryd.ntmps31
    go_wp2_with (go_at_call 42; refine D.out.mono ?_; rintro e w1 ⟨rfl, hB⟩; have B1 := Lib.hid hB; clear hB)
    go_loopw [5, 6] (fun v i wr => ∃ h : Nat, h ≤ 96 ∧ i = .int .i64 h ∧ OwnInts w1.heap.size (tl cs h) v wr ∧ Below w1.heap.size w1 wr) (fun _ i _ => 96 - (intOf i).toNat)
    case atStart => exact ⟨0, Nat.zero_le _, rfl, own_noneT rfl (Nat.le_refl _), ab_new _ _⟩
    case round =>
      obtain ⟨h, hh, rfl, O, hB⟩ := hrel
      have OO := Lib.hid O
      have BB := Lib.hid hB
      have TL := Lib.hid (tl_len cs h)
      have TN := Lib.hid (tl_next cs h)
      clear O
      by_cases hhl : h < 96
      · have hd : decide ((h : Int) < 96) = true := by simp; omega
        generalize tl cs h = ys at *
        go_wp2_with fail
        go_loopw [7, 8] (fun n i wl => ∃ j : Nat, j ≤ cs.length ∧ i = .int .i64 j ∧ n = .int .i64 (tlyTo cs (h : Int) j : Int) ∧ Below wr.heap.size wr wl) (fun _ i _ => cs.length - (intOf i).toNat)
        case atStart => exact ⟨0, Nat.zero_le _, rfl, rfl, Below.refl _ _⟩
        case round =>
          obtain ⟨j, hj, rfl, rfl, hBl⟩ := hrel
          have BL := Lib.hid hBl
          by_cases hjl : j < cs.length
          · have hd2 : decide ((j : Int) < (cs.length : Int)) = true := by simpa using hjl
            obtain ⟨⟨_, u0, u1⟩, b1, o1, rfl, hb1, _, p1, p2⟩ := C.out j hjl
            have hBx := B1.out.trans (Below.mono (hB.trans (Below.mono hBl hB.size)) B1.out.size)
            have d1 := (hBx.cell (p := ⟨b1, o1 + j * 3 + 1, none⟩) hb1).trans p1
            have d2 := (hBx.cell (p := ⟨b1, o1 + j * 3 + 2, none⟩) hb1).trans p2
            have i3 : (0 : Int) ≤ (j : Int) := by omega
            have i4 : (j : Int) < (cs.length : Int) := by omega
            have H := Lib.hid fun W => sHas_any (cdAt cs j).a (cdAt cs j).b (h : Int) u0 u1 (by omega) (by omega) W
            have le := tlyTo_le cs (h : Int) j
            have YE := Lib.hid fun q => tly_yes (cs := cs) (h := (h : Int)) (i := j) q
            have NO := Lib.hid fun q => tly_no (cs := cs) (h := (h : Int)) (i := j) q
            clear hBl hBx p1 p2 u0 u1
            generalize hasB (cdAt cs j).a (cdAt cs j).b (h : Int) = x at *
            generalize tlyTo cs (h : Int) j = n at *
            generalize (cdAt cs j).a = A at *
            generalize (cdAt cs j).b = B at *
            cases x
            · have N := Lib.hid (NO.out rfl)
              clear YE NO
              go_wp2_with (go_at_call 44; refine (H.out _).mono ?_; rintro e w3 ⟨rfl, hB⟩; have B3 := Lib.hid (Ab.trans BL.out hB); clear hB)
              exact ⟨⟨j + 1, hjl, by rw [Int.natCast_succ], by rw [N.out], B3.out⟩, by (simp [intOf]) <;> omega⟩
            · have N := Lib.hid (YE.out rfl)
              clear YE NO
              go_wp2_with (go_at_call 44; refine (H.out _).mono ?_; rintro e w3 ⟨rfl, hB⟩; have B3 := Lib.hid (Ab.trans BL.out hB); clear hB)
              exact ⟨⟨j + 1, hjl, by rw [Int.natCast_succ], by rw [N.out, Int.natCast_succ], B3.out⟩, by (simp [intOf]) <;> omega⟩
          · have e : j = cs.length := by omega
            subst e
            have hd2 : decide ((cs.length : Int) < (cs.length : Int)) = false := by simp
            have O2 := Lib.hid (ownInts_kept OO.out hBl)
            have sz := hB.size
            have B2 := Lib.hid (Ab.trans BB.out hBl)
            have sz2 := B2.out.size
            have tb := TL.out
            clear hBl
            generalize (tlyTo cs (h : Int) cs.length : Int) = T at *
            go_wp2_with (at_builtin; refine wpList_append_own _ rfl _ _ 64 rfl w1.heap.size 2 i0 (.int .i64 0) 1 8 Tryd.underlying64 hi hz0 hz1 hz2 rfl (by decide) _ _ _ rfl (World.ownsRow.alloc O2.out _) ⟨wr.heap.size, 0, none⟩ 1 1 [.int .i64 T] rfl rfl (one_newT _ _ _) (fun x hx => by simp at hx; subst hx; rfl) (by unfold maxLen; omega) (by omega) (by simp; omega) ?_; intro v' w4 hown hgrow _; have P := Lib.hid (own_pushT hown); have G := Lib.hid hgrow; clear hown hgrow)
            exact ⟨⟨h + 1, hhl, by rw [Int.natCast_succ], by rw [TN.out]; exact P.out, Below.grown (B2.out.alloc sz2 _) G.out (by simp; omega) (fun k hk => lt_own O2.out k hk)⟩, by (simp [intOf]) <;> omega⟩
      · have e : h = 96 := by omega
        subst e
        clear hB
        go_wp2
        go_ret2
        exact ⟨_, rfl, ints_weakenT OO.out B1.out.size, Ab.trans B1.out BB.out⟩
  · have hd : (q != 0) = true := by simp [h0]
    rw [show tlL q (tl cs 96) = [] from if_neg h0]
    go_enter Tryd.func31, Tryd.ntmps31
    go_wp2_with (go_at_call 42; refine D.out.mono ?_; rintro e w1 ⟨rfl, hB⟩; have B1 := Lib.hid hB; clear hB)
    go_ret2
    exact ⟨_, rfl, own_noneT rfl B1.out.size, Ab.trans B1.out (ab_new _ _)⟩
end Go.Proofs.YtanocllpmjhblaaDoor
