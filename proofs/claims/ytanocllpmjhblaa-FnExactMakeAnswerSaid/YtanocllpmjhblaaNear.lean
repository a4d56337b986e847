/- Contracts: NearestCards, the program's and the model's. -/
import Derived.Test.YtanocllpmjhblaaNrP
import Derived.Test.YtanocllpmjhblaaOwns
import Derived.Test.YtanocllpmjhblaaHole
import Derived.Test.YtanocllpmjhblaaHoles
namespace Go.Proofs.Ytanocllpmjhblaa
open Go.ChangeShapes Go.WideShapes Go.ChangeAt Go.RowKit

/-- What the call answers: numbers of its own, how far they are, and a code. -/
def NrR (xs : List Int) (l cd : Int) (w : World) (e : Ending) (w' : World) : Prop := ∃ v, e = .returned (.tuple #[v, .int .i64 l, .int .i64 cd]) ∧ OwnInts w.heap.size xs v w' ∧ Below w.heap.size w w'
def nrC (ok : Bool) (n : Nat) : Int := if ok then (if n = 0 then 6 else 0) else 1
def nrX (ok : Bool) (f : Nat → Nat) (n : Nat) : List Int := if ok then (if n = 0 then [] else atF f (mnF f n) n) else []
def nrL (ok : Bool) (f : Nat → Nat) (n : Nat) : Int := if ok then (if n = 0 then 0 else (mnF f n : Int)) else 0
theorem nr_no (f : Nat → Nat) (n : Nat) : nrC false n = 1 ∧ nrX false f n = [] ∧ nrL false f n = 0 := ⟨rfl, rfl, rfl⟩
theorem nr_none (f : Nat → Nat) : nrC true 0 = 6 ∧ nrX true f 0 = [] ∧ nrL true f 0 = 0 := ⟨rfl, rfl, rfl⟩
theorem nr_yes (f : Nat → Nat) {n : Nat} (h : n ≠ 0) : nrC true n = 0 ∧ nrX true f n = atF f (mnF f n) n ∧ nrL true f n = (mnF f n : Int) := by
  unfold nrC nrX nrL; simp [h]
theorem nown_nil (B : Nat) (w : World) : OwnInts B [] (.slice none 0 0) w := World.ownsRow_nil w B _ _
theorem nrR_nil {w w' : World} {xs : List Int} {l cd c0 : Int} (h : cd = c0 ∧ xs = [] ∧ l = 0) (hb : Below w.heap.size w w') : NrR xs l cd w (.returned (.tuple #[.slice none 0 0, .int .i64 0, .int .i64 c0])) w' := by
  obtain ⟨rfl, rfl, rfl⟩ := h
  exact ⟨_, rfl, nown_nil _ _, hb⟩
theorem nrR_none {w w' : World} {xs : List Int} {l cd c0 : Int} {v : Value} (h : cd = c0 ∧ xs = [] ∧ l = 0) (ho : OwnInts w.heap.size [] v w') (hb : Below w.heap.size w w') : NrR xs l cd w (.returned (.tuple #[v, .int .i64 0, .int .i64 c0])) w' := by
  obtain ⟨rfl, rfl, rfl⟩ := h
  exact ⟨_, rfl, ho, hb⟩
theorem nrR_yes {w w' : World} {xs ys : List Int} {l m cd : Int} {v : Value} (h : cd = 0 ∧ xs = ys ∧ l = m) (ho : OwnInts w.heap.size ys v w') (hb : Below w.heap.size w w') : NrR xs l cd w (.returned (.tuple #[v, .int .i64 m, .int .i64 0])) w' := by
  obtain ⟨rfl, rfl, rfl⟩ := h
  exact ⟨_, rfl, ho, hb⟩

theorem blk_grown {w w' : World} {row : Option Nat} {n : Nat} {o : Obj} (h : w.heap[n]? = some o) (hg : w.grownBy w' row) (hne : row ≠ some n) : w'.heap[n]? = some o :=
  (hg.block n (Array.getElem?_eq_some_iff.1 h).1 (fun e => hne e.symm)).trans h
theorem own_ne {B n : Nat} {zs : List Int} {v : Value} {w : World} (h : OwnInts B zs v w) (hn : n < B) : v.ownBlock ≠ some n := fun e => by have := own_lt h n e; omega
theorem own_low {B C : Nat} {zs : List Int} {v : Value} {w : World} (h : OwnInts B zs v w) (hc : C ≤ B) : OwnInts C zs v w := by
  obtain ⟨h1, h2⟩ := h
  refine ⟨h1, ?_⟩
  rcases h2 with hn | ⟨g, cap, cur, rfl, hB, rest⟩
  · exact .inl hn
  · exact .inr ⟨g, cap, cur, rfl, Nat.le_trans hc hB, rest⟩

set_option maxRecDepth 100000 in
set_option maxHeartbeats 3200000 in
theorem iNear_any (ad : Option Addr) (cs : List Cd) (c : Nat) (a b : Int) (ha : U64 a) (hb : U64 b) (w : World) (hc : CardsIn w ad cs) :
    Calls Try.prog 48 #[.slice ad cs.length c, .agg #[.int .u64 a, .int .u64 b]] w (NrR (nrX (deckOk cs && maskOk b) (farK cs a b) cs.length) (nrL (deckOk cs && maskOk b) (farK cs a b) cs.length) (nrC (deckOk cs && maskOk b) cs.length) w) := by
  obtain ⟨i0, hi, hz0, hz1, hz2⟩ := info_parts info_i64
  have MB := Lib.hid (block_alloc w (.cells #[.int .u64 a, .int .u64 b] 53))
  have B0 := Lib.hid (below_new (Below.refl w.heap.size w) (.cells #[.int .u64 a, .int .u64 b] 53))
  have C0 := Lib.hid (cardsIn_below hc B0.out)
  have V := Lib.hid fun W h => iDeckOk_any ad cs c W h
  cases hk : deckOk cs
  · rw [hk] at V
    have f := Lib.hid (nr_no (farK cs a b) cs.length)
    clear hk
    go_enter Try.func48, Try.ntmps48
    go_wp2_with (go_at_call 62; refine (V.out _ C0.out).mono ?_; rintro e w1 ⟨rfl, hB⟩; have b1 := Lib.hid (B0.out.trans (Below.mono hB B0.out.size)); clear hB)
    go_ret3
    exact nrR_nil f.out b1.out
  · rw [hk] at V
    rw [Bool.true_and]
    cases hm : maskOk b
    · have M1 := iMask_is a (show (b / 4294967296 == 0) = false from hm)
      have f := Lib.hid (nr_no (farK cs a b) cs.length)
      clear hk hm
      go_enter Try.func48, Try.ntmps48
      go_wp2_with (first
        | (go_at_call 62; refine (V.out _ C0.out).mono ?_; rintro e w1 ⟨rfl, hB⟩; have b1 := Lib.hid (B0.out.trans (Below.mono hB B0.out.size)); have m1 := Ab.block hB MB.out; have x0 := cell_of_block m1; clear hB m1)
        | (go_at_call 91; refine (M1.out _).mono ?_; rintro e w2 ⟨rfl, hB⟩; have b2 := Lib.hid (b1.out.trans (Below.mono hB b1.out.size)); clear hB))
      go_ret3
      exact nrR_nil f.out b2.out
    · have M1 := iMask_is a (show (b / 4294967296 == 0) = true from hm)
      by_cases h0 : cs.length = 0
      · have f := nr_none (farK cs a b)
        rw [← h0] at f
        have f := Lib.hid f
        have d1 : ((cs.length : Int) == 0) = true := by simp [h0]
        clear hk hm h0
        go_enter Try.func48, Try.ntmps48
        go_wp2_with (first
          | (go_at_call 62; refine (V.out _ C0.out).mono ?_; rintro e w1 ⟨rfl, hB⟩; have b1 := Lib.hid (B0.out.trans (Below.mono hB B0.out.size)); have m1 := Ab.block hB MB.out; have x0 := cell_of_block m1; clear hB m1)
          | (go_at_call 91; refine (M1.out _).mono ?_; rintro e w2 ⟨rfl, hB⟩; have b2 := Lib.hid (b1.out.trans (Below.mono hB b1.out.size)); clear hB))
        go_ret3
        exact nrR_nil f.out b2.out
      · have f := Lib.hid (nr_yes (farK cs a b) h0)
        have d1 : ((cs.length : Int) == 0) = false := beq_eq_false_iff_ne.2 (by omega)
        have n80 := deckOk_80 hk
        have HK := Lib.hid hk
        have HC := Lib.hid hc
        clear hk hm h0 hc
        have FF := Lib.hid fun (x y : Int) (hx : U64 x) (hy : U64 y) (W : World) => iFarC_any a b x y ha hb hx hy W
        have BT := Lib.hid fun (x y : Int) (W : World) => iBtw_any a b x y W
        clear ha hb
        go_enter Try.func48, Try.ntmps48
        go_wp2_with (first
          | (go_at_call 62; refine (V.out _ C0.out).mono ?_; rintro e w1 ⟨rfl, hB⟩; have b1 := Lib.hid (B0.out.trans (Below.mono hB B0.out.size)); have m1 := Lib.hid (Ab.block hB MB.out); have x0 := cell_of_block m1.out; clear hB)
          | (go_at_call 91; refine (M1.out _).mono ?_; rintro e w2 ⟨rfl, hB⟩; have b2 := Lib.hid (b1.out.trans (Below.mono hB b1.out.size)); have m2 := Lib.hid (Ab.block hB m1.out); clear hB x0))
        have KM := Lib.hid fun k (hk : k < cs.length) => deckOk_mask HK.out hk
        go_loopw [7, 8, 25] (fun v l i wr => ∃ j : Nat, j ≤ cs.length ∧ i = .int .i64 (j : Int) ∧ l = .int .i64 (mnF (farK cs a b) j : Int) ∧ OwnInts (w.heap.size + 1) (atF (farK cs a b) (mnF (farK cs a b) j) j) v wr ∧ wr.heap[w.heap.size]? = some (.cells #[.int .u64 a, .int .u64 b] 53 (0, 0)) ∧ Below w.heap.size w wr) (fun _ _ i _ => cs.length - (intOf i).toNat)
        case atStart => exact ⟨0, Nat.zero_le _, rfl, rfl, nown_nil _ _, m2.out, b2.out⟩
        case round =>
          obtain ⟨j, hj, rfl, rfl, O, hm, hB⟩ := hrel
          have BC := Lib.hid hB
          have OC := Lib.hid O
          have MC := Lib.hid hm
          clear O d1
          by_cases hjl : j < cs.length
          · have hd : decide ((j : Int) < (cs.length : Int)) = true := by simpa using hjl
            obtain ⟨⟨_, u1, u2⟩, b1, o1, rfl, hb1, p0, p1, p2⟩ := HC.out j hjl
            have d0 := (hB.cell (p := ⟨b1, o1 + j * 3, none⟩) hb1).trans p0
            have d1 := (hB.cell (p := ⟨b1, o1 + j * 3 + 1, none⟩) hb1).trans p1
            have d2 := (hB.cell (p := ⟨b1, o1 + j * 3 + 2, none⟩) hb1).trans p2
            have i1 : (0 : Int) ≤ (j : Int) := by omega
            have i2 : (j : Int) < (cs.length : Int) := by omega
            have al := atF_len (farK cs a b) (mnF (farK cs a b) j) j
            have ml := mnF_96 (farK cs a b) j
            have fl : farK cs a b j ≤ 256 := far_le _ _ _ _
            have LE := Lib.hid fun h => near_less (f := farK cs a b) (n := j) h
            have SA := Lib.hid fun h => near_same (f := farK cs a b) (n := j) h
            have MO := Lib.hid fun h => near_more (f := farK cs a b) (n := j) h
            have C1 := fun W => FF.out (cdAt cs j).a (cdAt cs j).b u1 u2 W
            rw [show far a b (cdAt cs j).a (cdAt cs j).b = farK cs a b j from rfl] at C1
            have C1 := Lib.hid C1
            have B1 := Lib.hid fun W => BT.out (cdAt cs j).a (cdAt cs j).b W
            have M0 := cell_of_block hm
            have s0 := lt_of_block hm
            have hA : Ab wr (wr.alloc (.cells #[.string (cdAt cs j).s, .int .u64 (cdAt cs j).a, .int .u64 (cdAt cs j).b] 89)) := below_new (Below.refl _ _) _
            have AA := Lib.hid hA
            clear hB p0 p1 p2 hA hm u1 u2
            generalize cdAt cs j = x at *
            obtain ⟨xs, xa, xb⟩ := x
            simp only at d0 d1 d2 AA B1 C1
            generalize hF : farK cs a b j = F at *
            generalize hM : mnF (farK cs a b) j = M at *
            have FM := Lib.hid hF
            have MM := Lib.hid hM
            clear hF hM
            rcases Nat.lt_trichotomy F M with h | h | h
            · have q1 : decide ((F : Int) < (M : Int)) = true := by simpa using h
              have q1b : decide (F < M) = true := by simpa using h
              have LE := Lib.hid (LE.out h)
              clear SA MO h
              go_wp2_with (first
                | (go_at_call 92; refine (B1.out _).mono ?_; rintro e w3 ⟨rfl, hB3⟩; have A3 := Lib.hid (AA.out.trans hB3); clear hB3 M0 s0 d0 d1 d2)
                | (go_at_call 93; refine (C1.out _).mono ?_; rintro e w4 ⟨rfl, hB4⟩; have A4 := Lib.hid (A3.out.trans hB4); have B4 := Lib.hid (BC.out.trans (Below.mono A4.out BC.out.size)); have s4 := (lt_of_block (A4.out.block MC.out)); clear hB4)
                | (at_builtin; refine wpList_append_own _ rfl _ _ 56 rfl (w.heap.size + 1) 2 i0 (.int .i64 0) 1 8 Try.underlying56 hi hz0 hz1 hz2 rfl (by decide) _ _ _ rfl ((nown_nil (w.heap.size + 1) w4).alloc _) ⟨w4.heap.size, 0, none⟩ 1 1 [.int .i64 (j : Int)] rfl rfl (one_new _ _ _) (fun x hx => by simp at hx; subst hx; rfl) (by unfold maxLen; simp) (by simp) (by simp; omega) ?_; intro v' w5 hown hgrow _; have P := Lib.hid (own_push hown); have G := Lib.hid hgrow; clear hown hgrow))
              have le := LE.out
              refine ⟨⟨j + 1, hjl, by rw [Int.natCast_succ], by rw [le.1], by rw [le.2]; exact P.out, ?_, ?_⟩, by (simp [intOf]) <;> omega⟩
              · exact blk_grown (Ab.block (below_new (Below.refl _ _) _) (A4.out.block MC.out)) G.out (own_ne (nown_nil (w.heap.size + 1) w4) (Nat.lt_succ_self _))
              · exact Below.grown (B4.out.alloc B4.out.size _) G.out (by simp; omega) (fun k hk => Nat.le_of_succ_le (own_lt (nown_nil (w.heap.size + 1) w4) k hk))
            · have q1 : decide ((F : Int) < (M : Int)) = false := by simp; omega
              have q2 : ((F : Int) == (M : Int)) = true := by simp [h]
              have q1b : decide (F < M) = false := by simp; omega
              have q2b : (F == M) = true := by simp [h]
              have SB := Lib.hid (SA.out h)
              clear LE MO SA h
              go_wp2_with (first
                | (go_at_call 92; refine (B1.out _).mono ?_; rintro e w3 ⟨rfl, hB3⟩; have A3 := Lib.hid (AA.out.trans hB3); clear hB3 M0 s0 d0 d1 d2)
                | (go_at_call 93; refine (C1.out _).mono ?_; rintro e w4 ⟨rfl, hB4⟩; have A4 := Lib.hid (A3.out.trans hB4); have B4 := Lib.hid (BC.out.trans (Below.mono A4.out BC.out.size)); have O4 := Lib.hid (ownInts_kept OC.out A4.out); have s4 := (lt_of_block (A4.out.block MC.out)); clear hB4)
                | (at_builtin; refine wpList_append_own _ rfl _ _ 56 rfl (w.heap.size + 1) 2 i0 (.int .i64 0) 1 8 Try.underlying56 hi hz0 hz1 hz2 rfl (by decide) _ _ _ rfl (O4.out.alloc _) ⟨w4.heap.size, 0, none⟩ 1 1 [.int .i64 (j : Int)] rfl rfl (one_new _ _ _) (fun x hx => by simp at hx; subst hx; rfl) (by unfold maxLen; omega) (by omega) (by simp; omega) ?_; intro v' w5 hown hgrow _; have P := Lib.hid (own_push hown); have G := Lib.hid hgrow; clear hown hgrow))
              have le := SB.out
              refine ⟨⟨j + 1, hjl, by rw [Int.natCast_succ], by rw [le.1], by rw [le.2]; exact P.out, ?_, ?_⟩, by (simp [intOf]) <;> omega⟩
              · exact blk_grown (Ab.block (below_new (Below.refl _ _) _) (A4.out.block MC.out)) G.out (own_ne OC.out (Nat.lt_succ_self _))
              · exact Below.grown (B4.out.alloc B4.out.size _) G.out (by simp; omega) (fun k hk => Nat.le_of_succ_le (own_lt OC.out k hk))
            · have q1 : decide ((F : Int) < (M : Int)) = false := by simp; omega
              have q2 : ((F : Int) == (M : Int)) = false := beq_eq_false_iff_ne.2 (by omega)
              have q1b : decide (F < M) = false := by simp; omega
              have q2b : (F == M) = false := beq_eq_false_iff_ne.2 (by omega)
              have MB := Lib.hid (MO.out h)
              clear LE SA MO h
              go_wp2_with (first
                | (go_at_call 92; refine (B1.out _).mono ?_; rintro e w3 ⟨rfl, hB3⟩; have A3 := Lib.hid (AA.out.trans hB3); clear hB3 M0 s0 d0 d1 d2)
                | (go_at_call 93; refine (C1.out _).mono ?_; rintro e w4 ⟨rfl, hB4⟩; have A4 := Lib.hid (A3.out.trans hB4); have B4 := Lib.hid (BC.out.trans (Below.mono A4.out BC.out.size)); have O4 := Lib.hid (ownInts_kept OC.out A4.out); have s4 := (lt_of_block (A4.out.block MC.out)); clear hB4))
              have le := MB.out
              refine ⟨⟨j + 1, hjl, by rw [Int.natCast_succ], by rw [le.1], by rw [le.2]; exact O4.out, A4.out.block MC.out, B4.out⟩, by (simp [intOf]) <;> omega⟩
          · have e : j = cs.length := by omega
            subst e
            have hd : decide ((cs.length : Int) < (cs.length : Int)) = false := by simp
            clear hB hm
            go_wp2
            go_ret3
            exact nrR_yes f.out (own_low OC.out (Nat.le_succ _)) BC.out

/-- The lesser of two numbers, as the model has it. -/
theorem sMin_any (x y : Nat) (w : World) : Calls Try.prog 96 #[.int .i64 (x : Int), .int .i64 (y : Int)] w fun e w' => e = .returned (.int .i64 ((if y < x then y else x : Nat) : Int)) ∧ Below w.heap.size w w' := by
  by_cases h : y < x
  · have d1 : decide ((x : Int) < (y : Int)) = false := by simp; omega
    have d2 : decide (x < y) = false := by simp; omega
    rw [if_pos h]
    clear h
    go_enter Try.func96, Try.ntmps96
    go_wp2
    go_returns
    exact ⟨rfl, (by repeat' (first | (with_reducible exact Below.refl _ _) | (with_reducible assumption) | (with_reducible refine below_drewN ?_ _) | (with_reducible refine Below.drew ?_) | (with_reducible refine below_new ?_ _) | (with_reducible refine below_next ?_ (by with_reducible assumption)) | (with_reducible refine Below.setCell ?_ ?_ _) | go_size))⟩
  · rw [if_neg h]
    by_cases h2 : x < y
    · have d1 : decide ((x : Int) < (y : Int)) = true := by simp; omega
      have d2 : decide (x < y) = true := by simp; omega
      clear h h2
      go_enter Try.func96, Try.ntmps96
      go_wp2
      go_returns
      exact ⟨rfl, (by repeat' (first | (with_reducible exact Below.refl _ _) | (with_reducible assumption) | (with_reducible refine below_drewN ?_ _) | (with_reducible refine Below.drew ?_) | (with_reducible refine below_new ?_ _) | (with_reducible refine below_next ?_ (by with_reducible assumption)) | (with_reducible refine Below.setCell ?_ ?_ _) | go_size))⟩
    · obtain rfl : x = y := by omega
      have d1 : decide ((x : Int) < (x : Int)) = false := by simp
      clear h h2
      go_enter Try.func96, Try.ntmps96
      go_wp2
      go_returns
      exact ⟨rfl, (by repeat' (first | (with_reducible exact Below.refl _ _) | (with_reducible assumption) | (with_reducible refine below_drewN ?_ _) | (with_reducible refine Below.drew ?_) | (with_reducible refine below_new ?_ _) | (with_reducible refine below_next ?_ (by with_reducible assumption)) | (with_reducible refine Below.setCell ?_ ?_ _) | go_size))⟩

theorem mnF_step (f : Nat → Nat) (k : Nat) : mnF f (k + 1) = if f k < mnF f k then f k else mnF f k := rfl

set_option maxRecDepth 100000 in
set_option maxHeartbeats 3200000 in
theorem sNear_any (ad : Option Addr) (cs : List Cd) (c : Nat) (a b : Int) (ha : U64 a) (hb : U64 b) (w : World) (hc : CardsIn w ad cs) :
    Calls Try.prog 49 #[.slice ad cs.length c, .agg #[.int .u64 a, .int .u64 b]] w (NrR (nrX (deckOk cs && maskOk b) (farK cs a b) cs.length) (nrL (deckOk cs && maskOk b) (farK cs a b) cs.length) (nrC (deckOk cs && maskOk b) cs.length) w) := by
  obtain ⟨i0, hi, hz0, hz1, hz2⟩ := info_parts info_i64
  have MB := Lib.hid (block_alloc w (.cells #[.int .u64 a, .int .u64 b] 53))
  have B0 := Lib.hid (below_new (Below.refl w.heap.size w) (.cells #[.int .u64 a, .int .u64 b] 53))
  have C0 := Lib.hid (cardsIn_below hc B0.out)
  have V := Lib.hid fun W h => sDeckOk_any ad cs c W h
  cases hk : deckOk cs
  · rw [hk] at V
    have f := Lib.hid (nr_no (farK cs a b) cs.length)
    clear hk
    go_enter Try.func49, Try.ntmps49
    go_wp2_with (go_at_call 60; refine (V.out _ C0.out).mono ?_; rintro e w1 ⟨rfl, hB⟩; have b1 := Lib.hid (B0.out.trans (Below.mono hB B0.out.size)); clear hB)
    go_ret3
    exact nrR_none f.out (own_none rfl b1.out.size) (b1.out.alloc b1.out.size _)
  · rw [hk] at V
    rw [Bool.true_and]
    cases hm : maskOk b
    · have M1 := sMask_is a (show (b / 4294967296 == 0) = false from hm)
      have f := Lib.hid (nr_no (farK cs a b) cs.length)
      clear hk hm
      go_enter Try.func49, Try.ntmps49
      go_wp2_with (first
        | (go_at_call 60; refine (V.out _ C0.out).mono ?_; rintro e w1 ⟨rfl, hB⟩; have b1 := Lib.hid (B0.out.trans (Below.mono hB B0.out.size)); have m1 := Ab.block hB MB.out; have x0 := cell_of_block m1; clear hB m1)
        | (go_at_call 94; refine (M1.out _).mono ?_; rintro e w2 ⟨rfl, hB⟩; have b2 := Lib.hid (b1.out.trans (Below.mono hB b1.out.size)); clear hB))
      go_ret3
      exact nrR_none f.out (own_none rfl b2.out.size) (b2.out.alloc b2.out.size _)
    · have M1 := sMask_is a (show (b / 4294967296 == 0) = true from hm)
      by_cases h0 : cs.length = 0
      · have f := nr_none (farK cs a b)
        rw [← h0] at f
        have f := Lib.hid f
        have d1 : ((cs.length : Int) == 0) = true := by simp [h0]
        clear hk hm h0
        go_enter Try.func49, Try.ntmps49
        go_wp2_with (first
          | (go_at_call 60; refine (V.out _ C0.out).mono ?_; rintro e w1 ⟨rfl, hB⟩; have b1 := Lib.hid (B0.out.trans (Below.mono hB B0.out.size)); have m1 := Ab.block hB MB.out; have x0 := cell_of_block m1; clear hB m1)
          | (go_at_call 94; refine (M1.out _).mono ?_; rintro e w2 ⟨rfl, hB⟩; have b2 := Lib.hid (b1.out.trans (Below.mono hB b1.out.size)); clear hB))
        go_ret3
        exact nrR_none f.out (own_none rfl b2.out.size) (b2.out.alloc b2.out.size _)
      · have f := Lib.hid (nr_yes (farK cs a b) h0)
        have d1 : ((cs.length : Int) == 0) = false := beq_eq_false_iff_ne.2 (by omega)
        have n80 := deckOk_80 hk
        have HC := Lib.hid hc
        have FF := Lib.hid fun (x y : Int) (hx : U64 x) (hy : U64 y) (W : World) => sFar_any x y a b hx hy ha hb W
        have K0 : farK cs a b 0 ≤ 96 := by
          obtain ⟨⟨_, u1, u2⟩, _⟩ := hc 0 (by omega)
          exact far_96 ha hb u1 u2 hm (deckOk_mask hk (by omega))
        have ONE := Lib.hid (mnF_one K0)
        obtain ⟨⟨_, u1, u2⟩, bb, o1, rfl, hb1, p0, p1, p2⟩ := hc 0 (by omega)
        simp only [Nat.zero_mul, Nat.add_zero] at p1 p2
        have C1 := fun W => FF.out (cdAt cs 0).a (cdAt cs 0).b u1 u2 W
        rw [far_symm, show far a b (cdAt cs 0).a (cdAt cs 0).b = farK cs a b 0 from rfl, ← ONE.out] at C1
        have C1 := Lib.hid C1
        have P1 := Lib.hid p1
        have P2 := Lib.hid p2
        have H1 := Lib.hid hb1
        have zl : (0 : Int) < (cs.length : Int) := by omega
        have zl2 : 0 < cs.length := by omega
        clear hk hm h0 hc ha hb K0 u1 u2 p0 p1 p2 hb1 ONE
        generalize cdAt cs 0 = x at C1 P1 P2
        obtain ⟨xs, xa, xb⟩ := x
        simp only at C1 P1 P2
        have hbw := cell_bw
        go_enter Try.func49, Try.ntmps49
        go_wp2_with (first
          | (go_at_call 60; refine (V.out _ C0.out).mono ?_; rintro e w1 ⟨rfl, hB⟩; have b1 := Lib.hid (B0.out.trans (Below.mono hB B0.out.size)); have m1 := Lib.hid (Ab.block hB MB.out); have x0 := cell_of_block m1.out; clear hB)
          | (go_at_call 94; refine (M1.out _).mono ?_; rintro e w2 ⟨rfl, hB⟩; have b2 := Lib.hid (b1.out.trans (Below.mono hB b1.out.size)); have m2 := Lib.hid (Ab.block hB m1.out); clear hB x0; have x0 := cell_of_block m2.out; have s0 := lt_of_block m2.out; have y1 := (b2.out.cell H1.out).trans P1.out; have y2 := (b2.out.cell H1.out).trans P2.out; have s1 := Nat.lt_of_lt_of_le H1.out b2.out.size))
        refine region_bw (by kernel_rfl) (by kernel_rfl) ?_
        repeat (go_big_quiet_step (first | (go_at_call 95; exact calls_bw (C1.out _))))
        refine wpQuiet_nil ?_; intro wq hq; replace hq := below_of_bw hq; obtain ⟨qc, qf, qz⟩ := bcell hq
        have b3 := Lib.hid (b2.out.trans (Below.mono hq b2.out.size))
        have m3 := Lib.hid (Ab.block hq m2.out)
        clear x0 s0 y1 y2 s1 hq qc qf qz d1
        go_wp2_with fail
        go_loopw [7, 8] (fun l i wr => ∃ j : Nat, 1 ≤ j ∧ j ≤ cs.length ∧ i = .int .i64 (j : Int) ∧ l = .int .i64 (mnF (farK cs a b) j : Int) ∧ wr.heap[w.heap.size]? = some (.cells #[.int .u64 a, .int .u64 b] 53 (0, 0)) ∧ Below w.heap.size w wr) (fun _ i _ => cs.length - (intOf i).toNat)
        case atStart => exact ⟨1, Nat.le_refl _, zl2, rfl, rfl, m3.out, b3.out⟩
        case round =>
          obtain ⟨j, hj1, hj, rfl, rfl, hm, hB⟩ := hrel
          have BC := Lib.hid hB
          have MC := Lib.hid hm
          by_cases hjl : j < cs.length
          · have hd : decide ((j : Int) < (cs.length : Int)) = true := by simpa using hjl
            obtain ⟨⟨_, u1, u2⟩, b1, o2, he, hb1, p0, p1, p2⟩ := HC.out j hjl
            cases he
            have d0 := (hB.cell (p := ⟨bb, o1 + j * 3, none⟩) hb1).trans p0
            have d1 := (hB.cell (p := ⟨bb, o1 + j * 3 + 1, none⟩) hb1).trans p1
            have d2 := (hB.cell (p := ⟨bb, o1 + j * 3 + 2, none⟩) hb1).trans p2
            have y1 : bb < wr.heap.size := Nat.lt_of_lt_of_le hb1 hB.size
            have i1 : (0 : Int) ≤ (j : Int) := by omega
            have i2 : (j : Int) < (cs.length : Int) := by omega
            have ST := mnF_step (farK cs a b) j
            have C2 := fun W => FF.out (cdAt cs j).a (cdAt cs j).b u1 u2 W
            rw [far_symm, show far a b (cdAt cs j).a (cdAt cs j).b = farK cs a b j from rfl] at C2
            have C2 := Lib.hid C2
            have MN := fun W => sMin_any (mnF (farK cs a b) j) (farK cs a b j) W
            rw [← ST] at MN
            have MN := Lib.hid MN
            have M0 := cell_of_block hm
            have s0 := lt_of_block hm
            clear hB p0 p1 p2 hm u1 u2 ST C1 P1 P2
            generalize hM1 : mnF (farK cs a b) (j + 1) = M1 at *
            have HM1 := Lib.hid hM1
            clear hM1
            generalize mnF (farK cs a b) j = M at *
            generalize farK cs a b j = F at *
            generalize cdAt cs j = x at *
            obtain ⟨xs, xa, xb⟩ := x
            simp only at d0 d1 d2 C2
            go_wp2_with fail
            refine region_bw (by kernel_rfl) (by kernel_rfl) ?_
            repeat (go_big_quiet_step (first | (go_at_call 95; exact calls_bw (C2.out _)) | (go_at_call 96; exact calls_bw (MN.out _))))
            refine wpQuiet_nil ?_; intro wq hq; replace hq := below_of_bw hq; obtain ⟨qc, qf, qz⟩ := bcell hq
            have B2 := Lib.hid (BC.out.trans (Below.mono hq BC.out.size))
            have m2 := Lib.hid (Ab.block hq MC.out)
            clear M0 s0 d0 d1 d2 y1 hq qc qf qz
            go_wp2_with fail
            exact ⟨⟨j + 1, by omega, hjl, by rw [Int.natCast_succ], by rw [HM1.out], m2.out, B2.out⟩, by (simp [intOf]) <;> omega⟩
          · have e : j = cs.length := by omega
            subst e
            have hd : decide ((cs.length : Int) < (cs.length : Int)) = false := by simp
            clear hB hm
            go_wp2_with fail
            have b5 := Lib.hid (BC.out.alloc BC.out.size (.cells #[] 2))
            have m5 := Lib.hid (Ab.block (below_new (Below.refl _ _) (.cells #[] 2)) MC.out)
            have o5 := Lib.hid (own_none (w := wr) (B := w.heap.size + 1) rfl (lt_of_block MC.out))
            obtain ⟨wo, rfl⟩ : ∃ wo : World, wo = wr := ⟨_, rfl⟩
            go_loopw [9, 10] (fun v i wr => ∃ j : Nat, j ≤ cs.length ∧ i = .int .i64 (j : Int) ∧ OwnInts (w.heap.size + 1) (atF (farK cs a b) (mnF (farK cs a b) cs.length) j) v wr ∧ wr.heap[w.heap.size]? = some (.cells #[.int .u64 a, .int .u64 b] 53 (0, 0)) ∧ Below w.heap.size w wr) (fun _ i _ => cs.length - (intOf i).toNat)
            case atStart => exact ⟨0, Nat.zero_le _, rfl, o5.out, m5.out, b5.out⟩
            case round =>
              obtain ⟨j, hj, rfl, O, hm, hB⟩ := hrel
              have BD := Lib.hid hB
              have MD := Lib.hid hm
              have OD := Lib.hid O
              clear O hd
              by_cases hjl : j < cs.length
              · have hd : decide ((j : Int) < (cs.length : Int)) = true := by simpa using hjl
                obtain ⟨⟨_, u1, u2⟩, b1, o2, he, hb1, p0, p1, p2⟩ := HC.out j hjl
                cases he
                have d0 := (hB.cell (p := ⟨bb, o1 + j * 3, none⟩) hb1).trans p0
                have d1 := (hB.cell (p := ⟨bb, o1 + j * 3 + 1, none⟩) hb1).trans p1
                have d2 := (hB.cell (p := ⟨bb, o1 + j * 3 + 2, none⟩) hb1).trans p2
                have y1 : bb < wr.heap.size := Nat.lt_of_lt_of_le hb1 hB.size
                have i1 : (0 : Int) ≤ (j : Int) := by omega
                have i2 : (j : Int) < (cs.length : Int) := by omega
                have YE := Lib.hid fun h => atF_yes (f := farK cs a b) (m := mnF (farK cs a b) cs.length) (n := j) h
                have NO := Lib.hid fun h => atF_no (f := farK cs a b) (m := mnF (farK cs a b) cs.length) (n := j) h
                have al := atF_len (farK cs a b) (mnF (farK cs a b) cs.length) j
                have C2 := fun W => FF.out (cdAt cs j).a (cdAt cs j).b u1 u2 W
                rw [far_symm, show far a b (cdAt cs j).a (cdAt cs j).b = farK cs a b j from rfl] at C2
                have C2 := Lib.hid C2
                have M0 := cell_of_block hm
                have s0 := lt_of_block hm
                clear hB p0 p1 p2 hm u1 u2 C1 P1 P2
                generalize mnF (farK cs a b) cs.length = M at *
                generalize hF : farK cs a b j = F at *
                clear hF
                generalize cdAt cs j = x at *
                obtain ⟨xs, xa, xb⟩ := x
                simp only at d0 d1 d2 C2
                by_cases hFM : F = M
                · have q2 : ((F : Int) == (M : Int)) = true := by simp [hFM]
                  have q2b : (F == M) = true := by simp [hFM]
                  have YE2 := Lib.hid (YE.out hFM)
                  clear YE NO hFM
                  go_wp2_with fail
                  refine region_bw (by kernel_rfl) (by kernel_rfl) ?_
                  repeat (go_big_quiet_step (first | (go_at_call 95; exact calls_bw (C2.out _))))
                  refine wpQuiet_nil ?_; intro wq hq; replace hq := below_of_bw hq; obtain ⟨qc, qf, qz⟩ := bcell hq
                  have B2 := Lib.hid (BD.out.trans (Below.mono hq BD.out.size))
                  have m2 := Lib.hid (Ab.block hq MD.out)
                  have O2 := Lib.hid (ownInts_kept OD.out hq)
                  have s2 := lt_of_block m2.out
                  clear M0 s0 d0 d1 d2 y1 hq qc qf qz
                  go_wp2_with (at_builtin; refine wpList_append_own _ rfl _ _ 56 rfl (w.heap.size + 1) 2 i0 (.int .i64 0) 1 8 Try.underlying56 hi hz0 hz1 hz2 rfl (by decide) _ _ _ rfl (O2.out.alloc _) ⟨wq.heap.size, 0, none⟩ 1 1 [.int .i64 (j : Int)] rfl rfl (one_new _ _ _) (fun x hx => by simp at hx; subst hx; rfl) (by unfold maxLen; omega) (by omega) (by simp; omega) ?_; intro v' w5 hown hgrow _; have P := Lib.hid (own_push hown); have G := Lib.hid hgrow; clear hown hgrow)
                  refine ⟨⟨j + 1, hjl, by rw [Int.natCast_succ], by rw [YE2.out]; exact P.out, ?_, ?_⟩, by (simp [intOf]) <;> omega⟩
                  · exact blk_grown (Ab.block (below_new (Below.refl _ _) _) m2.out) G.out (own_ne O2.out (Nat.lt_succ_self _))
                  · exact Below.grown (B2.out.alloc B2.out.size _) G.out (by simp; omega) (fun k hk => Nat.le_of_succ_le (own_lt O2.out k hk))
                · have q2 : ((F : Int) == (M : Int)) = false := beq_eq_false_iff_ne.2 (by omega)
                  have q2b : (F == M) = false := beq_eq_false_iff_ne.2 hFM
                  have NO2 := Lib.hid (NO.out hFM)
                  clear YE NO hFM
                  go_wp2_with fail
                  refine region_bw (by kernel_rfl) (by kernel_rfl) ?_
                  repeat (go_big_quiet_step (first | (go_at_call 95; exact calls_bw (C2.out _))))
                  refine wpQuiet_nil ?_; intro wq hq; replace hq := below_of_bw hq; obtain ⟨qc, qf, qz⟩ := bcell hq
                  have B2 := Lib.hid (BD.out.trans (Below.mono hq BD.out.size))
                  have m2 := Lib.hid (Ab.block hq MD.out)
                  have O2 := Lib.hid (ownInts_kept OD.out hq)
                  clear M0 s0 d0 d1 d2 y1 hq qc qf qz
                  go_wp2_with fail
                  exact ⟨⟨j + 1, hjl, by rw [Int.natCast_succ], by rw [NO2.out]; exact O2.out, m2.out, B2.out⟩, by (simp [intOf]) <;> omega⟩
              · have e : j = cs.length := by omega
                subst e
                clear hB hm
                have hd : decide ((cs.length : Int) < (cs.length : Int)) = false := by simp
                go_wp2
                go_ret3
                exact nrR_yes f.out (own_low OD.out (Nat.le_succ _)) BD.out
end Go.Proofs.Ytanocllpmjhblaa
