/- The words that may be in a mask: the model's list of them. -/
import Derived.Test.YtoippchkhknhpaaAdd
import Derived.Test.YtoippchkhknhpaaOwns
import Derived.Test.YtoippchkhknhpaaWithin
import Derived.Test.YtoippchkhknhpaaHole
import Derived.Laws.MakeOwn
namespace Go.Proofs.Ytoippchkhknhpaa
open Go.ChangeShapes Go.WideShapes Go.ChangeAt Go.RowKit

/-- Are the holes of a word within a mask? -/
def wi (t z : Int) (F : Int → Nat) (a b : Int) (s : ByteArray) : Bool := bits .and .u64 (hw0 t z F s : Int) a == (hw0 t z F s : Int) && bits .and .u64 (hw1 t z F s : Int) b == (hw1 t z F s : Int)
/-- The indices of the texts, of the first k, for which a test says yes. -/
def may (f : ByteArray → Bool) (zs : List ByteArray) : Nat → List Int
  | 0 => []
  | k + 1 => if f (zs.getD k ⟨#[]⟩) then may f zs k ++ [(k : Int)] else may f zs k
theorem may_yes {f : ByteArray → Bool} {zs : List ByteArray} {k : Nat} (h : f (zs.getD k ⟨#[]⟩) = true) : may f zs (k + 1) = may f zs k ++ [(k : Int)] := by show (if _ then _ else _) = _; rw [if_pos h]
theorem may_no {f : ByteArray → Bool} {zs : List ByteArray} {k : Nat} (h : f (zs.getD k ⟨#[]⟩) = false) : may f zs (k + 1) = may f zs k := by show (if _ then _ else _) = _; rw [if_neg (by rw [h]; decide)]
theorem may_len (f : ByteArray → Bool) (zs : List ByteArray) : ∀ k, (may f zs k).length ≤ k
  | 0 => Nat.le_refl _
  | k + 1 => by
    have := may_len f zs k
    cases h : f (zs.getD k ⟨#[]⟩)
    · rw [may_no h]; omega
    · rw [may_yes h, List.length_append]; simp; omega
theorem u_one_new (w : World) (x : Value) (t : TypeId) : ∀ j u, [x][j]? = some u → (w.alloc (.cells #[x] t)).cell? ((⟨w.heap.size, 0, none⟩ : Addr).add j) = some u := by
  intro j u h
  cases j with
  | zero => simp at h; subst h; simp [Addr.add]
  | succ => simp at h
theorem u_push {B : Nat} {zs : List Int} {x : Int} {v : Value} {w : World} (h : w.ownsRow B 2 1 v (zs.length + 1) (zs.map (Value.int .i64) ++ [.int .i64 x])) : OwnInts B (zs ++ [x]) v w := by unfold OwnInts; simpa using h
theorem u_lt {B : Nat} {zs : List Int} {v : Value} {w : World} (h : OwnInts B zs v w) : ∀ j, v.ownBlock = some j → B ≤ j := fun j hj => (World.ownsRow.lt h j hj).1
theorem u_none {w : World} {n B : Nat} (hn : n = w.heap.size) (hB : B ≤ w.heap.size) : OwnInts B [] (.slice (some ⟨n, 0, none⟩) 0 0) (w.alloc (.cells #[] 2)) := by
  subst hn; exact World.ownsRow_made w #[] 0 hB (Nat.zero_le _) rfl
theorem u_nil (B : Nat) (w : World) : OwnInts B [] (.slice none 0 0) w := ⟨by simp, .inl ⟨rfl, by simp⟩⟩
theorem u_weaken {B B' : Nat} {zs : List Int} {v : Value} {w : World} (h : OwnInts B zs v w) (hb : B' ≤ B) : OwnInts B' zs v w := by
  obtain ⟨h1, h2⟩ := h
  refine ⟨h1, ?_⟩
  rcases h2 with hn | ⟨g, cap, cur, rfl, hB, rest⟩
  · exact .inl hn
  · exact .inr ⟨g, cap, cur, rfl, Nat.le_trans hb hB, rest⟩
theorem block_old (w : World) (o : Obj) {k : Nat} (h : k < w.heap.size) : (w.alloc o).heap[k]? = w.heap[k]? := Below.heap_alloc _ _ _ h
/-- A list of numbers of the call's own. -/
def NumR (zs : List Int) (w : World) (e : Ending) (w' : World) : Prop := ∃ v, e = .returned v ∧ OwnInts w.heap.size zs v w' ∧ Below w.heap.size w w'

set_option maxHeartbeats 3200000 in
theorem sMay_any (t z p : Int) (F : Int → Nat) (hF : StopF t z p F) (t0 : 0 ≤ t) (z0 : 4 ≤ z) (tz : t + z ≤ 96) (p1 : 1 ≤ p) (p8 : p ≤ 8) (a b : Int) (ha : U64 a) (hb : U64 b) (ad : Option Addr) (zs : List ByteArray) (cap : Nat) (g o : Nat) (w : World) (h : StrsIn w ad zs) (hf : Fit zs) (hl : zs.length ≤ 40) (h1 : w.cell? ⟨g, o, none⟩ = some (.int .i16 t)) (h2 : w.cell? ⟨g, o + 1, none⟩ = some (.int .i16 z)) (h3 : w.cell? ⟨g, o + 2, none⟩ = some (.int .i16 p)) :
    Calls Try.prog 93 #[.pointer (some ⟨g, o, none⟩), .agg #[.int .u64 a, .int .u64 b], .slice ad zs.length cap] w (NumR (may (wi t z F a b) zs zs.length) w) := by
  obtain ⟨i0, hi, hz0, hz1, hz2⟩ := info_parts info_i64
  have hg := World.block_lt_of_cell? _ _ h1
  have H := Lib.hid h
  have FT := Lib.hid hf
  have HC := Lib.hid fun s hs W c1 c2 c3 => sHoles_any t z p s hs t0 z0 tz p1 p8 (F (ck s s.size)) (hF _ (ck_in s _).1 (ck_in s _).2) g o W c1 c2 c3
  have IW := Lib.hid fun s W => sIsWithin_any (hw0 t z F s : Int) (hw1 t z F s : Int) a b ⟨by omega, by have := (hw_lt F s t0 (show 0 < z by omega) tz).1; omega⟩ ⟨by omega, by have := (hw_lt F s t0 (show 0 < z by omega) tz).2; omega⟩ ha hb W
  have G1 := Lib.hid h1
  have G2 := Lib.hid h2
  have G3 := Lib.hid h3
  clear h hf hF h1 h2 h3 ha hb
  have hbw := cell_bw
  go_enter Try.func93, Try.ntmps93
  go_wp2
  go_loopw [7, 8] (fun v i wr => ∃ j : Nat, j ≤ zs.length ∧ i = .int .i64 j ∧ OwnInts (w.heap.size + 1) (may (wi t z F a b) zs j) v wr ∧ wr.heap[w.heap.size]? = some (.cells #[.int .u64 a, .int .u64 b] 51 (0, 0)) ∧ Below w.heap.size w wr) (fun _ i _ => zs.length - (intOf i).toNat)
  case atStart => exact ⟨0, Nat.zero_le _, rfl, u_none (by simp) (by simp), (block_alloc2 _ _ _).1, below_new (below_new (Below.refl _ _) _) _⟩
  case round =>
    obtain ⟨j, hj, rfl, O, hM, hB⟩ := hrel
    have BB := Lib.hid hB
    have OO := Lib.hid O
    have MM := Lib.hid hM
    clear O
    by_cases hjl : j < zs.length
    · have hd : decide ((j : Int) < (zs.length : Int)) = true := by simpa using hjl
      obtain ⟨b1, o1, rfl, hb1, p0⟩ := H.out j hjl
      have d0 := (hB.cell (p := ⟨b1, o1 + j, none⟩) hb1).trans p0
      have e1 := (hB.cell (p := ⟨g, o, none⟩) hg).trans G1.out
      have e2 := (hB.cell (p := ⟨g, o + 1, none⟩) hg).trans G2.out
      have e3 := (hB.cell (p := ⟨g, o + 2, none⟩) hg).trans G3.out
      have m0 := cell_of_block hM
      have y0 : w.heap.size < wr.heap.size := lt_of_block hM
      have y1 : b1 < wr.heap.size := Nat.lt_of_lt_of_le hb1 hB.size
      have y2 : g < wr.heap.size := Nat.lt_of_lt_of_le hg hB.size
      have i3 : (0 : Int) ≤ (j : Int) := by omega
      have i4 : (j : Int) < (zs.length : Int) := by omega
      have C := HC.out (zs.getD j ⟨#[]⟩) (FT.out j hjl)
      change ∀ W : World, _ → _ → _ → Calls _ _ _ W (fun e w' => e = .returned (.agg #[.int .u64 (hw0 t z F (zs.getD j ⟨#[]⟩) : Int), .int .u64 (hw1 t z F (zs.getD j ⟨#[]⟩) : Int)]) ∧ Below W.heap.size W w') at C
      have C := Lib.hid C
      have I := IW.out (zs.getD j ⟨#[]⟩)
      change ∀ W : World, Calls _ _ _ W (fun e w' => e = .returned (.bool (wi t z F a b (zs.getD j ⟨#[]⟩))) ∧ Below W.heap.size W w') at I
      have yes := Lib.hid fun h => may_yes (f := wi t z F a b) (zs := zs) (k := j) h
      have no := Lib.hid fun h => may_no (f := wi t z F a b) (zs := zs) (k := j) h
      have al := may_len (wi t z F a b) zs j
      clear hB p0 hM
      generalize may (wi t z F a b) zs j = xs at *
      generalize wi t z F a b (zs.getD j ⟨#[]⟩) = x at *
      generalize hw0 t z F (zs.getD j ⟨#[]⟩) = U at *
      generalize hw1 t z F (zs.getD j ⟨#[]⟩) = V at *
      generalize zs.getD j ⟨#[]⟩ = s at *
      cases x
      · have NO := Lib.hid (no.out rfl)
        have I := Lib.hid I
        clear yes no
        go_wp2_with fail
        refine region_bw (by kernel_rfl) (by kernel_rfl) ?_
        repeat (go_big_quiet_step (first
          | (go_at_call 98; refine calls_bw (C.out _ ?_ ?_ ?_); exact (hbw _ _ _ _ y2).trans e1; exact (hbw _ _ _ _ y2).trans e2; exact (hbw _ _ _ _ y2).trans e3)
          | (go_at_call 82; exact calls_bw (I.out _))))
        refine wpQuiet_nil ?_; intro wq hq; replace hq := below_of_bw hq; obtain ⟨qc, qf, qz⟩ := bcell hq
        have M1 := Lib.hid (Ab.block hq MM.out)
        go_wp2_with fail
        exact ⟨⟨j + 1, hjl, by rw [Int.natCast_succ], by rw [NO.out]; exact ownInts_kept OO.out hq, M1.out, BB.out.trans (hq.mono BB.out.size)⟩, by (simp [intOf]) <;> omega⟩
      · have YE := Lib.hid (yes.out rfl)
        have I := Lib.hid I
        clear yes no
        go_wp2_with fail
        refine region_bw (by kernel_rfl) (by kernel_rfl) ?_
        repeat (go_big_quiet_step (first
          | (go_at_call 98; refine calls_bw (C.out _ ?_ ?_ ?_); exact (hbw _ _ _ _ y2).trans e1; exact (hbw _ _ _ _ y2).trans e2; exact (hbw _ _ _ _ y2).trans e3)
          | (go_at_call 82; exact calls_bw (I.out _))))
        refine wpQuiet_nil ?_; intro wq hq; replace hq := below_of_bw hq; obtain ⟨qc, qf, qz⟩ := bcell hq
        have M1 := Lib.hid (Ab.block hq MM.out)
        have O1 := Lib.hid (ownInts_kept OO.out hq)
        have B1 := Lib.hid (BB.out.trans (hq.mono BB.out.size))
        have s1 := B1.out.size
        have l1 := lt_of_block M1.out
        clear e1 e2 e3 d0 m0 y0 y1 y2 hq qc qf qz hbw
        go_wp2_with (at_builtin; refine wpList_append_own _ rfl _ _ 39 rfl (w.heap.size + 1) 2 i0 (.int .i64 0) 1 8 Try.underlying39 hi hz0 hz1 hz2 rfl (by decide) _ _ _ rfl (O1.out.alloc _) ⟨wq.heap.size, 0, none⟩ 1 1 [.int .i64 (j : Int)] rfl rfl (u_one_new _ _ _) (fun x hx => by simp at hx; subst hx; rfl) (by unfold maxLen; omega) (by omega) (by simp; omega) ?_; intro v' w4 hown hgrow _; have P := Lib.hid (u_push hown); have G := Lib.hid hgrow; clear hown hgrow)
        refine ⟨⟨j + 1, hjl, by rw [Int.natCast_succ], by rw [YE.out]; exact P.out, ?_, ?_⟩, by (simp [intOf]) <;> omega⟩
        · exact (G.out.block _ (by simp; omega) (fun e => by have := u_lt O1.out _ e.symm; omega)).trans ((block_old _ _ l1).trans M1.out)
        · exact Below.grown (B1.out.alloc s1 _) G.out (by simp; omega) (fun k hk => Nat.le_of_succ_le (u_lt O1.out k hk))
    · have e : j = zs.length := by omega
      subst e
      have hd : decide ((zs.length : Int) < (zs.length : Int)) = false := by simp
      clear hB hM
      go_wp2
      go_ret
      exact ⟨_, rfl, u_weaken OO.out (Nat.le_succ _), BB.out⟩
end Go.Proofs.Ytoippchkhknhpaa
