/- Contracts: an entry with an index, its preferred entry, its path as an iterator. -/
import Derived.Test.YtppjmngnjdeigaaDoorCatI
import Derived.Test.YtppjmngnjdeigaaDoorSeq
import Derived.Test.YtppjmngnjdeigaaDoorBoxes
import Derived.Deep.LoopGhost
namespace Go.Proofs.YtppjmngnjdeigaaDoor
open Go.ChangeShapes Go.WideShapes Go.ChangeAt Go.RowKit

theorem three_set {w1 : World} {g : Nat} {x0 x1 x2 : Value} (y0 y1 y2 : Value) (h0 : w1.cell? ⟨g, 0, none⟩ = some x0) (h1 : w1.cell? ⟨g, 1, none⟩ = some x1) (h2 : w1.cell? ⟨g, 2, none⟩ = some x2) :
    ((((w1.setCell ⟨g, 0, none⟩ y0).setCell ⟨g, 1, none⟩ y1).setCell ⟨g, 2, none⟩ y2).cell? ⟨g, 0, none⟩ = some y0 ∧ (((w1.setCell ⟨g, 0, none⟩ y0).setCell ⟨g, 1, none⟩ y1).setCell ⟨g, 2, none⟩ y2).cell? ⟨g, 1, none⟩ = some y1 ∧ (((w1.setCell ⟨g, 0, none⟩ y0).setCell ⟨g, 1, none⟩ y1).setCell ⟨g, 2, none⟩ y2).cell? ⟨g, 2, none⟩ = some y2) := by
  have n : ∀ (w : World) (i j : Nat) (v : Value), i ≠ j → (w.setCell ⟨g, i, none⟩ v).cell? ⟨g, j, none⟩ = w.cell? ⟨g, j, none⟩ := fun w i j v h => World.cell?_setCell_other _ _ _ _ (by intro hc; simp at hc <;> omega)
  refine ⟨?_, ?_, ?_⟩
  · rw [n _ 2 0 _ (by decide), n _ 1 0 _ (by decide)]; exact World.cell?_setCell_same' _ _ _ (by rw [h0]; rfl)
  · rw [n _ 2 1 _ (by decide)]; exact World.cell?_setCell_same' _ _ _ (by rw [n _ 0 1 _ (by decide), h1]; rfl)
  · exact World.cell?_setCell_same' _ _ _ (by rw [n _ 1 2 _ (by decide), n _ 0 2 _ (by decide), h2]; rfl)

set_option maxHeartbeats 1600000 in
theorem entry_any (ad : Option Addr) (cs : List Et) (c : Nat) (j : Nat) (hj : j < cs.length) (w : World) (hc : EntsIn w ad cs) (_hn : cs.length ≤ 9223372036854775807) :
    Calls Tryd.prog 165 #[.slice ad cs.length c, .int .i64 j] w fun e w' => e = .returned (etVal (etAt cs j)) ∧ Below w.heap.size w w' := by
  have H := Lib.hid fun W => (show Calls Tryd.prog 151 #[.slice ad cs.length c, .int .i64 j] W fun e w' => e = .returned (.bool true) ∧ Below W.heap.size W w' from by
    have := has_any ad cs.length c (j : Int) W
    rwa [show hasX cs.length (j : Int) = true from by unfold hasX; simp [hj]] at this)
  have b0 := Lib.hid (below_new (Below.refl w.heap.size w) (.cells #[.string ByteArray.empty, .int .i64 0, .int .i64 0] 81))
  obtain ⟨_, b1, o1, rfl, hb1, p0, p1, p2⟩ := hc j hj
  have ne : b1 ≠ w.heap.size := by omega
  unfold etVal
  generalize etAt cs j = x at *
  obtain ⟨s, a, b⟩ := x
  simp only at p0 p1 p2
  have r0 := (b0.out.cell (p := ⟨b1, o1 + j * 3, none⟩) hb1).trans p0
  have r1 := (b0.out.cell (p := ⟨b1, o1 + j * 3 + 1, none⟩) hb1).trans p1
  have r2 := (b0.out.cell (p := ⟨b1, o1 + j * 3 + 2, none⟩) hb1).trans p2
  have i1 : (0 : Int) ≤ (j : Int) := by omega
  have i2 : (j : Int) < (cs.length : Int) := by omega
  clear hc
  go_enter Tryd.func165, Tryd.ntmps165
  go_wp2_with (go_at_call 151; refine (H.out _).mono ?_; rintro e w1 ⟨rfl, hB⟩; have B1 := Lib.hid (b0.out.trans (Below.mono hB b0.out.size)); have k10 : w1.cell? ⟨w.heap.size, 0, none⟩ = some (.string ⟨#[]⟩) := (hB.cell (p := ⟨w.heap.size, 0, none⟩) (by simp)).trans (by simp); have k11 : w1.cell? ⟨w.heap.size, 1, none⟩ = some (.int .i64 0) := (hB.cell (p := ⟨w.heap.size, 1, none⟩) (by simp)).trans (by simp); have k12 : w1.cell? ⟨w.heap.size, 2, none⟩ = some (.int .i64 0) := (hB.cell (p := ⟨w.heap.size, 2, none⟩) (by simp)).trans (by simp); have fz : ∀ q, w1.frozen? ⟨w.heap.size, q, none⟩ = false := (fun q => (hB.frozen (p := ⟨w.heap.size, q, none⟩) (by simp)).trans (by simp)); have q0 := (hB.cell (p := ⟨b1, o1 + j * 3, none⟩) (by simp; omega)).trans r0; have q1 := (hB.cell (p := ⟨b1, o1 + j * 3 + 1, none⟩) (by simp; omega)).trans r1; have q2 := (hB.cell (p := ⟨b1, o1 + j * 3 + 2, none⟩) (by simp; omega)).trans r2; clear hB)
  obtain ⟨e0, e1, e2⟩ := three_set (.string s) (.int .i64 a) (.int .i64 b) k10 k11 k12
  have B3 := ((B1.out.setCell (p := ⟨w.heap.size, 0, none⟩) (Nat.le_refl _) (.string s)).setCell (p := ⟨w.heap.size, 1, none⟩) (Nat.le_refl _) (.int .i64 a)).setCell (p := ⟨w.heap.size, 2, none⟩) (Nat.le_refl _) (.int .i64 b)
  generalize ((w1.setCell ⟨w.heap.size, 0, none⟩ (.string s)).setCell ⟨w.heap.size, 1, none⟩ (.int .i64 a)).setCell ⟨w.heap.size, 2, none⟩ (.int .i64 b) = W3 at *
  refine bodyPost_ret (by simp [results, Tryd.results165, go_sem, e0, e1, e2]; try rfl) rfl ?_
  exact ⟨rfl, B3⟩

set_option maxHeartbeats 1600000 in
theorem preferred_any (ad : Option Addr) (cs : List Et) (c : Nat) (j : Nat) (hj : j < cs.length) (w : World) (hc : EntsIn w ad cs) (hn : cs.length ≤ 9223372036854775807) :
    Calls Tryd.prog 153 #[.slice ad cs.length c, .int .i64 j] w fun e w' => e = .returned (.int .i64 (firstE cs j)) ∧ Below w.heap.size w w' := by
  have E := entry_any ad cs c j hj w hc hn
  unfold firstE
  unfold etVal at E
  clear hc hn
  generalize etAt cs j = x at *
  obtain ⟨s, a, b⟩ := x
  simp only at E ⊢
  have E := Lib.hid E
  have K := fun W => isPref_any s a b W
  by_cases ha : a = -1
  · rw [if_pos ha]
    have hb : (a == -1) = true := by simpa using ha
    rw [hb] at K
    have K := Lib.hid K
    clear ha hb
    go_enter Tryd.func153, Tryd.ntmps153
    go_wp2_with (first
      | (go_at_call 165; refine E.out.mono ?_; rintro e w1 ⟨rfl, hB⟩; have B1 := Lib.hid hB; clear hB)
      | (go_at_call 137; refine (K.out _).mono ?_; rintro e w2 ⟨rfl, hB⟩; have B2 := Lib.hid ((below_new B1.out _).trans (hB.mono (by have := B1.out.size; simp; omega))); clear hB))
    go_returns
    exact ⟨rfl, B2.out⟩
  · rw [if_neg ha]
    have hb : (a == -1) = false := by simpa using ha
    rw [hb] at K
    have K := Lib.hid K
    clear ha hb
    go_enter Tryd.func153, Tryd.ntmps153
    go_wp2_with (first
      | (go_at_call 165; refine E.out.mono ?_; rintro e w1 ⟨rfl, hB⟩; have B1 := Lib.hid hB; clear hB)
      | (go_at_call 137; refine (K.out _).mono ?_; rintro e w2 ⟨rfl, hB⟩; have B2 := Lib.hid ((below_new B1.out _).trans (hB.mono (by have := B1.out.size; simp; omega))); have k1 : w2.cell? ⟨w1.heap.size, 1, none⟩ = some (.int .i64 a) := (hB.cell (p := ⟨w1.heap.size, 1, none⟩) (by simp)).trans (by simp); clear hB))
    go_returns
    exact ⟨rfl, B2.out⟩

theorem path_any (ad : Option Addr) (n c : Nat) (x : Int) (w : World) :
    Calls Tryd.prog 138 #[.slice ad n c, .int .i64 x] w fun e w' => e = .returned (.func (.func 152) #[] #[.pointer (some ⟨w.heap.size, 0, none⟩), .pointer (some ⟨w.heap.size + 1, 0, none⟩)]) ∧ w'.cell? ⟨w.heap.size, 0, none⟩ = some (.slice ad n c) ∧ w'.cell? ⟨w.heap.size + 1, 0, none⟩ = some (.int .i64 x) ∧ w'.heap.size = w.heap.size + 2 ∧ Below w.heap.size w w' := by
  have hmf : ∀ (fn : Fn) (first cap : Array Value) (w : World), (Instr.makeFunc fn first cap).run Tryd.prog w = .ok (.func fn first cap) w := fun _ _ _ _ => rfl
  go_enter Tryd.func138, Tryd.ntmps138
  go_wp2
  go_returns
  exact ⟨rfl, (box2_0 ..).trans rfl, (box2_1 ..).trans rfl, by simp, (by repeat' (first | (with_reducible exact Below.refl _ _) | (with_reducible assumption) | (with_reducible refine below_drewN ?_ _) | (with_reducible refine Below.drew ?_) | (with_reducible refine below_new ?_ _) | (with_reducible refine below_next ?_ (by with_reducible assumption)) | (with_reducible refine Below.setCell ?_ ?_ _) | go_size))⟩

/-! ### The path, told entry by entry -/
/-- The first m entries of the path from p on. -/
def seg (cs : List Et) (p : Int) (m : Nat) : List Nat := (List.range m).map fun k => (up cs k p).toNat
theorem seg_len (cs : List Et) (p : Int) (m : Nat) : (seg cs p m).length = m := by unfold seg; simp
theorem seg_next (cs : List Et) (p : Int) (m : Nat) : seg cs p (m + 1) = seg cs p m ++ [(up cs m p).toNat] := by unfold seg; rw [List.range_succ, List.map_append]; rfl
/-- The first m entries of the path are there. -/
def There (cs : List Et) (p : Int) (m : Nat) : Prop := ∀ k, k < m → up cs k p ≠ -1
theorem There.next {cs : List Et} {p : Int} {m : Nat} (h : There cs p m) (hn : up cs m p ≠ -1) : There cs p (m + 1) := fun k hk => by
  by_cases e : k = m
  · subst e; exact hn
  · exact h k (by omega)
def PathBoxes (bc bi : Nat) (ad : Option Addr) (cs : List Et) (c : Nat) (j : Nat) (w : World) : Prop :=
  bc < w.heap.size ∧ bi < w.heap.size ∧ w.cell? ⟨bc, 0, none⟩ = some (.slice ad cs.length c) ∧ w.cell? ⟨bi, 0, none⟩ = some (.int .i64 j) ∧ EntsIn w ad cs
/-- What a round keeps: the iterator's box, and the catalogue. -/
def KpP (bc : Nat) (ad : Option Addr) (A B : World) : Prop := A.heap.size ≤ B.heap.size ∧ B.heap[bc]? = A.heap[bc]? ∧ ∀ b o, ad = some ⟨b, o, none⟩ → B.heap[b]? = A.heap[b]?
theorem KpP.trans {bc : Nat} {ad : Option Addr} {A B C : World} (h : KpP bc ad A B) (k : KpP bc ad B C) : KpP bc ad A C := ⟨Nat.le_trans h.1 k.1, k.2.1.trans h.2.1, fun b o e => (k.2.2 b o e).trans (h.2.2 b o e)⟩
theorem KpP.ents {bc : Nat} {ad : Option Addr} {A B : World} {cs : List Et} (h : KpP bc ad A B) (hc : EntsIn A ad cs) : EntsIn B ad cs := fun i hi => by
  obtain ⟨hf, b, o, ha, hlt, h0, h1, h2⟩ := hc i hi
  have e := h.2.2 b o ha
  exact ⟨hf, b, o, ha, Nat.lt_of_lt_of_le hlt h.1, (cell_same e).trans h0, (cell_same e).trans h1, (cell_same e).trans h2⟩

/-- At a round's beginning: m entries have been told, n more may come. -/
def PathAt (cs : List Et) (p : Int) (N bc c : Nat) (ad : Option Addr) (J : List Nat → World → Prop) (x : Value) (wr : World) (n : Nat) : Prop :=
  ∃ m : Nat, m + n = N + 1 ∧ x = .int .i64 (up cs m p) ∧ There cs p m ∧ J (seg cs p m) wr ∧ wr.cell? ⟨bc, 0, none⟩ = some (.slice ad cs.length c) ∧ EntsIn wr ad cs
theorem leastOf_lt {f g : Nat → Prop} {n : Nat} (h : f n) (hn : n < leastOf g) : (∃ n, f n) ∧ leastOf f < leastOf g := ⟨⟨n, h⟩, Nat.lt_of_le_of_lt ((leastOf_spec ⟨n, h⟩).2 n h) hn⟩
set_option maxRecDepth 100000 in
set_option maxHeartbeats 2000000 in
theorem path_by (bc bi : Nat) (ad : Option Addr) (cs : List Et) (c : Nat) (j : Nat) (hj : j < cs.length) (hn : cs.length ≤ 9223372036854775807) (hT : eTo cs cs.length = true) (N : Nat) (w : World) (hw : PathBoxes bc bi ad cs c j w) :
    SeqBy Tryd.prog 152 #[.pointer (some ⟨bc, 0, none⟩), .pointer (some ⟨bi, 0, none⟩)] (fun q : Nat => #[.int .i64 q, etVal (etAt cs q)]) (KpP bc ad) (fun A B => Below A.heap.size A B)
      (fun xs => ∃ m, xs = seg cs (firstE cs j) m ∧ There cs (firstE cs j) m ∧ up cs m (firstE cs j) = -1) (fun pre => ∃ m, pre = seg cs (firstE cs j) m ∧ There cs (firstE cs j) m ∧ 0 < m)
      (fun pre x => ∃ m, pre = seg cs (firstE cs j) m ∧ There cs (firstE cs j) (m + 1) ∧ x = (up cs m (firstE cs j)).toNat) (fun pre => pre.length ≤ N) w := by
  intro l J Jx W hW hJ hJx hBd hY h0
  obtain ⟨l1, l2, c1, c2, hE⟩ := hw
  have C1 := (hW.cell (p := ⟨bc, 0, none⟩) l1).trans c1
  have C2 := (hW.cell (p := ⟨bi, 0, none⟩) l2).trans c2
  have L1 : bc < W.heap.size := Nat.lt_of_lt_of_le l1 hW.size
  have E1 := Lib.hid (entsIn_below hE hW)
  have PF := Lib.hid fun W h => preferred_any ad cs c j hj W h hn
  have UP := Lib.hid (up_pref hT (firstE_pref hT hj))
  generalize firstE cs j = p at *
  clear hW hE c1 c2 l1 l2
  refine callsIn_of_wp Tryd.func152 rfl trivial ?_ rfl
  simp only [Tryd.ntmps152, List.size_toArray, List.length_cons, List.length_nil, Nat.reduceAdd, Nat.reduceSub, Array.replicate_succ, Array.replicate_zero, List.push_toArray, List.append_toArray, List.nil_append, List.cons_append]
  gi_wp2_with (refine ⟨trivial, rfl, ?_⟩; gi_at_call 153; refine (callsIn_wide.2 (PF.out _ E1.out)).mono ?_; rintro e w9 ⟨rfl, hB⟩; have E9 := Lib.hid (entsIn_below E1.out hB); have D1 := (hB.cell (p := ⟨bc, 0, none⟩) L1).trans C1; have h9 := Lib.hid (hJ _ _ _ h0 hB); clear hB)
  gi_loopw [4] (fun x wr => ∃ n, PathAt cs p N bc c ad J x wr n) (fun x wr => leastOf (PathAt cs p N bc c ad J x wr))
  case atStart => exact ⟨N + 1, 0, Nat.zero_add _, rfl, fun k hk => absurd hk (Nat.not_lt_zero _), h9.out, D1, E9.out⟩
  case round =>
    obtain ⟨⟨m, hm, hu, hTh, hJm, hc, hE⟩, _⟩ := leastOf_spec hrel
    subst hu
    clear hrel h9 D1 E9 h0 C1 C2 E1 PF
    have TH := Lib.hid hTh
    have bd := hBd _ _ hJm
    rw [seg_len] at bd
    by_cases hq : up cs m p = -1
    · have HQ := Lib.hid hq
      have JM := Lib.hid hJm
      rw [hq] at hm ⊢
      clear hq hY hJm hTh
      gi_wp2
      first | go_end0 | refine bodyPost_ret (results_none rfl _ _ _) rfl ?_
      exact ⟨⟨_, rfl⟩, .inl ⟨_, ⟨m, rfl, TH.out, HQ.out⟩, JM.out⟩⟩
    · have hp := pref_iff.1 ((UP.out m).resolve_left hq)
      obtain ⟨q, hQ⟩ : ∃ q : Nat, up cs m p = (q : Int) := ⟨(up cs m p).toNat, by omega⟩
      have TN := Lib.hid (hTh.next hq)
      have hs : seg cs p m ++ [q] = seg cs p (m + 1) := by rw [seg_next, hQ]; simp
      have hnx : up cs (m + 1) p = (etAt cs q).b := by rw [up, if_neg hq, hQ]; simp
      rw [hQ] at hp hm ⊢
      obtain ⟨fn, tmps, assign, body, hy, hR⟩ := hY (seg cs p m) q wr hJm ⟨m, rfl, TN.out, by rw [hQ]; simp⟩
      rw [hs] at hR
      have HN := Lib.hid hnx
      have hql : q < cs.length := by omega
      have q1 : (0 : Int) ≤ (q : Int) := by omega
      have q2 : (q : Int) < (cs.length : Int) := by omega
      have q3 : ((q : Int) != -1) = true := by simp
      obtain ⟨_, b1, o1, rfl, hb1, p0, p1, p2⟩ := hE q hql
      have HE := Lib.hid hE
      clear hq hQ hY hJm hTh hs hnx hp hE
      have hy2 : (Instr.yield l #[.int .i64 q, .agg #[.string (etAt cs q).s, .int .i64 (etAt cs q).a, .int .i64 (etAt cs q).b]]).run Tryd.prog wr = _ := hy
      clear hy
      gi_wp2
      refine ⟨rfl, hR.mono ?_⟩
      rintro e W2 (⟨rfl, hJ2, hk⟩ | ⟨rfl, hJ2⟩)
      · have E2 := Lib.hid (hk.ents HE.out)
        have d1 := (cell_same hk.2.1).trans hc
        have r2 := (cell_same (hk.2.2 b1 o1 rfl)).trans p2
        have bd2 := hBd _ _ hJ2
        rw [seg_len] at bd2
        have J2 := Lib.hid hJ2
        clear hk hJ2 hc p0 p1 p2
        gi_wp2
        exact leastOf_lt (n := N - m) ⟨m + 1, by omega, by rw [HN.out], TN.out, J2.out, d1, E2.out⟩ (by omega)
      · have J2 := Lib.hid hJ2
        clear hJ2
        gi_wp2
        first | go_end0 | refine bodyPost_ret (results_none rfl _ _ _) rfl ?_
        exact ⟨⟨_, rfl⟩, .inr ⟨_, ⟨m + 1, rfl, TN.out, Nat.succ_pos _⟩, J2.out⟩⟩
end Go.Proofs.YtppjmngnjdeigaaDoor
