/- Masks in slices, gathered, joined; the iterator of the masks that have some holes: for tables. -/
import Derived.Test.YtanocllpmjhblaaDoorCrds
import Derived.Test.YtanocllpmjhblaaDoorCard
import Derived.Test.YtanocllpmjhblaaDoorMPart
import Derived.Test.YtanocllpmjhblaaDoorMaskOf
import Derived.Test.YtanocllpmjhblaaDoorWithin
import Derived.Test.YtanocllpmjhblaaDoorRngO
import Derived.Test.YtanocllpmjhblaaDoorBoxes
import Derived.Test.YtanocllpmjhblaaDoorDeck
import Derived.RangeFuncBox
import Derived.OneCell
import Derived.Below
import Derived.Laws.MakeOwn
namespace Go.Proofs.YtanocllpmjhblaaDoor
open Go.ChangeShapes Go.WideShapes Go.ChangeAt Go.RowKit

/-- The masks of a slice lie in memory. -/
def MasksIn (w : World) (a : Option Addr) (ms : List (Int × Int)) : Prop := ∀ i, i < ms.length → ∃ b off, a = some ⟨b, off, none⟩ ∧ b < w.heap.size ∧ w.cell? ⟨b, off + i * 2, none⟩ = some (.int .u64 (ms.getD i (0, 0)).1) ∧ w.cell? ⟨b, off + i * 2 + 1, none⟩ = some (.int .u64 (ms.getD i (0, 0)).2)
theorem masksIn_below {w w' : World} {a : Option Addr} {ms : List (Int × Int)} (h : MasksIn w a ms) (hb : Below w.heap.size w w') : MasksIn w' a ms := fun i hi => by
  obtain ⟨b, off, ha, hlt, hc, hd⟩ := h i hi
  exact ⟨b, off, ha, Nat.lt_of_lt_of_le hlt hb.size, (hb.cell hlt).trans hc, (hb.cell hlt).trans hd⟩
theorem info_maskW : (Tryd.prog.info? 26).map (fun i => (i.zero, i.size, i.bytes)) = some (some (.agg #[.int .u64 0, .int .u64 0]), 2, 16) := by kernel_rfl
theorem row_slice {w : World} {B e k n : Nat} {v : Value} {xs : List Value} (h : w.ownsRow B e k v n xs) : ∃ a c, v = .slice a n c := by
  obtain ⟨_, h2⟩ := h
  rcases h2 with ⟨rfl, hn⟩ | ⟨g, cap, _, rfl, _⟩
  · exact ⟨none, 0, by rw [hn]⟩
  · exact ⟨_, _, rfl⟩

theorem row_kept {w w' : World} {B e k n : Nat} {v : Value} {xs : List Value} (h : w.ownsRow B e k v n xs) (hb : Below w.heap.size w w') : w'.ownsRow B e k v n xs := by
  obtain ⟨h1, h2⟩ := h
  refine ⟨h1, ?_⟩
  rcases h2 with hn | ⟨b, cap, cur, rfl, hB, hh, rest⟩
  · exact .inl hn
  · exact .inr ⟨b, cap, cur, rfl, hB, (hb.block b (Array.getElem?_eq_some_iff.1 hh).1).trans hh, rest⟩

theorem m_new (w : World) (x y : Value) (t : TypeId) : ∀ j u, [x, y][j]? = some u → (w.alloc (.cells #[x, y] t)).cell? ((⟨w.heap.size, 0, none⟩ : Addr).add j) = some u := by
  intro j u h
  match j, h with
  | 0, h => simp at h; subst h; simp [Addr.add]
  | 1, h => simp at h; subst h; simp [Addr.add]

theorem ab_new (w : World) (o : Obj) : Ab w (w.alloc o) := below_new (Below.refl _ _) _
def flatM : List (Int × Int) → List Value
  | [] => []
  | m :: ms => .int .u64 m.1 :: .int .u64 m.2 :: flatM ms
theorem flatM_app : ∀ (xs ys : List (Int × Int)), flatM (xs ++ ys) = flatM xs ++ flatM ys
  | [], _ => rfl
  | m :: xs, ys => by simp only [List.cons_append, flatM, flatM_app xs ys]
theorem flatM_len : ∀ ms : List (Int × Int), (flatM ms).length = ms.length * 2
  | [] => rfl
  | m :: ms => by simp only [flatM, List.length_cons, flatM_len ms]; omega
theorem flatM_get : ∀ (ms : List (Int × Int)) (i : Nat), i < ms.length → (flatM ms)[i * 2]? = some (.int .u64 (ms.getD i (0, 0)).1) ∧ (flatM ms)[i * 2 + 1]? = some (.int .u64 (ms.getD i (0, 0)).2)
  | [], i, h => absurd h (Nat.not_lt_zero _)
  | m :: ms, 0, _ => ⟨rfl, rfl⟩
  | m :: ms, i + 1, h => by
    have := flatM_get ms i (by simpa using h)
    rw [show (i + 1) * 2 = i * 2 + 1 + 1 by omega]
    exact this

/-- Masks of the call's own. -/
def OwnMs (B : Nat) (ms : List (Int × Int)) (v : Value) (w : World) : Prop := w.ownsRow B 26 2 v ms.length (flatM ms)
theorem ownMs_in {B : Nat} {ms : List (Int × Int)} {v : Value} {w : World} (h : OwnMs B ms v w) : ∃ a c, v = .slice a ms.length c ∧ MasksIn w a ms := by
  have h0 := h
  obtain ⟨_, h2⟩ := h
  rcases h2 with ⟨rfl, hn⟩ | ⟨g, cap, cur, rfl, hb, hg, _⟩
  · exact ⟨none, 0, by rw [hn], fun i hi => by omega⟩
  · refine ⟨_, cap, rfl, fun i hi => ⟨g, 0, rfl, (Array.getElem?_eq_some_iff.1 hg).1, ?_, ?_⟩⟩
    · rw [Nat.zero_add, World.ownsRow.cellAt h0 _ (by omega)]; exact (flatM_get ms i hi).1
    · rw [Nat.zero_add, World.ownsRow.cellAt h0 _ (by omega)]; exact (flatM_get ms i hi).2

theorem ownMs_kept {B : Nat} {ms : List (Int × Int)} {v : Value} {w w' : World} (h : OwnMs B ms v w) (hb : Below w.heap.size w w') : OwnMs B ms v w' := row_kept h hb
theorem ownMs_weaken {B B' : Nat} {ms : List (Int × Int)} {v : Value} {w : World} (h : OwnMs B ms v w) (hb : B' ≤ B) : OwnMs B' ms v w := by
  obtain ⟨h1, h2⟩ := h
  refine ⟨h1, ?_⟩
  rcases h2 with hn | ⟨g, cap, cur, rfl, hB, rest⟩
  · exact .inl hn
  · exact .inr ⟨g, cap, cur, rfl, Nat.le_trans hb hB, rest⟩

theorem ownMs_nil (B : Nat) (w : World) : OwnMs B [] (.slice none 0 0) w := ⟨rfl, .inl ⟨rfl, rfl⟩⟩
theorem ownMs_none {w : World} {n B : Nat} (hn : n = w.heap.size) (hB : B ≤ w.heap.size) : OwnMs B [] (.slice (some ⟨n, 0, none⟩) 0 0) (w.alloc (.cells #[] 26)) := by
  subst hn; exact World.ownsRow_made w #[] 0 hB (Nat.zero_le _) rfl
theorem ownMs_push {B : Nat} {ms : List (Int × Int)} {x y : Int} {v : Value} {w : World} (h : w.ownsRow B 26 2 v (ms.length + 1) (flatM ms ++ [.int .u64 x, .int .u64 y])) : OwnMs B (ms ++ [(x, y)]) v w := by
  unfold OwnMs; rw [flatM_app, List.length_append]; exact h
theorem ownMs_lt {B : Nat} {ms : List (Int × Int)} {v : Value} {w : World} (h : OwnMs B ms v w) : ∀ j, v.ownBlock = some j → B ≤ j := fun j hj => (World.ownsRow.lt h j hj).1
/-- Masks of the call's own. -/
def MsR (ms : List (Int × Int)) (w : World) (e : Ending) (w' : World) : Prop := ∃ v, e = .returned v ∧ OwnMs w.heap.size ms v w' ∧ Below w.heap.size w w'
/-- The masks of a list together, word by word. -/
def jn0 (ms : List (Int × Int)) : Nat → Int
  | 0 => 0
  | k + 1 => bits .or .u64 (jn0 ms k) (ms.getD k (0, 0)).1
def jn1 (ms : List (Int × Int)) : Nat → Int
  | 0 => 0
  | k + 1 => bits .or .u64 (jn1 ms k) (ms.getD k (0, 0)).2
/-- The two boxes of masks that are joined: the answer's, still empty, and the mask's. -/
structure Jo (w wr : World) (x y : Int) : Prop where
  r0 : wr.cell? ⟨w.heap.size, 0, none⟩ = some (.int .u64 0)
  r1 : wr.cell? ⟨w.heap.size, 1, none⟩ = some (.int .u64 0)
  m0 : wr.cell? ⟨w.heap.size + 1, 0, none⟩ = some (.int .u64 x)
  m1 : wr.cell? ⟨w.heap.size + 1, 1, none⟩ = some (.int .u64 y)
  sz : w.heap.size + 1 < wr.heap.size
  be : Below w.heap.size w wr
  fr : ∀ j, wr.frozen? ⟨w.heap.size, j, none⟩ = false
  fm : ∀ j, wr.frozen? ⟨w.heap.size + 1, j, none⟩ = false

theorem Jo.below {w wr w2 : World} {x y : Int} (h : Jo w wr x y) (hB : Below wr.heap.size wr w2) : Jo w w2 x y := by
  obtain ⟨r0, r1, m0, m1, sz, be, fr, fm⟩ := h
  have s0 : w.heap.size < wr.heap.size := by omega
  exact ⟨(hB.cell (p := ⟨w.heap.size, 0, none⟩) s0).trans r0, (hB.cell (p := ⟨w.heap.size, 1, none⟩) s0).trans r1, (hB.cell (p := ⟨w.heap.size + 1, 0, none⟩) sz).trans m0, (hB.cell (p := ⟨w.heap.size + 1, 1, none⟩) sz).trans m1, Nat.lt_of_lt_of_le sz hB.size, be.trans (hB.mono be.size), fun j => (hB.frozen (p := ⟨w.heap.size, j, none⟩) s0).trans (fr j), fun j => (hB.frozen (p := ⟨w.heap.size + 1, j, none⟩) sz).trans (fm j)⟩
theorem Jo.set {w wr : World} {x y : Int} (h : Jo w wr x y) (p q : Int) : Jo w ((wr.setCell ⟨w.heap.size + 1, 0, none⟩ (.int .u64 p)).setCell ⟨w.heap.size + 1, 1, none⟩ (.int .u64 q)) p q := by
  obtain ⟨r0, r1, m0, m1, sz, be, fr, fm⟩ := h
  refine ⟨?_, ?_, ?_, ?_, ?_, ?_, fun j => ?_, fun j => ?_⟩
  · rw [World.cell?_setCell_other (h := by simp), World.cell?_setCell_other (h := by simp)]; exact r0
  · rw [World.cell?_setCell_other (h := by simp), World.cell?_setCell_other (h := by simp)]; exact r1
  · rw [World.cell?_setCell_other (h := by simp), World.cell?_setCell_same (h := m0)]
  · rw [World.cell?_setCell_same (h := by rw [World.cell?_setCell_other (h := by simp)]; exact m1)]
  · simpa using sz
  · exact (be.setCell (show w.heap.size ≤ w.heap.size + 1 by omega) _).setCell (show w.heap.size ≤ w.heap.size + 1 by omega) _
  · simpa using fr j
  · simpa using fm j

set_option maxHeartbeats 1600000 in
theorem iJoinAll_any (a : Option Addr) (ms : List (Int × Int)) (c : Nat) (w : World) (h : MasksIn w a ms) (hl : ms.length ≤ 1048576) :
    Calls Tryd.prog 39 #[.slice a ms.length c] w fun e w' => e = .returned (.agg #[.int .u64 (jn0 ms ms.length), .int .u64 (jn1 ms ms.length)]) ∧ Below w.heap.size w w' := by
  have A := Lib.hid h
  clear h
  have J0 : Jo w ((w.alloc (.cells #[.int .u64 0, .int .u64 0] 26)).alloc (.cells #[.int .u64 0, .int .u64 0] 26)) 0 0 := ⟨by simp, by simp, by simp, by simp, by simp, below_new (below_new (Below.refl _ _) _) _, fun j => by simp, fun j => by simp⟩
  have J := Lib.hid J0
  clear J0
  go_enter Tryd.func39, Tryd.ntmps39
  go_wp2
  go_loopw [8] (fun i wr => ∃ k : Nat, k ≤ ms.length ∧ i = .int .i64 k ∧ Jo w wr (jn0 ms k) (jn1 ms k)) (fun i _ => ms.length - (intOf i).toNat)
  case atStart => exact ⟨0, Nat.zero_le _, rfl, J.out⟩
  case round =>
    obtain ⟨k, hk, rfl, hM⟩ := hrel
    have M := Lib.hid hM
    by_cases hkl : k < ms.length
    · obtain ⟨b, off, rfl, hb, p0, p1⟩ := A.out k hkl
      have d0 := (hM.be.cell (p := ⟨b, off + k * 2, none⟩) hb).trans p0
      have d1 := (hM.be.cell (p := ⟨b, off + k * 2 + 1, none⟩) hb).trans p1
      have hb2 : b < wr.heap.size := Nat.lt_of_lt_of_le hb hM.be.size
      have hd : decide ((k : Int) < (ms.length : Int)) = true := by simpa using hkl
      have i1 : (0 : Int) ≤ (k : Int) := by omega
      have i2 : (k : Int) < (ms.length : Int) := by omega
      have e0 := Lib.hid (show jn0 ms (k + 1) = bits .or .u64 (jn0 ms k) (ms.getD k (0, 0)).1 from rfl)
      have e1 := Lib.hid (show jn1 ms (k + 1) = bits .or .u64 (jn1 ms k) (ms.getD k (0, 0)).2 from rfl)
      obtain ⟨r0, r1, m0, m1, sz, _, fr, fm⟩ := hM
      have s0 : w.heap.size < wr.heap.size := by omega
      generalize jn0 ms k = x at *
      generalize jn1 ms k = y at *
      generalize (ms.getD k (0, 0)).1 = u at *
      generalize (ms.getD k (0, 0)).2 = v at *
      clear p0 p1 hb
      go_wp2_with (go_at_call 66; refine (iJoin_below _ _ _ _ _).mono ?_; rintro e w1 ⟨rfl, hB⟩; have M1 := Lib.hid ((M.out.below (below_new (Below.refl _ _) (.cells #[.int .u64 u, .int .u64 v] 26))).below hB); obtain ⟨t0, t1, q0, q1, tz, _, tf, tm⟩ := M1.out; have t3 := tm 0; have t4 := tm 1)
      all_goals exact ⟨⟨k + 1, hkl, by rw [Int.natCast_succ], by rw [e0.out, e1.out]; exact M1.out.set _ _⟩, by simp [intOf]; omega⟩
    · have e : k = ms.length := by omega
      subst e
      have hd : decide ((ms.length : Int) < (ms.length : Int)) = false := by simp
      obtain ⟨r0, r1, m0, m1, sz, be, fr, fm⟩ := hM
      have s0 : w.heap.size < wr.heap.size := by omega
      have f0 := fr 0
      have f1 := fr 1
      clear be fr fm
      go_wp2
      refine bodyPost_ret (by simp [results, Tryd.results39, go_sem, r0, r1]; try rfl) rfl ?_
      exact ⟨rfl, (M.out.be.setCell (Nat.le_refl _) _).setCell (Nat.le_refl _) _⟩

/-- The indices below k for which a test says yes. -/
def idx (p : Nat → Bool) : Nat → List Int
  | 0 => []
  | k + 1 => if p k then idx p k ++ [(k : Int)] else idx p k
theorem idx_yes {p : Nat → Bool} {k : Nat} (h : p k = true) : idx p (k + 1) = idx p k ++ [(k : Int)] := by show (if _ then _ else _) = _; rw [if_pos h]
theorem idx_no {p : Nat → Bool} {k : Nat} (h : p k = false) : idx p (k + 1) = idx p k := by show (if _ then _ else _) = _; rw [if_neg (by rw [h]; decide)]
theorem idx_len (p : Nat → Bool) : ∀ k, (idx p k).length ≤ k
  | 0 => Nat.le_refl _
  | k + 1 => by
    have := idx_len p k
    cases h : p k
    · rw [idx_no h]; omega
    · rw [idx_yes h, List.length_append]; simp; omega

theorem idx_mem (p : Nat → Bool) (x : Int) : ∀ k, x ∈ idx p k ↔ ∃ j : Nat, j < k ∧ p j = true ∧ x = (j : Int)
  | 0 => by simp [idx]
  | k + 1 => by
    have ih := idx_mem p x k
    cases h : p k
    · rw [idx_no h, ih]
      constructor
      · rintro ⟨j, h1, h2, h3⟩; exact ⟨j, by omega, h2, h3⟩
      · rintro ⟨j, h1, h2, h3⟩
        refine ⟨j, ?_, h2, h3⟩
        rcases Nat.lt_succ_iff_lt_or_eq.1 h1 with q | q
        · exact q
        · subst q; rw [h] at h2; cases h2
    · rw [idx_yes h, List.mem_append, ih]
      constructor
      · rintro (⟨j, h1, h2, h3⟩ | hx)
        · exact ⟨j, by omega, h2, h3⟩
        · exact ⟨k, by omega, h, by simpa using hx⟩
      · rintro ⟨j, h1, h2, h3⟩
        rcases Nat.lt_succ_iff_lt_or_eq.1 h1 with q | q
        · exact .inl ⟨j, q, h2, h3⟩
        · subst q; exact .inr (by simp [h3])

theorem idx_congr {p q : Nat → Bool} : ∀ {k : Nat}, (∀ j, j < k → p j = q j) → idx p k = idx q k
  | 0, _ => rfl
  | k + 1, h => by
    have ih := idx_congr (p := p) (q := q) (k := k) fun j hj => h j (by omega)
    have hk := h k (Nat.lt_succ_self k)
    cases hp : p k
    · rw [idx_no hp, idx_no (hk ▸ hp), ih]
    · rw [idx_yes hp, idx_yes (hk ▸ hp), ih]

/-- Are the holes x, y within a mask? -/
def wm (x y : Int) (m : Int × Int) : Bool := bits .and .u64 x m.1 == x && bits .and .u64 y m.2 == y
/-- The masks that have the holes x, y. -/
def dropsAt (x y : Int) (ms : List (Int × Int)) (k : Nat) : Bool := wm x y (ms.getD k (0, 0))
attribute [local go_sem] Oper.semAt_some
theorem cell_eq {A B : World} {b o : Nat} (h : B.heap[b]? = A.heap[b]?) : B.cell? ⟨b, o, none⟩ = A.cell? ⟨b, o, none⟩ := by unfold World.cell?; simp only [h]
/-- What a round keeps: the iterator's two boxes, and the masks. -/
def KpD (L bm bh : Nat) (ad : Option Addr) (A B : World) : Prop := A.heap.size ≤ B.heap.size ∧ B.heap[bm]? = A.heap[bm]? ∧ B.heap[bh]? = A.heap[bh]? ∧ ∀ b o, ad = some ⟨b, o, none⟩ → b < L → B.heap[b]? = A.heap[b]?
theorem KpD.trans {L bm bh : Nat} {ad : Option Addr} {A B C : World} (h : KpD L bm bh ad A B) (k : KpD L bm bh ad B C) : KpD L bm bh ad A C := ⟨Nat.le_trans h.1 k.1, k.2.1.trans h.2.1, k.2.2.1.trans h.2.2.1, fun b o e l => (k.2.2.2 b o e l).trans (h.2.2.2 b o e l)⟩
theorem KpD.masks {L bm bh : Nat} {ad : Option Addr} {A B : World} {ms : List (Int × Int)} (h : KpD L bm bh ad A B) (hL : ∀ b o, ad = some ⟨b, o, none⟩ → 0 < ms.length → b < L) (hc : MasksIn A ad ms) : MasksIn B ad ms := fun i hi => by
  obtain ⟨b, o, ha, hlt, h0, h1⟩ := hc i hi
  have e := h.2.2.2 b o ha (hL b o ha (by omega))
  exact ⟨b, o, ha, Nat.lt_of_lt_of_le hlt h.1, (cell_eq e).trans h0, (cell_eq e).trans h1⟩
theorem dropping_any (ad : Option Addr) (n c : Nat) (x y : Int) (w : World) :
    Calls Tryd.prog 46 #[.slice ad n c, .agg #[.int .u64 x, .int .u64 y]] w fun e w' => e = .returned (.func (.func 71) #[] #[.pointer (some ⟨w.heap.size, 0, none⟩), .pointer (some ⟨w.heap.size + 1, 0, none⟩)]) ∧ w'.cell? ⟨w.heap.size, 0, none⟩ = some (.slice ad n c) ∧ (w'.cell? ⟨w.heap.size + 1, 0, none⟩ = some (.int .u64 x) ∧ w'.cell? ⟨w.heap.size + 1, 1, none⟩ = some (.int .u64 y)) ∧ w'.heap.size = w.heap.size + 2 ∧ Below w.heap.size w w' := by
  have hmf : ∀ (fn : Fn) (first cap : Array Value) (w : World), (Instr.makeFunc fn first cap).run Tryd.prog w = .ok (.func fn first cap) w := fun _ _ _ _ => rfl
  go_enter Tryd.func46, Tryd.ntmps46
  go_wp2
  go_returns
  exact ⟨rfl, (box2_0 ..).trans rfl, ⟨(box2_1 ..).trans rfl, (box2_1 ..).trans rfl⟩, by simp, (by repeat' (first | (with_reducible exact Below.refl _ _) | (with_reducible assumption) | (with_reducible refine below_drewN ?_ _) | (with_reducible refine Below.drew ?_) | (with_reducible refine below_new ?_ _) | (with_reducible refine below_next ?_ (by with_reducible assumption)) | (with_reducible refine Below.setCell ?_ ?_ _) | go_size))⟩

set_option maxRecDepth 100000 in
set_option maxHeartbeats 2000000 in
theorem dropping_by (bm bh : Nat) (ad : Option Addr) (ms : List (Int × Int)) (c : Nat) (x y : Int) (nb : ms.length ≤ 1048576) (w : World) (l1 : bm < w.heap.size) (l2 : bh < w.heap.size) (c1 : w.cell? ⟨bm, 0, none⟩ = some (.slice ad ms.length c)) (c2 : w.cell? ⟨bh, 0, none⟩ = some (.int .u64 x)) (c3 : w.cell? ⟨bh, 1, none⟩ = some (.int .u64 y)) (hM : MasksIn w ad ms) :
    SeqBy Tryd.prog 71 #[.pointer (some ⟨bm, 0, none⟩), .pointer (some ⟨bh, 0, none⟩)] (fun i : Int => #[.int .i64 i]) (KpD w.heap.size bm bh ad) (fun A B => Below A.heap.size A B)
      (fun xs => xs = idx (dropsAt x y ms) ms.length) (fun _ => True)
      (fun pre i => ∃ k : Nat, k < ms.length ∧ dropsAt x y ms k = true ∧ pre = idx (dropsAt x y ms) k ∧ i = (k : Int)) (fun _ => True) w := by
  intro l J Jx W hW hJ hJx _ hY h0
  have C1 := (hW.cell (p := ⟨bm, 0, none⟩) l1).trans c1
  have C2 := (hW.cell (p := ⟨bh, 0, none⟩) l2).trans c2
  have C3 := (hW.cell (p := ⟨bh, 1, none⟩) l2).trans c3
  have L2 : bh < W.heap.size := Nat.lt_of_lt_of_le l2 hW.size
  have E1 := Lib.hid (masksIn_below hM hW)
  have HL := Lib.hid (show ∀ b o, ad = some ⟨b, o, none⟩ → 0 < ms.length → b < w.heap.size from fun b o e h => by obtain ⟨b', o', e', hlt, _⟩ := hM 0 h; rw [e] at e'; cases e'; exact hlt)
  have HY := Lib.hid hY
  have HJ := Lib.hid hJ
  have J0 := Lib.hid h0
  have IW := Lib.hid fun m1 m2 W => iWithin_any x y m1 m2 W
  clear hW hM c1 c2 c3 l1 l2 hY hJ h0
  refine callsIn_of_wp Tryd.func71 rfl trivial ?_ rfl
  simp only [Tryd.ntmps71, List.size_toArray, List.length_cons, List.length_nil, Nat.reduceAdd, Nat.reduceSub, Array.replicate_succ, Array.replicate_zero, List.push_toArray, List.append_toArray, List.nil_append, List.cons_append]
  gi_wp2
  gi_loopw [8] (fun i wr => ∃ k : Nat, k ≤ ms.length ∧ i = .int .i64 k ∧ J (idx (dropsAt x y ms) k) wr ∧ (wr.cell? ⟨bh, 0, none⟩ = some (.int .u64 x) ∧ wr.cell? ⟨bh, 1, none⟩ = some (.int .u64 y) ∧ bh < wr.heap.size) ∧ MasksIn wr ad ms) (fun i _ => ms.length - (intOf i).toNat)
  case atStart => exact ⟨0, Nat.zero_le _, rfl, J0.out, ⟨C2, C3, L2⟩, E1.out⟩
  case round =>
    obtain ⟨k, hk, rfl, hJp, ⟨k2, k3, y2⟩, hMk⟩ := hrel
    have JP := Lib.hid hJp
    have MK := Lib.hid hMk
    clear hJp hMk E1 J0 C1 C2 C3 L2
    by_cases hkl : k < ms.length
    · have hdd : decide ((k : Int) < (ms.length : Int)) = true := by simpa using hkl
      obtain ⟨b1, o1, rfl, hb1, p0, p1⟩ := MK.out k hkl
      have i1 : (0 : Int) ≤ (k : Int) := by omega
      have i2 : (k : Int) < (ms.length : Int) := by omega
      have x1 : IntKind.i64.wrap ((k : Int) + 1) = (k : Int) + 1 := IntWalk.i64_in _ (by omega)
      have I := fun W => IW.out (ms.getD k (0, 0)).1 (ms.getD k (0, 0)).2 W
      change ∀ W : World, Calls _ _ _ W (fun e w' => e = .returned (.bool (dropsAt x y ms k)) ∧ Below W.heap.size W w') at I
      have YES := fun h => Lib.hid (idx_yes (p := dropsAt x y ms) (k := k) h)
      have NO := fun h => Lib.hid (idx_no (p := dropsAt x y ms) (k := k) h)
      have AS := fun h => Lib.hid (show ∃ k' : Nat, k' < ms.length ∧ dropsAt x y ms k' = true ∧ idx (dropsAt x y ms) k = idx (dropsAt x y ms) k' ∧ (k : Int) = (k' : Int) from ⟨k, hkl, h, rfl, rfl⟩)
      have yr : b1 < wr.heap.size := hb1
      generalize (ms.getD k (0, 0)).1 = m1 at *
      generalize (ms.getD k (0, 0)).2 = m2 at *
      cases hq : dropsAt x y ms k
      · have NN := NO hq
        rw [hq] at I
        have I := Lib.hid I
        clear YES NO AS hq HY
        gi_wp2_with (first | (refine ⟨trivial, rfl, ?_⟩; gi_at_call 72; refine (callsIn_wide.2 (I.out _)).mono ?_; rintro e w9 ⟨rfl, hB⟩; have D9 := Lib.hid (Ab.trans (ab_new wr _) hB); clear hB) | (refine ⟨fun _ hf => absurd hf (by simp), ?_⟩))
        all_goals exact ⟨⟨k + 1, hkl, by rw [Int.natCast_succ], by rw [NN.out]; exact HJ.out _ _ _ JP.out D9.out, ⟨(D9.out.cell (p := ⟨bh, 0, none⟩) y2).trans k2, (D9.out.cell (p := ⟨bh, 1, none⟩) y2).trans k3, Nat.lt_of_lt_of_le y2 D9.out.size⟩, masksIn_below MK.out D9.out⟩, by (simp [intOf]) <;> omega⟩
      · have YY := YES hq
        have AK := AS hq
        rw [hq] at I
        have I := Lib.hid I
        clear YES NO AS hq
        gi_wp2_with (refine ⟨trivial, rfl, ?_⟩; gi_at_call 72; refine (callsIn_wide.2 (I.out _)).mono ?_; rintro e w9 ⟨rfl, hB⟩; have D9 := Lib.hid (Ab.trans (ab_new wr _) hB); have J9 := HJ.out _ _ _ JP.out D9.out; obtain ⟨fn, tmps, assign, body, hy, hR⟩ := HY.out _ (k : Int) w9 J9 AK.out; have hy2 : (Instr.yield l #[.int .i64 (k : Int)]).run Tryd.prog w9 = _ := hy; clear hB hy J9)
        refine ⟨rfl, hR.mono ?_⟩
        rintro e W2 (⟨rfl, hJ2, hk2⟩ | ⟨rfl, hJ2⟩)
        · have M2 := Lib.hid (hk2.masks HL.out (masksIn_below MK.out D9.out))
          have q2 := (cell_eq (o := 0) hk2.2.2.1).trans ((D9.out.cell (p := ⟨bh, 0, none⟩) y2).trans k2)
          have q3 := (cell_eq (o := 1) hk2.2.2.1).trans ((D9.out.cell (p := ⟨bh, 1, none⟩) y2).trans k3)
          have z2 : bh < W2.heap.size := Nat.lt_of_lt_of_le (Nat.lt_of_lt_of_le y2 D9.out.size) hk2.1
          have J2 := Lib.hid hJ2
          clear hk2 hJ2
          gi_wp2
          exact ⟨⟨k + 1, hkl, by rw [Int.natCast_succ], by rw [YY.out]; exact J2.out, ⟨q2, q3, z2⟩, M2.out⟩, by (simp [intOf]) <;> omega⟩
        · have J2 := Lib.hid hJ2
          clear hJ2
          gi_wp2
          first | go_end0 | refine bodyPost_ret (results_none rfl _ _ _) rfl ?_
          exact ⟨⟨_, rfl⟩, .inr ⟨_, trivial, J2.out⟩⟩
    · have e : k = ms.length := by omega
      subst e
      have hdd : decide ((ms.length : Int) < (ms.length : Int)) = false := by simp
      clear HY
      gi_wp2
      first | go_end0 | refine bodyPost_ret (results_none rfl _ _ _) rfl ?_
      exact ⟨⟨_, rfl⟩, .inl ⟨_, rfl, JP.out⟩⟩

end Go.Proofs.YtanocllpmjhblaaDoor
