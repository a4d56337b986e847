/- Contracts: a card worn by chance, the program's and the model's. -/
import Derived.Test.YthkmahcdojoioaaWear2
import Derived.Test.YthkmahcdojoioaaWorn
import Derived.Deep.DeepCutAuto
namespace Go.Proofs.Ythkmahcdojoioaa
open Go.ChangeShapes Go.WideShapes Go.ChangeAt Go.RowKit

theorem orN (x u : Nat) (hx : x < 2 ^ 64) (hu : u < 2 ^ 64) : bits .or .u64 (x : Int) (u : Int) = ((x ||| u : Nat) : Int) := by
  rw [Go.u64_or _ _ (by omega) (by omega) (by omega) (by omega)]
  simp
theorem iJoinC (x y u v : Nat) (hx : x < 2 ^ 64) (hy : y < 2 ^ 64) (hu : u < 2 ^ 64) (hv : v < 2 ^ 64) (w : World) :
    Calls Try.prog 55 #[.agg #[.int .u64 (x : Int), .int .u64 (y : Int)], .agg #[.int .u64 (u : Int), .int .u64 (v : Int)]] w fun e w' => e = .returned (.agg #[.int .u64 ((x ||| u : Nat) : Int), .int .u64 ((y ||| v : Nat) : Int)]) ∧ Below w.heap.size w w' :=
  (iJoin_below x y u v w).mono fun e w' ⟨he, hw⟩ => ⟨by rw [he, orN x u hx hu, orN y v hy hv], hw⟩
theorem sJoinC (x y u v : Nat) (hx : x < 2 ^ 64) (hy : y < 2 ^ 64) (hu : u < 2 ^ 64) (hv : v < 2 ^ 64) (w : World) :
    Calls Try.prog 53 #[.agg #[.int .u64 (x : Int), .int .u64 (y : Int)], .agg #[.int .u64 (u : Int), .int .u64 (v : Int)]] w fun e w' => e = .returned (.agg #[.int .u64 ((x ||| u : Nat) : Int), .int .u64 ((y ||| v : Nat) : Int)]) ∧ Below w.heap.size w w' :=
  (sJoin_below x y u v w).mono fun e w' ⟨he, hw⟩ => ⟨by rw [he, orN x u hx hu, orN y v hy hv], hw⟩
theorem iOneC (k : Nat) (hk : k < 96) (w : World) :
    Calls Try.prog 64 #[.int .i64 (k : Int)] w fun e w' => e = .returned (.agg #[.int .u64 (B0 k : Int), .int .u64 (B1 k : Int)]) ∧ Below w.heap.size w w' :=
  (iOne_any k (by omega) (by omega) w).mono fun e w' ⟨he, hb⟩ => ⟨by rw [he, b0_B0, b1_B1], hb⟩
theorem sBitC (k : Nat) (hk : k < 96) (w : World) :
    Calls Try.prog 61 #[.int .i64 (k : Int)] w fun e w' => e = .returned (.agg #[.int .u64 (B0 k : Int), .int .u64 (B1 k : Int)]) ∧ Below w.heap.size w w' :=
  (sBit_any k (by omega) (by omega) w).mono fun e w' ⟨he, hb⟩ => ⟨by rw [he, b0_B0, b1_B1], hb⟩
theorem iHasC (k : Nat) (hk : k < 96) (a b : Int) (ha : U64 a) (hb : U64 b) (w : World) :
    Calls Try.prog 65 #[.agg #[.int .u64 (B0 k : Int), .int .u64 (B1 k : Int)], .agg #[.int .u64 a, .int .u64 b]] w fun e w' => e = .returned (.bool (hasB a b k)) ∧ Below w.heap.size w w' := by
  rw [← b0_B0, ← b1_B1, ← within_bit a b k ha hb (by omega) (by omega)]
  exact iWithin_any _ _ _ _ w
theorem lc_two (a : Int) : (1664525 * a % 4294967296 + 1013904223) % 4294967296 = lc a := by unfold lc; omega
theorem iNext (a : Int) (w : World) : Calls Try.prog 63 #[.int .u32 a] w fun e w' => e = .returned (.int .u32 (lc a)) ∧ w = w' := by
  have h := lc_two a
  go_enter Try.func63, Try.ntmps63
  go_wp2
  go_returns
  exact ⟨by rw [← h]; rfl, rfl⟩
/-- A number in thousandths. -/
def chOk (n : Int) : Bool := decide (0 ≤ n ∧ n ≤ 1000)
theorem iChanceOk {n : Int} {x : Bool} (h : chOk n = x) : Hid (∀ w : World, Calls Try.prog 62 #[.int .i64 n] w fun e w' => e = .returned (.bool x) ∧ w = w') := Lib.hid fun w => by
  subst h
  unfold chOk
  by_cases h0 : 0 ≤ n
  · by_cases h1 : n ≤ 1000
    · have d0 : decide (0 ≤ n) = true := decide_eq_true h0
      have d1 : decide (n ≤ 1000) = true := decide_eq_true h1
      rw [decide_eq_true ⟨h0, h1⟩]
      go_enter Try.func62, Try.ntmps62
      go_wp2
      go_returns
      exact ⟨rfl, rfl⟩
    · have d0 : decide (0 ≤ n) = true := decide_eq_true h0
      have d1 : decide (n ≤ 1000) = false := decide_eq_false h1
      rw [decide_eq_false (fun q => h1 q.2)]
      go_enter Try.func62, Try.ntmps62
      go_wp2
      go_returns
      exact ⟨rfl, rfl⟩
  · have d0 : decide (0 ≤ n) = false := decide_eq_false h0
    rw [decide_eq_false (fun q => h0 q.1)]
    go_enter Try.func62, Try.ntmps62
    go_wp2
    go_returns
    exact ⟨rfl, rfl⟩
theorem sChanceOk {n : Int} {x : Bool} (h : chOk n = x) : Hid (∀ w : World, Calls Try.prog 59 #[.int .i64 n, .int .i64 0, .int .i64 1000] w fun e w' => e = .returned (.bool x) ∧ w = w') := Lib.hid fun w => by
  subst h
  unfold chOk
  by_cases h0 : 0 ≤ n
  · by_cases h1 : n ≤ 1000
    · have d0 : decide (0 ≤ n) = true := decide_eq_true h0
      have d1 : decide (n ≤ 1000) = true := decide_eq_true h1
      rw [decide_eq_true ⟨h0, h1⟩]
      go_enter Try.func59, Try.ntmps59
      go_wp2
      go_returns
      exact ⟨rfl, rfl⟩
    · have d0 : decide (0 ≤ n) = true := decide_eq_true h0
      have d1 : decide (n ≤ 1000) = false := decide_eq_false h1
      rw [decide_eq_false (fun q => h1 q.2)]
      go_enter Try.func59, Try.ntmps59
      go_wp2
      go_returns
      exact ⟨rfl, rfl⟩
  · have d0 : decide (0 ≤ n) = false := decide_eq_false h0
    rw [decide_eq_false (fun q => h0 q.1)]
    go_enter Try.func59, Try.ntmps59
    go_wp2
    go_returns
    exact ⟨rfl, rfl⟩

/-- The answer. -/
def chC (ok t f : Bool) : Int := if ok then (if t && f then 0 else 2) else 1
def chR (c : Int) (s : ByteArray) (x y t0 t1 f0 f1 z : Int) : Value := .tuple #[.agg #[.string (if c = 0 then s else ByteArray.empty), .int .u64 (if c = 0 then x else 0), .int .u64 (if c = 0 then y else 0)], .agg #[.int .u64 (if c = 0 then t0 else 0), .int .u64 (if c = 0 then t1 else 0), .int .u64 (if c = 0 then f0 else 0), .int .u64 (if c = 0 then f1 else 0)], .int .u32 (if c = 0 then z else 0), .int .i64 c]
theorem chR_1 (s : ByteArray) (x y t0 t1 f0 f1 z : Int) (t f : Bool) : .tuple #[.agg #[.string ByteArray.empty, .int .u64 0, .int .u64 0], .agg #[.int .u64 0, .int .u64 0, .int .u64 0, .int .u64 0], .int .u32 0, .int .i64 1] = chR (chC false t f) s x y t0 t1 f0 f1 z := rfl
theorem chR_2 (s : ByteArray) (x y t0 t1 f0 f1 z : Int) {t f : Bool} (h : (t && f) = false) : .tuple #[.agg #[.string ByteArray.empty, .int .u64 0, .int .u64 0], .agg #[.int .u64 0, .int .u64 0, .int .u64 0, .int .u64 0], .int .u32 0, .int .i64 2] = chR (chC true t f) s x y t0 t1 f0 f1 z := by unfold chC; rw [h]; rfl
theorem chR_3 (s : ByteArray) (x y t0 t1 f0 f1 z : Int) : .tuple #[.agg #[.string s, .int .u64 x, .int .u64 y], .agg #[.int .u64 t0, .int .u64 t1, .int .u64 f0, .int .u64 f1], .int .u32 z, .int .i64 0] = chR (chC true true true) s x y t0 t1 f0 f1 z := rfl
theorem chR_parts (c : Int) (s : ByteArray) (x y t0 t1 f0 f1 z : Int) : ∃ (r : ByteArray) (x' y' a b c' d z' k : Int), chR c s x y t0 t1 f0 f1 z = .tuple #[.agg #[.string r, .int .u64 x', .int .u64 y'], .agg #[.int .u64 a, .int .u64 b, .int .u64 c', .int .u64 d], .int .u32 z', .int .i64 k] := ⟨_, _, _, _, _, _, _, _, _, rfl⟩

/-- The four boxes: the card, both answers, the wear so far. -/
def ChB (w wr : World) (g : Nat) (s : ByteArray) (a b : Int) (x : CW) : Prop :=
  wr.heap[w.heap.size]? = some (.cells #[.string s, .int .u64 a, .int .u64 b] 36 (0, 0)) ∧ wr.heap[w.heap.size + 1]? = some (.cells #[.string ByteArray.empty, .int .u64 0, .int .u64 0] 36 (0, 0)) ∧ wr.heap[w.heap.size + 2]? = some (.cells #[.int .u64 0, .int .u64 0, .int .u64 0, .int .u64 0] 29 (0, 0)) ∧ wr.heap[g]? = some (.cells #[.int .u64 (x.t0 : Int), .int .u64 (x.t1 : Int), .int .u64 (x.f0 : Int), .int .u64 (x.f1 : Int)] 29 (0, 0)) ∧ Below w.heap.size w wr ∧ w.heap.size + 3 ≤ g
theorem chB_ab {w wr w' : World} {g : Nat} {s : ByteArray} {a b : Int} {x : CW} (h : ChB w wr g s a b x) (k : Ab wr w') : ChB w w' g s a b x :=
  ⟨k.block h.1, k.block h.2.1, k.block h.2.2.1, k.block h.2.2.2.1, h.2.2.2.2.1.trans (Below.mono k h.2.2.2.2.1.size), h.2.2.2.2.2⟩
theorem chB_tear {w wr : World} {g : Nat} {s : ByteArray} {a b : Int} {x : CW} (h : ChB w wr g s a b x) (k : Nat) : ChB w ((wr.setCell ⟨g, 0, none⟩ (.int .u64 ((x.t0 ||| B0 k : Nat) : Int))).setCell ⟨g, 1, none⟩ (.int .u64 ((x.t1 ||| B1 k : Nat) : Int))) g s a b (x.tear k) := by
  have q := block_setCell (j := 1) (.int .u64 ((x.t1 ||| B1 k : Nat) : Int)) (block_setCell (j := 0) (.int .u64 ((x.t0 ||| B0 k : Nat) : Int)) h.2.2.2.1)
  have hg := h.2.2.2.2.2
  refine ⟨?_, ?_, ?_, q, (h.2.2.2.2.1.setCell (by show w.heap.size ≤ g; omega) _).setCell (by show w.heap.size ≤ g; omega) _, hg⟩
  · rw [Below.heap_setCell _ _ _ _ (by show w.heap.size ≠ g; omega), Below.heap_setCell _ _ _ _ (by show w.heap.size ≠ g; omega)]; exact h.1
  · rw [Below.heap_setCell _ _ _ _ (by show w.heap.size + 1 ≠ g; omega), Below.heap_setCell _ _ _ _ (by show w.heap.size + 1 ≠ g; omega)]; exact h.2.1
  · rw [Below.heap_setCell _ _ _ _ (by show w.heap.size + 2 ≠ g; omega), Below.heap_setCell _ _ _ _ (by show w.heap.size + 2 ≠ g; omega)]; exact h.2.2.1
theorem chB_fill {w wr : World} {g : Nat} {s : ByteArray} {a b : Int} {x : CW} (h : ChB w wr g s a b x) (k : Nat) : ChB w ((wr.setCell ⟨g, 2, none⟩ (.int .u64 ((x.f0 ||| B0 k : Nat) : Int))).setCell ⟨g, 3, none⟩ (.int .u64 ((x.f1 ||| B1 k : Nat) : Int))) g s a b (x.fill k) := by
  have q := block_setCell (j := 3) (.int .u64 ((x.f1 ||| B1 k : Nat) : Int)) (block_setCell (j := 2) (.int .u64 ((x.f0 ||| B0 k : Nat) : Int)) h.2.2.2.1)
  have hg := h.2.2.2.2.2
  refine ⟨?_, ?_, ?_, q, (h.2.2.2.2.1.setCell (by show w.heap.size ≤ g; omega) _).setCell (by show w.heap.size ≤ g; omega) _, hg⟩
  · rw [Below.heap_setCell _ _ _ _ (by show w.heap.size ≠ g; omega), Below.heap_setCell _ _ _ _ (by show w.heap.size ≠ g; omega)]; exact h.1
  · rw [Below.heap_setCell _ _ _ _ (by show w.heap.size + 1 ≠ g; omega), Below.heap_setCell _ _ _ _ (by show w.heap.size + 1 ≠ g; omega)]; exact h.2.1
  · rw [Below.heap_setCell _ _ _ _ (by show w.heap.size + 2 ≠ g; omega), Below.heap_setCell _ _ _ _ (by show w.heap.size + 2 ≠ g; omega)]; exact h.2.2.1
theorem chB_card {w wr : World} {g : Nat} {s : ByteArray} {a b : Int} {x : CW} (h : ChB w wr g s a b x) (u v : Int) : ChB w ((wr.setCell ⟨w.heap.size, 1, none⟩ (.int .u64 u)).setCell ⟨w.heap.size, 2, none⟩ (.int .u64 v)) g s u v x := by
  have q := block_setCell (j := 2) (.int .u64 v) (block_setCell (j := 1) (.int .u64 u) h.1)
  have hg := h.2.2.2.2.2
  refine ⟨q, ?_, ?_, ?_, (h.2.2.2.2.1.setCell (Nat.le_refl _) _).setCell (Nat.le_refl _) _, hg⟩
  · rw [Below.heap_setCell _ _ _ _ (by show w.heap.size + 1 ≠ w.heap.size; omega), Below.heap_setCell _ _ _ _ (by show w.heap.size + 1 ≠ w.heap.size; omega)]; exact h.2.1
  · rw [Below.heap_setCell _ _ _ _ (by show w.heap.size + 2 ≠ w.heap.size; omega), Below.heap_setCell _ _ _ _ (by show w.heap.size + 2 ≠ w.heap.size; omega)]; exact h.2.2.1
  · rw [Below.heap_setCell _ _ _ _ (by show g ≠ w.heap.size; omega), Below.heap_setCell _ _ _ _ (by show g ≠ w.heap.size; omega)]; exact h.2.2.2.1
theorem set3 {W : World} {b : Nat} {x y z : Value} {t : TypeId} (p q r : Value) (h : W.heap[b]? = some (.cells #[x, y, z] t (0, 0))) : (((W.setCell ⟨b, 0, none⟩ p).setCell ⟨b, 1, none⟩ q).setCell ⟨b, 2, none⟩ r).heap[b]? = some (.cells #[p, q, r] t (0, 0)) := by
  have h1 := block_setCell (j := 0) p h
  have h2 := block_setCell (j := 1) q h1
  have h3 := block_setCell (j := 2) r h2
  exact h3
theorem set4 {W : World} {b : Nat} {x y z u : Value} {t : TypeId} (p q r s : Value) (h : W.heap[b]? = some (.cells #[x, y, z, u] t (0, 0))) : ((((W.setCell ⟨b, 0, none⟩ p).setCell ⟨b, 1, none⟩ q).setCell ⟨b, 2, none⟩ r).setCell ⟨b, 3, none⟩ s).heap[b]? = some (.cells #[p, q, r, s] t (0, 0)) := by
  have h1 := block_setCell (j := 0) p h
  have h2 := block_setCell (j := 1) q h1
  have h3 := block_setCell (j := 2) r h2
  have h4 := block_setCell (j := 3) s h3
  exact h4
theorem keep3 (W : World) {b c : Nat} (p q r : Value) (h : b ≠ c) : (((W.setCell ⟨c, 0, none⟩ p).setCell ⟨c, 1, none⟩ q).setCell ⟨c, 2, none⟩ r).heap[b]? = W.heap[b]? := by
  rw [Below.heap_setCell _ _ _ _ h, Below.heap_setCell _ _ _ _ h, Below.heap_setCell _ _ _ _ h]
theorem keep4 (W : World) {b c : Nat} (p q r s : Value) (h : b ≠ c) : ((((W.setCell ⟨c, 0, none⟩ p).setCell ⟨c, 1, none⟩ q).setCell ⟨c, 2, none⟩ r).setCell ⟨c, 3, none⟩ s).heap[b]? = W.heap[b]? := by
  rw [Below.heap_setCell _ _ _ _ h, Below.heap_setCell _ _ _ _ h, Below.heap_setCell _ _ _ _ h, Below.heap_setCell _ _ _ _ h]
theorem below3 {w W : World} {c : Nat} (p q r : Value) (h : Below w.heap.size w W) (hc : w.heap.size ≤ c) : Below w.heap.size w (((W.setCell ⟨c, 0, none⟩ p).setCell ⟨c, 1, none⟩ q).setCell ⟨c, 2, none⟩ r) := ((h.setCell hc _).setCell hc _).setCell hc _
theorem below4 {w W : World} {c : Nat} (p q r s : Value) (h : Below w.heap.size w W) (hc : w.heap.size ≤ c) : Below w.heap.size w ((((W.setCell ⟨c, 0, none⟩ p).setCell ⟨c, 1, none⟩ q).setCell ⟨c, 2, none⟩ r).setCell ⟨c, 3, none⟩ s) := (((h.setCell hc _).setCell hc _).setCell hc _).setCell hc _
theorem drew_heap (W : World) : W.drew.heap = W.heap := rfl
theorem below_drew {w W : World} (h : Below w.heap.size w W) : Below w.heap.size w W.drew := ⟨h.os, h.tape, h.output, h.size, h.block⟩
/-- The two answers stored: the world at the end. -/
theorem chEnd {w W : World} {g : Nat} {s : ByteArray} {a b : Int} {x : CW} (h : ChB w W g s a b x) (p q r c d e f : Value) (v : World)
    (hv : v = (((((((W.setCell ⟨w.heap.size + 1, 0, none⟩ p).setCell ⟨w.heap.size + 1, 1, none⟩ q).setCell ⟨w.heap.size + 1, 2, none⟩ r).setCell ⟨w.heap.size + 1 + 1, 0, none⟩ c).setCell ⟨w.heap.size + 1 + 1, 1, none⟩ d).setCell ⟨w.heap.size + 1 + 1, 2, none⟩ e).setCell ⟨w.heap.size + 1 + 1, 3, none⟩ f).drew) :
    v.heap[w.heap.size + 1]? = some (.cells #[p, q, r] 36 (0, 0)) ∧ v.heap[w.heap.size + 1 + 1]? = some (.cells #[c, d, e, f] 29 (0, 0)) ∧ Below w.heap.size w v := by
  have n1 : w.heap.size + 1 ≠ w.heap.size + 1 + 1 := by omega
  have n2 : w.heap.size + 1 + 1 ≠ w.heap.size + 1 := by omega
  have h1 := set3 p q r h.2.1
  have h2 := (keep3 W p q r n2).trans h.2.2.1
  have h3 := below3 p q r h.2.2.2.2.1 (Nat.le_add_right _ 1)
  generalize ((W.setCell ⟨w.heap.size + 1, 0, none⟩ p).setCell ⟨w.heap.size + 1, 1, none⟩ q).setCell ⟨w.heap.size + 1, 2, none⟩ r = V at *
  have g1 := (keep4 V c d e f n1).trans h1
  have g2 := set4 c d e f h2
  have g3 := below4 c d e f h3 (c := w.heap.size + 1 + 1) (Nat.le_trans (Nat.le_add_right _ 1) (Nat.le_add_right _ 1))
  generalize (((V.setCell ⟨w.heap.size + 1 + 1, 0, none⟩ c).setCell ⟨w.heap.size + 1 + 1, 1, none⟩ d).setCell ⟨w.heap.size + 1 + 1, 2, none⟩ e).setCell ⟨w.heap.size + 1 + 1, 3, none⟩ f = U at *
  subst hv
  exact ⟨g1, g2, below_drew g3⟩
theorem block_three4 (w : World) (o p q : Obj) : (((w.alloc o).alloc p).alloc q).heap[w.heap.size]? = some o ∧ (((w.alloc o).alloc p).alloc q).heap[w.heap.size + 1]? = some p ∧ (((w.alloc o).alloc p).alloc q).heap[w.heap.size + 2]? = some q := wblock_three w o p q
/-- Ahead of the loop: three boxes. -/
def ChA (w wr : World) (s : ByteArray) (a b : Int) : Prop :=
  wr.heap[w.heap.size]? = some (.cells #[.string s, .int .u64 a, .int .u64 b] 36 (0, 0)) ∧ wr.heap[w.heap.size + 1]? = some (.cells #[.string ByteArray.empty, .int .u64 0, .int .u64 0] 36 (0, 0)) ∧ wr.heap[w.heap.size + 2]? = some (.cells #[.int .u64 0, .int .u64 0, .int .u64 0, .int .u64 0] 29 (0, 0)) ∧ Below w.heap.size w wr
theorem chA_start (w : World) (s : ByteArray) (a b : Int) : ChA w (((w.alloc (.cells #[.string s, .int .u64 a, .int .u64 b] 36)).alloc (.cells #[.string ByteArray.empty, .int .u64 0, .int .u64 0] 36)).alloc (.cells #[.int .u64 0, .int .u64 0, .int .u64 0, .int .u64 0] 29)) s a b :=
  ⟨(wblock_three w _ _ _).1, (wblock_three w _ _ _).2.1, (wblock_three w _ _ _).2.2, (below_new (below_new (below_new (Below.refl _ _) _) _) _)⟩
theorem chA_ab {w wr w' : World} {s : ByteArray} {a b : Int} (h : ChA w wr s a b) (k : Ab wr w') : ChA w w' s a b :=
  ⟨k.block h.1, k.block h.2.1, k.block h.2.2.1, h.2.2.2.trans (Below.mono k h.2.2.2.size)⟩
theorem chB_start {w wr : World} {s : ByteArray} {a b : Int} (h : ChA w wr s a b) : ChB w (wr.alloc (.cells #[.int .u64 0, .int .u64 0, .int .u64 0, .int .u64 0] 29)) wr.heap.size s a b ⟨0, 0, 0, 0⟩ := by
  have hab : Ab wr (wr.alloc (.cells #[.int .u64 0, .int .u64 0, .int .u64 0, .int .u64 0] 29)) := below_new (Below.refl _ _) _
  exact ⟨hab.block h.1, hab.block h.2.1, hab.block h.2.2.1, block_alloc _ _, h.2.2.2.trans (Below.mono hab h.2.2.2.size), lt_of_block h.2.2.1⟩

set_option maxHeartbeats 1600000 in
theorem iChance_bad (s : ByteArray) (a b : Int) (hs : s.size ≤ maxLen) (sd torn filled : Int) (x y t0 t1 f0 f1 z : Int) (hbad : (cardOk s b && (chOk torn && chOk filled)) = false) (w : World) :
    Calls Try.prog 32 #[.agg #[.string s, .int .u64 a, .int .u64 b], .int .u32 sd, .int .i64 torn, .int .i64 filled] w fun e w' => e = .returned (chR (chC (cardOk s b) (chOk torn) (chOk filled)) s x y t0 t1 f0 f1 z) ∧ Below w.heap.size w w' := by
  have V := Lib.hid fun W => iValidCard_any s a b hs W
  have M0 := Lib.hid (chA_start w s a b)
  clear hs
  cases h : cardOk s b
  · rw [h] at V
    clear h hbad
    go_enter Try.func32, Try.ntmps32
    go_wp2_with (go_at_call 48; refine (V.out _).mono ?_; rintro e w1 ⟨rfl, hB⟩; have M1 := Lib.hid (chA_ab M0.out hB); have c0 := cell_of_block M1.out.1; have c1 := cell_of_block M1.out.2.1; have c2 := cell_of_block M1.out.2.2.1; have g1 := free_of_block M1.out.2.1; have g2 := free_of_block M1.out.2.2.1; have s0 := lt_of_block M1.out.1; clear hB)
    refine bodyPost_ret (by simp [results, Try.results32, go_sem, c1, c2]; try rfl) rfl ?_
    exact ⟨eRet (chR_1 ..), (((((((M1.out.2.2.2.setCell (by simp <;> omega) _).setCell (by simp <;> omega) _).setCell (by simp <;> omega) _).setCell (by simp <;> omega) _).setCell (by simp <;> omega) _).setCell (by simp <;> omega) _).setCell (by simp <;> omega) _)⟩
  · rw [h] at V
    rw [h, Bool.true_and] at hbad
    have E := Lib.hid (chR_2 s x y t0 t1 f0 f1 z hbad)
    clear h
    cases ht : chOk torn
    · have T := iChanceOk ht
      rw [ht] at E
      clear ht hbad
      go_enter Try.func32, Try.ntmps32
      go_wp2_with (first | (go_at_call 48; refine (V.out _).mono ?_; rintro e w1 ⟨rfl, hB⟩; have M1 := Lib.hid (chA_ab M0.out hB); have c0 := cell_of_block M1.out.1; have c1 := cell_of_block M1.out.2.1; have c2 := cell_of_block M1.out.2.2.1; have g1 := free_of_block M1.out.2.1; have g2 := free_of_block M1.out.2.2.1; have s0 := lt_of_block M1.out.1; clear hB) | (go_at_call_of 62 (Value.int IntKind.i64 torn); refine (T.out _).mono ?_; rintro e w2 ⟨rfl, rfl⟩))
      refine bodyPost_ret (by simp [results, Try.results32, go_sem, c1, c2]; try rfl) rfl ?_
      exact ⟨eRet E.out, (((((((M1.out.2.2.2.setCell (by simp <;> omega) _).setCell (by simp <;> omega) _).setCell (by simp <;> omega) _).setCell (by simp <;> omega) _).setCell (by simp <;> omega) _).setCell (by simp <;> omega) _).setCell (by simp <;> omega) _)⟩
    · rw [ht, Bool.true_and] at hbad
      have T := iChanceOk ht
      have G := iChanceOk hbad
      rw [ht] at E
      clear ht
      go_enter Try.func32, Try.ntmps32
      go_wp2_with (first | (go_at_call 48; refine (V.out _).mono ?_; rintro e w1 ⟨rfl, hB⟩; have M1 := Lib.hid (chA_ab M0.out hB); have c0 := cell_of_block M1.out.1; have c1 := cell_of_block M1.out.2.1; have c2 := cell_of_block M1.out.2.2.1; have g1 := free_of_block M1.out.2.1; have g2 := free_of_block M1.out.2.2.1; have s0 := lt_of_block M1.out.1; clear hB) | (go_at_call_of 62 (Value.int IntKind.i64 torn); refine (T.out _).mono ?_; rintro e w2 ⟨rfl, rfl⟩) | (go_at_call_of 62 (Value.int IntKind.i64 filled); refine (G.out _).mono ?_; rintro e w2 ⟨rfl, rfl⟩))
      refine bodyPost_ret (by simp [results, Try.results32, go_sem, c1, c2]; try rfl) rfl ?_
      exact ⟨eRet E.out, (((((((M1.out.2.2.2.setCell (by simp <;> omega) _).setCell (by simp <;> omega) _).setCell (by simp <;> omega) _).setCell (by simp <;> omega) _).setCell (by simp <;> omega) _).setCell (by simp <;> omega) _).setCell (by simp <;> omega) _)⟩

set_option maxHeartbeats 3200000 in
theorem iChance_good (s : ByteArray) (a b : Int) (hs : s.size ≤ maxLen) (ha : U64 a) (hb : U64 b) (sd : Int) (d0 : 0 ≤ sd) (d1 : sd < 4294967296) (torn filled : Int) (h1 : cardOk s b = true) (h2 : chOk torn = true) (h3 : chOk filled = true) (w : World) :
    Calls Try.prog 32 #[.agg #[.string s, .int .u64 a, .int .u64 b], .int .u32 sd, .int .i64 torn, .int .i64 filled] w fun e w' => e = .returned (chR (chC (cardOk s b) (chOk torn) (chOk filled)) s (bits .or .u64 (bits .andNot .u64 a ((cw a b torn filled sd 96).f0 : Int)) ((cw a b torn filled sd 96).t0 : Int)) (bits .or .u64 (bits .andNot .u64 b ((cw a b torn filled sd 96).f1 : Int)) ((cw a b torn filled sd 96).t1 : Int)) ((cw a b torn filled sd 96).t0 : Int) ((cw a b torn filled sd 96).t1 : Int) ((cw a b torn filled sd 96).f0 : Int) ((cw a b torn filled sd 96).f1 : Int) (lci 96 sd)) ∧ Below w.heap.size w w' := by
  have V := Lib.hid fun W => iValidCard_any s a b hs W
  have M0 := Lib.hid (chA_start w s a b)
  have T := iChanceOk h2
  have G := iChanceOk h3
  rw [h1, h2, h3]
  rw [h1] at V
  have E := Lib.hid (chR_3 s (bits .or .u64 (bits .andNot .u64 a ((cw a b torn filled sd 96).f0 : Int)) ((cw a b torn filled sd 96).t0 : Int)) (bits .or .u64 (bits .andNot .u64 b ((cw a b torn filled sd 96).f1 : Int)) ((cw a b torn filled sd 96).t1 : Int)) ((cw a b torn filled sd 96).t0 : Int) ((cw a b torn filled sd 96).t1 : Int) ((cw a b torn filled sd 96).f0 : Int) ((cw a b torn filled sd 96).f1 : Int) (lci 96 sd))
  have FT := Lib.hid (cw_fits a b torn filled sd)
  have HO := Lib.hid fun (k : Nat) (hk : k < 96) W => iOneC k hk W
  have HH := Lib.hid fun (k : Nat) (hk : k < 96) W => iHasC k hk a b ha hb W
  clear hs h1 h2 h3 ha hb
  generalize hR : chR (chC true true true) s (bits .or .u64 (bits .andNot .u64 a ((cw a b torn filled sd 96).f0 : Int)) ((cw a b torn filled sd 96).t0 : Int)) (bits .or .u64 (bits .andNot .u64 b ((cw a b torn filled sd 96).f1 : Int)) ((cw a b torn filled sd 96).t1 : Int)) ((cw a b torn filled sd 96).t0 : Int) ((cw a b torn filled sd 96).t1 : Int) ((cw a b torn filled sd 96).f0 : Int) ((cw a b torn filled sd 96).f1 : Int) (lci 96 sd) = R at *
  clear hR
  go_enter Try.func32, Try.ntmps32
  go_wp2_with (first | (go_at_call 48; refine (V.out _).mono ?_; rintro e w1 ⟨rfl, hB⟩; have M1 := Lib.hid (chA_ab M0.out hB); have c0 := cell_of_block M1.out.1; have c1 := cell_of_block M1.out.2.1; have c2 := cell_of_block M1.out.2.2.1; have g1 := free_of_block M1.out.2.1; have g2 := free_of_block M1.out.2.2.1; have s0 := lt_of_block M1.out.1; clear hB) | (go_at_call_of 62 (Value.int IntKind.i64 torn); refine (T.out _).mono ?_; rintro e w2 ⟨rfl, rfl⟩) | (go_at_call_of 62 (Value.int IntKind.i64 filled); refine (G.out _).mono ?_; rintro e w2 ⟨rfl, rfl⟩))
  have MB := Lib.hid (chB_start M1.out)
  clear c0 c1 c2 g1 g2 s0
  generalize w1.heap.size = g at *
  go_loopw [1, 32] (fun q i wr => ∃ k : Nat, k ≤ 96 ∧ i = .int .i64 k ∧ q = .int .u32 (lci k sd) ∧ ChB w wr g s a b (cw a b torn filled sd k)) (fun _ i _ => 96 - (intOf i).toNat)
  case atStart => exact ⟨0, Nat.zero_le _, rfl, rfl, MB.out⟩
  case round =>
    obtain ⟨k, hk, rfl, rfl, hM⟩ := hrel
    have M := Lib.hid hM
    clear hM MB M1
    have c0 := cell_of_block M.out.1
    have c3 := cell_of_block M.out.2.2.2.1
    have s0 := lt_of_block M.out.1
    have s3 := lt_of_block M.out.2.2.2.1
    by_cases hkl : k < 96
    · have hd : decide ((k : Int) < 96) = true := by simp; omega
      obtain ⟨y0, y1⟩ := lci_in (k + 1) sd ⟨d0, d1⟩
      have hl : lc (lci k sd) = lci (k + 1) sd := rfl
      have v1 : IntKind.i64.wrap (lci (k + 1) sd / 65536) = lci (k + 1) sd / 65536 := IntWalk.i64_in _ (by omega)
      have v2 : (lci (k + 1) sd / 65536).tmod 1000 = rnd sd k := Int.tmod_eq_emod_of_nonneg (by omega)
      have v3 : IntKind.i64.wrap (rnd sd k) = rnd sd k := IntWalk.i64_in _ (by unfold rnd; omega)
      have v4 : lci (k + 1) sd / 65536 % 1000 = rnd sd k := rfl
      have O := Lib.hid (HO.out k hkl)
      have H := Lib.hid (HH.out k hkl)
      obtain ⟨u0, u1⟩ := B_lt (h := (k : Int)) (by omega)
      have ft := FT.out k hk
      have J1 := Lib.hid fun W => iJoinC (cw a b torn filled sd k).t0 (cw a b torn filled sd k).t1 (B0 k) (B1 k) ft.t0 ft.t1 u0 u1 W
      have J2 := Lib.hid fun W => iJoinC (cw a b torn filled sd k).f0 (cw a b torn filled sd k).f1 (B0 k) (B1 k) ft.f0 ft.f1 u0 u1 W
      clear ft u0 u1 HO HH FT T G V
      generalize hx : lci k sd = x at *
      generalize hy : lci (k + 1) sd = y at *
      cases hq : hasB a b k
      · rw [hq] at H
        by_cases hr : rnd sd k < torn
        · have e := Lib.hid (cw_tear (filled := filled) hq hr)
          have hdr : decide (rnd sd k < torn) = true := decide_eq_true hr
          have J := J1
          clear hq hr J2
          generalize rnd sd k = r at *
          go_wp2_with (first | (go_at_call 63; refine (iNext _ _).mono ?_; rintro e w4 ⟨rfl, rfl⟩) | (go_at_call 64; refine (O.out _).mono ?_; rintro e w5 ⟨rfl, hB⟩; have M5 := Lib.hid (chB_ab M.out hB); clear c0 c3 s0 s3; have c0 := cell_of_block M5.out.1; have c3 := cell_of_block M5.out.2.2.2.1; have s0 := lt_of_block M5.out.1; have s3 := lt_of_block M5.out.2.2.2.1; clear hB) | (go_at_call 65; refine (H.out _).mono ?_; rintro e w6 ⟨rfl, hB⟩; have A5 : Ab w5 w6 := ((below_new (Below.refl w5.heap.size w5) _).trans (Below.mono hB (by simp))); have o0 : w6.cell? ⟨w5.heap.size, 0, none⟩ = some (.int .u64 (B0 k : Int)) := (hB.cell (by simp)).trans (by simp); have o1 : w6.cell? ⟨w5.heap.size, 1, none⟩ = some (.int .u64 (B1 k : Int)) := (hB.cell (by simp)).trans (by simp); have so : w5.heap.size < w6.heap.size := Nat.lt_of_lt_of_le (by simp) hB.size; have M6 := Lib.hid (chB_ab M5.out A5); clear c0 c3 s0 s3; have c3 := cell_of_block M6.out.2.2.2.1; have g3 := free_of_block M6.out.2.2.2.1; have s3 := lt_of_block M6.out.2.2.2.1; clear hB) | (go_at_call 55; refine (J.out _).mono ?_; rintro e w7 ⟨rfl, hB⟩; have M7 := Lib.hid (chB_ab M6.out hB); clear c3 g3 s3; have c3 := cell_of_block M7.out.2.2.2.1; have g3 := free_of_block M7.out.2.2.2.1; have s3 := lt_of_block M7.out.2.2.2.1; clear hB))
          exact ⟨⟨k + 1, hkl, by rw [Int.natCast_succ], by rw [hy], by rw [e.out]; exact chB_tear M7.out k⟩, by (simp [intOf]) <;> omega⟩
        · have e := Lib.hid (cw_notear (filled := filled) hq hr)
          have hdr : decide (rnd sd k < torn) = false := decide_eq_false hr
          clear hq hr J1 J2
          generalize rnd sd k = r at *
          go_wp2_with (first | (go_at_call 63; refine (iNext _ _).mono ?_; rintro e w4 ⟨rfl, rfl⟩) | (go_at_call 64; refine (O.out _).mono ?_; rintro e w5 ⟨rfl, hB⟩; have M5 := Lib.hid (chB_ab M.out hB); clear c0 c3 s0 s3; have c0 := cell_of_block M5.out.1; have c3 := cell_of_block M5.out.2.2.2.1; have s0 := lt_of_block M5.out.1; have s3 := lt_of_block M5.out.2.2.2.1; clear hB) | (go_at_call 65; refine (H.out _).mono ?_; rintro e w6 ⟨rfl, hB⟩; have A5 : Ab w5 w6 := ((below_new (Below.refl w5.heap.size w5) _).trans (Below.mono hB (by simp))); have o0 : w6.cell? ⟨w5.heap.size, 0, none⟩ = some (.int .u64 (B0 k : Int)) := (hB.cell (by simp)).trans (by simp); have o1 : w6.cell? ⟨w5.heap.size, 1, none⟩ = some (.int .u64 (B1 k : Int)) := (hB.cell (by simp)).trans (by simp); have so : w5.heap.size < w6.heap.size := Nat.lt_of_lt_of_le (by simp) hB.size; have M6 := Lib.hid (chB_ab M5.out A5); clear c0 c3 s0 s3; have c3 := cell_of_block M6.out.2.2.2.1; have g3 := free_of_block M6.out.2.2.2.1; have s3 := lt_of_block M6.out.2.2.2.1; clear hB))
          exact ⟨⟨k + 1, hkl, by rw [Int.natCast_succ], by rw [hy], by rw [e.out]; exact M6.out⟩, by (simp [intOf]) <;> omega⟩
      · rw [hq] at H
        by_cases hr : rnd sd k < filled
        · have e := Lib.hid (cw_fill (torn := torn) hq hr)
          have hdr : decide (rnd sd k < filled) = true := decide_eq_true hr
          have J := J2
          clear hq hr J1
          generalize rnd sd k = r at *
          go_wp2_with (first | (go_at_call 63; refine (iNext _ _).mono ?_; rintro e w4 ⟨rfl, rfl⟩) | (go_at_call 64; refine (O.out _).mono ?_; rintro e w5 ⟨rfl, hB⟩; have M5 := Lib.hid (chB_ab M.out hB); clear c0 c3 s0 s3; have c0 := cell_of_block M5.out.1; have c3 := cell_of_block M5.out.2.2.2.1; have s0 := lt_of_block M5.out.1; have s3 := lt_of_block M5.out.2.2.2.1; clear hB) | (go_at_call 65; refine (H.out _).mono ?_; rintro e w6 ⟨rfl, hB⟩; have A5 : Ab w5 w6 := ((below_new (Below.refl w5.heap.size w5) _).trans (Below.mono hB (by simp))); have o0 : w6.cell? ⟨w5.heap.size, 0, none⟩ = some (.int .u64 (B0 k : Int)) := (hB.cell (by simp)).trans (by simp); have o1 : w6.cell? ⟨w5.heap.size, 1, none⟩ = some (.int .u64 (B1 k : Int)) := (hB.cell (by simp)).trans (by simp); have so : w5.heap.size < w6.heap.size := Nat.lt_of_lt_of_le (by simp) hB.size; have M6 := Lib.hid (chB_ab M5.out A5); clear c0 c3 s0 s3; have c3 := cell_of_block M6.out.2.2.2.1; have g3 := free_of_block M6.out.2.2.2.1; have s3 := lt_of_block M6.out.2.2.2.1; clear hB) | (go_at_call 55; refine (J.out _).mono ?_; rintro e w7 ⟨rfl, hB⟩; have M7 := Lib.hid (chB_ab M6.out hB); clear c3 g3 s3; have c3 := cell_of_block M7.out.2.2.2.1; have g3 := free_of_block M7.out.2.2.2.1; have s3 := lt_of_block M7.out.2.2.2.1; clear hB))
          exact ⟨⟨k + 1, hkl, by rw [Int.natCast_succ], by rw [hy], by rw [e.out]; exact chB_fill M7.out k⟩, by (simp [intOf]) <;> omega⟩
        · have e := Lib.hid (cw_nofill (torn := torn) hq hr)
          have hdr : decide (rnd sd k < filled) = false := decide_eq_false hr
          clear hq hr J1 J2
          generalize rnd sd k = r at *
          go_wp2_with (first | (go_at_call 63; refine (iNext _ _).mono ?_; rintro e w4 ⟨rfl, rfl⟩) | (go_at_call 64; refine (O.out _).mono ?_; rintro e w5 ⟨rfl, hB⟩; have M5 := Lib.hid (chB_ab M.out hB); clear c0 c3 s0 s3; have c0 := cell_of_block M5.out.1; have c3 := cell_of_block M5.out.2.2.2.1; have s0 := lt_of_block M5.out.1; have s3 := lt_of_block M5.out.2.2.2.1; clear hB) | (go_at_call 65; refine (H.out _).mono ?_; rintro e w6 ⟨rfl, hB⟩; have A5 : Ab w5 w6 := ((below_new (Below.refl w5.heap.size w5) _).trans (Below.mono hB (by simp))); have o0 : w6.cell? ⟨w5.heap.size, 0, none⟩ = some (.int .u64 (B0 k : Int)) := (hB.cell (by simp)).trans (by simp); have o1 : w6.cell? ⟨w5.heap.size, 1, none⟩ = some (.int .u64 (B1 k : Int)) := (hB.cell (by simp)).trans (by simp); have so : w5.heap.size < w6.heap.size := Nat.lt_of_lt_of_le (by simp) hB.size; have M6 := Lib.hid (chB_ab M5.out A5); clear c0 c3 s0 s3; have c3 := cell_of_block M6.out.2.2.2.1; have g3 := free_of_block M6.out.2.2.2.1; have s3 := lt_of_block M6.out.2.2.2.1; clear hB))
          exact ⟨⟨k + 1, hkl, by rw [Int.natCast_succ], by rw [hy], by rw [e.out]; exact M6.out⟩, by (simp [intOf]) <;> omega⟩
    · obtain rfl : k = 96 := by omega
      have hd : decide (((96 : Nat) : Int) < 96) = false := by decide
      clear HO HH FT T G V
      generalize hX : lci 96 sd = X at *
      generalize cw a b torn filled sd 96 = Z at *
      obtain ⟨t0, t1, f0, f1⟩ := Z
      go_upto_region 19 with (go_at_call 49; refine (iOn_any _ _ _ _ _ _ _).mono ?_; rintro e w8 ⟨rfl, hB⟩; have M8 := Lib.hid (chB_ab M.out hB); clear c0 c3 s0 s3; have c0 := cell_of_block M8.out.1; have c1 := cell_of_block M8.out.2.1; have c2 := cell_of_block M8.out.2.2.1; have c3 := cell_of_block M8.out.2.2.2.1; have g0 := free_of_block M8.out.1; have g1 := free_of_block M8.out.2.1; have g2 := free_of_block M8.out.2.2.1; have s0 := lt_of_block M8.out.1; have s3 := lt_of_block M8.out.2.2.2.1; clear hB)
      have M9 := Lib.hid (chB_card M8.out (bits .or .u64 (bits .andNot .u64 a (f0 : Int)) (t0 : Int)) (bits .or .u64 (bits .andNot .u64 b (f1 : Int)) (t1 : Int)))
      generalize ((w8.setCell ⟨w.heap.size, 1, none⟩ (.int .u64 (bits .or .u64 (bits .andNot .u64 a (f0 : Int)) (t0 : Int)))).setCell ⟨w.heap.size, 2, none⟩ (.int .u64 (bits .or .u64 (bits .andNot .u64 b (f1 : Int)) (t1 : Int)))) = w9 at *
      clear c0 c1 c2 c3 g0 g1 g2 s0 s3
      have c0 := cell_of_block M9.out.1
      have c1 := cell_of_block M9.out.2.1
      have c2 := cell_of_block M9.out.2.2.1
      have c3 := cell_of_block M9.out.2.2.2.1
      have g1 := free_of_block M9.out.2.1
      have g2 := free_of_block M9.out.2.2.1
      have s0 := lt_of_block M9.out.1
      have s3 := lt_of_block M9.out.2.2.2.1
      have n1 : g ≠ w.heap.size + 1 := by have := M9.out.2.2.2.2.2; omega
      have n2 : g ≠ w.heap.size + 2 := by have := M9.out.2.2.2.2.2; omega
      have FE := Lib.hid fun v hv => chEnd M9.out (.string s) (.int .u64 (bits .or .u64 (bits .andNot .u64 a (f0 : Int)) (t0 : Int))) (.int .u64 (bits .or .u64 (bits .andNot .u64 b (f1 : Int)) (t1 : Int))) (.int .u64 (t0 : Int)) (.int .u64 (t1 : Int)) (.int .u64 (f0 : Int)) (.int .u64 (f1 : Int)) v hv
      clear M M0 M8 M9
      go_region
      clear c0 c1 c2 c3 g1 g2 s0 s3
      generalize hw10 : World.drew _ = w10
      obtain ⟨q1, q2, qB⟩ := FE.out w10 hw10.symm
      have c1 := cell_of_block q1
      have c2 := cell_of_block q2
      have QB := Lib.hid qB
      clear q1 q2 qB
      go_wp2
      refine bodyPost_ret (by simp [results, Try.results32, go_sem, c1, c2]; try rfl) rfl ?_
      exact ⟨eRet E.out, QB.out⟩
end Go.Proofs.Ythkmahcdojoioaa
