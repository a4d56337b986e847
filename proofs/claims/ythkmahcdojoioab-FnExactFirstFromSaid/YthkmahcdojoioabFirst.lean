/- Contracts: the first card from a key on, by halves (sort.Search with a closure) and one by one. -/
import Derived.Test.YthkmahcdojoioabSortC
namespace Go.Proofs.Ythkmahcdojoioab
open Go.ChangeShapes Go.WideShapes Go.ChangeAt Go.RowKit

/-- The three boxes of the program's call: the deck, the field, the key. -/
def FfB (w W : World) (ad : Option Addr) (n c : Nat) (s : ByteArray) (k st sz x : Int) : Prop :=
  W.heap[w.heap.size]? = some (.cells #[.slice ad n c] 31 (0, 0)) ∧ W.heap[w.heap.size + 1]? = some (.cells #[.string s, .int .i8 k, .int .i16 st, .int .i16 sz] 33 (0, 0)) ∧ W.heap[w.heap.size + 2]? = some (.cells #[.int .i64 x] 2 (0, 0)) ∧ Below w.heap.size w W
theorem ffB_ab {w W W' : World} {ad : Option Addr} {n c : Nat} {s : ByteArray} {k st sz x : Int} (h : FfB w W ad n c s k st sz x) (hb : Ab W W') : FfB w W' ad n c s k st sz x := ⟨hb.block h.1, hb.block h.2.1, hb.block h.2.2.1, h.2.2.2.trans (Below.mono hb h.2.2.2.size)⟩
theorem ffB_start (w : World) (ad : Option Addr) (n c : Nat) (s : ByteArray) (k st sz x : Int) : FfB w (((w.alloc (.cells #[.slice ad n c] 31)).alloc (.cells #[.string s, .int .i8 k, .int .i16 st, .int .i16 sz] 33)).alloc (.cells #[.int .i64 x] 2)) ad n c s k st sz x := by
  refine ⟨?_, ?_, ?_, below_new (below_new (below_new (Below.refl _ _) _) _) _⟩
  · show (((w.heap.push _).push _).push _)[w.heap.size]? = _
    rw [Array.getElem?_push, if_neg (by simp; omega), Array.getElem?_push, if_neg (by simp)]; simp
  · show (((w.heap.push _).push _).push _)[w.heap.size + 1]? = _
    rw [Array.getElem?_push, if_neg (by simp), Array.getElem?_push, if_pos (by simp)]
  · show (((w.heap.push _).push _).push _)[w.heap.size + 2]? = _
    rw [Array.getElem?_push, if_pos (by simp)]

set_option maxHeartbeats 1600000 in
theorem iFrom_any (s : ByteArray) (k st sz : Int) (hf : fieldOk s k st sz = true) (ad : Option Addr) (cs : List Cd) (c : Nat) (x : Int) (j : Nat) (hj : j < cs.length) (w w0 : World) (hc : CardsIn w ad cs) (hb : FfB w0 w ad cs.length c s k st sz x) :
    Calls Try.prog 71 #[.int .i64 (j : Int), .pointer (some ⟨w0.heap.size + 1, 0, none⟩), .pointer (some ⟨w0.heap.size, 0, none⟩), .pointer (some ⟨w0.heap.size + 2, 0, none⟩)] w fun e w' => e = .returned (.bool (decide (x ≤ kyAt k st sz cs j))) ∧ Below w.heap.size w w' := by
  obtain ⟨⟨_, fa, fb⟩, b1, o1, rfl, hb1, p0, p1, p2⟩ := hc j hj
  have K : Hid (∀ W : World, Calls Try.prog 67 #[.agg #[.string s, .int .i8 k, .int .i16 st, .int .i16 sz], .agg #[.int .u64 (cdAt cs j).a, .int .u64 (cdAt cs j).b]] W fun e w' => e = .returned (.int .i64 (kyAt k st sz cs j)) ∧ Below W.heap.size W w') := Lib.hid fun W => iKey_any s k st sz hf _ _ fa fb W
  have c0 := cell_of_block hb.1
  have c1 := cell_of_block hb.2.1
  have c2 := cell_of_block hb.2.2.1
  have z0 := lt_of_block hb.1
  have z1 := lt_of_block hb.2.1
  have z2 := lt_of_block hb.2.2.1
  have hbw := cell_bw
  have i1 : (0 : Int) ≤ (j : Int) := by omega
  have i2 : (j : Int) < (cs.length : Int) := by omega
  clear hc hb hf fa fb
  generalize kyAt k st sz cs j = y at *
  generalize cdAt cs j = d at *
  obtain ⟨ds, da, db⟩ := d
  simp only at p0 p1 p2 K
  go_enter Try.func71, Try.ntmps71
  go_wp2_with fail
  refine region_bw (by kernel_rfl) (by kernel_rfl) ?_
  repeat (go_big_quiet_step (first | (go_at_call 67; exact calls_bw (K.out _))))
  refine wpQuiet_nil ?_; intro wq hq; replace hq := below_of_bw hq; obtain ⟨qc, qf, qz⟩ := bcell hq
  go_wp2
  go_returns
  exact ⟨rfl, hq⟩

set_option maxHeartbeats 1600000 in
theorem iSearch_any (s : ByteArray) (k st sz : Int) (hf : fieldOk s k st sz = true) (ad : Option Addr) (cs : List Cd) (c : Nat) (x : Int) (r : Nat) (hr : Fst (kyAt k st sz cs) x cs.length r) (hn : cs.length ≤ 80) (w w0 : World) (hc : CardsIn w ad cs) (hb : FfB w0 w ad cs.length c s k st sz x) :
    Calls Try.prog 70 #[.int .i64 (cs.length : Int), .func (.func 71) #[] #[.pointer (some ⟨w0.heap.size + 1, 0, none⟩), .pointer (some ⟨w0.heap.size, 0, none⟩), .pointer (some ⟨w0.heap.size + 2, 0, none⟩)]] w fun e w' => e = .returned (.int .i64 (r : Int)) ∧ Below w.heap.size w w' := by
  have V : Hid (∀ j, j < cs.length → ∀ W : World, Ab w W → Calls Try.prog 71 #[.int .i64 (j : Int), .pointer (some ⟨w0.heap.size + 1, 0, none⟩), .pointer (some ⟨w0.heap.size, 0, none⟩), .pointer (some ⟨w0.heap.size + 2, 0, none⟩)] W fun e w' => e = .returned (.bool (decide (x ≤ kyAt k st sz cs j))) ∧ Below W.heap.size W w') :=
    Lib.hid fun j hj W h => iFrom_any s k st sz hf ad cs c x j hj W w0 (cardsIn_below hc h) (ffB_ab hb h)
  have R := Lib.hid hr
  have r0 := hr.1
  clear hc hb hf hr
  generalize kyAt k st sz cs = ky at *
  go_enter Try.func70, Try.ntmps70
  go_wp2
  go_loopw [5, 6] (fun i j wr => ∃ a b : Nat, i = .int .i64 (a : Int) ∧ j = .int .i64 (b : Int) ∧ a ≤ r ∧ r ≤ b ∧ b ≤ cs.length ∧ Below w.heap.size w wr) (fun i j _ => (intOf j).toNat - (intOf i).toNat)
  case atStart => exact ⟨0, cs.length, rfl, rfl, Nat.zero_le _, r0, Nat.le_refl _, Below.refl _ _⟩
  case round =>
    obtain ⟨a, b, rfl, rfl, ha, hb, hbl, hB⟩ := hrel
    have BB := Lib.hid hB
    by_cases hab : a < b
    · have hd : decide ((a : Int) < (b : Int)) = true := by simpa using hab
      obtain ⟨m, hm⟩ : ∃ m, m = (a + b) / 2 := ⟨_, rfl⟩
      have m1 : a ≤ m := by omega
      have m2 : m < b := by omega
      have v1 : IntKind.i64.wrap ((a : Int) + (b : Int)) = (a : Int) + (b : Int) := IntWalk.i64_in _ (by omega)
      have v2 : IntKind.u64.wrap ((a : Int) + (b : Int)) = (a : Int) + (b : Int) := IntWalk.u64_in _ ⟨by omega, by omega⟩
      have v3 : ((a : Int) + (b : Int)) / 2 = (m : Int) := by omega
      have v4 : IntKind.i64.wrap (m : Int) = (m : Int) := IntWalk.i64_in _ (by omega)
      have v5 : IntKind.i64.wrap ((m : Int) + 1) = (m : Int) + 1 := IntWalk.i64_in _ (by omega)
      have W := Lib.hid (V.out m (by omega) wr hB)
      have lo : Hid (¬ x ≤ ky m → m + 1 ≤ r) := Lib.hid fun h => fst_low R.out (by omega) (by omega)
      have hi : Hid (x ≤ ky m → r ≤ m) := Lib.hid fun h => fst_high R.out (by omega)
      clear hB hm
      generalize ky m = y at *
      have lo : Hid (¬ x ≤ y → m + 1 ≤ r) := lo
      have hi : Hid (x ≤ y → r ≤ m) := hi
      by_cases hxy : x ≤ y
      · have hr := hi.out hxy
        rw [decide_eq_true hxy] at W
        clear lo hi
        go_wp2_with (go_at_call 71; refine W.out.mono ?_; rintro e w1 ⟨rfl, hB1⟩; have B1 := Lib.hid (BB.out.trans (Below.mono hB1 BB.out.size)); clear hB1)
        exact ⟨⟨a, m, rfl, rfl, ha, hr, by omega, B1.out⟩, by (simp [intOf]) <;> omega⟩
      · have hr := lo.out hxy
        rw [decide_eq_false hxy] at W
        clear lo hi
        go_wp2_with (go_at_call 71; refine W.out.mono ?_; rintro e w1 ⟨rfl, hB1⟩; have B1 := Lib.hid (BB.out.trans (Below.mono hB1 BB.out.size)); clear hB1)
        exact ⟨⟨m + 1, b, by rw [Int.natCast_succ], rfl, hr, hb, hbl, B1.out⟩, by (simp [intOf]) <;> omega⟩
    · have e : a = r := by omega
      subst e
      have hd : decide ((a : Int) < (b : Int)) = false := by simp; omega
      clear hB
      go_wp2
      go_ret
      exact ⟨rfl, BB.out⟩

def ffR (ok so : Bool) (r : Int) : Value := .tuple #[.int .i64 (if ok && so then r else 0), .int .i64 (if ok then (if so then 0 else 4) else 1)]
theorem ffR_1 (so : Bool) (r : Int) : .tuple #[.int .i64 0, .int .i64 1] = ffR false so r := rfl
theorem ffR_2 (r : Int) : .tuple #[.int .i64 0, .int .i64 4] = ffR true false r := rfl
theorem ffR_3 (r : Int) : .tuple #[.int .i64 r, .int .i64 0] = ffR true true r := rfl
theorem ffR_parts (ok so : Bool) (r : Int) : ∃ x y : Int, ffR ok so r = .tuple #[.int .i64 x, .int .i64 y] := ⟨_, _, rfl⟩
theorem ord_first (k st sz : Int) (cs : List Cd) (x : Int) : ∃ r : Nat, ordC k st sz cs = true → Fst (kyAt k st sz cs) x cs.length r := by
  cases h : ordC k st sz cs
  · exact ⟨0, fun e => absurd e (by decide)⟩
  · obtain ⟨r, hr⟩ := fst_ex x (ordB_inv h)
    exact ⟨r, fun _ => hr⟩

set_option maxHeartbeats 1600000 in
theorem iFirst_any (s : ByteArray) (k st sz : Int) (hs : s.size ≤ maxLen) (hk : I8 k) (ht : I16 st) (hz : I16 sz) (ad : Option Addr) (cs : List Cd) (c : Nat) (x : Int) (r : Nat) (hr : ordC k st sz cs = true → Fst (kyAt k st sz cs) x cs.length r) (w : World) (hc : CardsIn w ad cs) :
    Calls Try.prog 23 #[.slice ad cs.length c, .agg #[.string s, .int .i8 k, .int .i16 st, .int .i16 sz], .int .i64 x] w fun e w' => e = .returned (ffR (deckOk cs && fieldOk s k st sz) (ordC k st sz cs) r) ∧ Below w.heap.size w w' := by
  have hmf : ∀ (fn : Fn) (first cap : Array Value) (w : World), (Instr.makeFunc fn first cap).run Try.prog w = .ok (.func fn first cap) w := fun _ _ _ _ => rfl
  have D := Lib.hid fun W h => iDeckOk_any ad cs c W h
  have V := Lib.hid fun W => iVF_any s k st sz hs hk ht hz W
  have B0 := Lib.hid (ffB_start w ad cs.length c s k st sz x)
  have H0 := Lib.hid hc
  have HR := Lib.hid hr
  clear hc hs hk ht hz hr
  cases hd : deckOk cs
  · rw [hd] at D
    clear hd V
    go_enter Try.func23, Try.ntmps23
    go_wp2_with (go_at_call 64; refine (D.out _ (cardsIn_below H0.out B0.out.2.2.2)).mono ?_; rintro e w1 ⟨rfl, hB⟩; have B1 := Lib.hid (ffB_ab B0.out hB); have c0 := cell_of_block B1.out.1; have c1 := cell_of_block B1.out.2.1; clear hB)
    go_returns
    exact ⟨eRet (ffR_1 _ _), B1.out.2.2.2⟩
  · have hn := Lib.hid (deckOk_80 hd)
    rw [hd] at D
    clear hd
    cases hf : fieldOk s k st sz
    · rw [hf] at V
      clear hf
      go_enter Try.func23, Try.ntmps23
      go_wp2_with (first
        | (go_at_call 64; refine (D.out _ (cardsIn_below H0.out B0.out.2.2.2)).mono ?_; rintro e w1 ⟨rfl, hB⟩; have B1 := Lib.hid (ffB_ab B0.out hB); have c0 := cell_of_block B1.out.1; have c1 := cell_of_block B1.out.2.1; clear hB)
        | (go_at_call 65; refine (V.out _).mono ?_; rintro e w2 ⟨rfl, hB⟩; have B2 := Lib.hid (ffB_ab B1.out hB); clear c0 c1; have c0 := cell_of_block B2.out.1; have c1 := cell_of_block B2.out.2.1; clear hB))
      go_returns
      exact ⟨eRet (ffR_1 _ _), B2.out.2.2.2⟩
    · have O := Lib.hid fun W h => iOrder_any s k st sz hf ad cs c W h hn.out
      rw [hf] at V
      cases ho : ordC k st sz cs
      · rw [ho] at O
        clear hf ho
        go_enter Try.func23, Try.ntmps23
        go_wp2_with (first
          | (go_at_call 64; refine (D.out _ (cardsIn_below H0.out B0.out.2.2.2)).mono ?_; rintro e w1 ⟨rfl, hB⟩; have B1 := Lib.hid (ffB_ab B0.out hB); have c0 := cell_of_block B1.out.1; have c1 := cell_of_block B1.out.2.1; clear hB)
          | (go_at_call 65; refine (V.out _).mono ?_; rintro e w2 ⟨rfl, hB⟩; have B2 := Lib.hid (ffB_ab B1.out hB); clear c0 c1; have c0 := cell_of_block B2.out.1; have c1 := cell_of_block B2.out.2.1; clear hB)
          | (go_at_call 66; refine (O.out _ (cardsIn_below H0.out B2.out.2.2.2)).mono ?_; rintro e w3 ⟨rfl, hB⟩; have B3 := Lib.hid (ffB_ab B2.out hB); clear c0 c1; have c0 := cell_of_block B3.out.1; clear hB))
        go_returns
        exact ⟨eRet (ffR_2 _), B3.out.2.2.2⟩
      · have F := Lib.hid fun W h hb => iSearch_any s k st sz hf ad cs c x r (HR.out ho) hn.out W w h hb
        rw [ho] at O
        clear hf ho HR
        go_enter Try.func23, Try.ntmps23
        go_wp2_with (first
          | (go_at_call 64; refine (D.out _ (cardsIn_below H0.out B0.out.2.2.2)).mono ?_; rintro e w1 ⟨rfl, hB⟩; have B1 := Lib.hid (ffB_ab B0.out hB); have c0 := cell_of_block B1.out.1; have c1 := cell_of_block B1.out.2.1; clear hB)
          | (go_at_call 65; refine (V.out _).mono ?_; rintro e w2 ⟨rfl, hB⟩; have B2 := Lib.hid (ffB_ab B1.out hB); clear c0 c1; have c0 := cell_of_block B2.out.1; have c1 := cell_of_block B2.out.2.1; clear hB)
          | (go_at_call 66; refine (O.out _ (cardsIn_below H0.out B2.out.2.2.2)).mono ?_; rintro e w3 ⟨rfl, hB⟩; have B3 := Lib.hid (ffB_ab B2.out hB); clear c0 c1; have c0 := cell_of_block B3.out.1; clear hB)
          | (go_at_call 70; refine (F.out _ (cardsIn_below H0.out B3.out.2.2.2) B3.out).mono ?_; rintro e w4 ⟨rfl, hB⟩; have B4 := Lib.hid (ffB_ab B3.out hB); clear hB))
        go_returns
        exact ⟨eRet (ffR_3 _), B4.out.2.2.2⟩

set_option maxHeartbeats 3200000 in
theorem sFirst_any (s : ByteArray) (k st sz : Int) (hs : s.size ≤ maxLen) (ht : I16 st) (hz : I16 sz) (ad : Option Addr) (cs : List Cd) (c : Nat) (x : Int) (r : Nat) (hr : ordC k st sz cs = true → Fst (kyAt k st sz cs) x cs.length r) (w : World) (hc : CardsIn w ad cs) :
    Calls Try.prog 22 #[.slice ad cs.length c, .agg #[.string s, .int .i8 k, .int .i16 st, .int .i16 sz], .int .i64 x] w fun e w' => e = .returned (ffR (deckOk cs && fieldOk s k st sz) (ordC k st sz cs) r) ∧ Below w.heap.size w w' := by
  have D := Lib.hid fun W h => sDeckOk_any ad cs c W h
  have V := Lib.hid fun W h0 h1 h2 h3 => sVF_any s k st sz hs ht hz w.heap.size 0 W h0 h1 h2 h3
  have B0 := Lib.hid (fBox_start w s k st sz)
  have H0 := Lib.hid hc
  have HR := Lib.hid hr
  clear hc hs ht hz hr
  cases hd : deckOk cs
  · rw [hd] at D
    clear hd V
    go_enter Try.func22, Try.ntmps22
    go_wp2_with (go_at_call 60; refine (D.out _ (cardsIn_below H0.out B0.out.2)).mono ?_; rintro e w1 ⟨rfl, hB⟩; have B1 := Lib.hid (fBox_ab B0.out hB); clear hB)
    go_returns
    exact ⟨eRet (ffR_1 _ _), B1.out.2⟩
  · have hn := Lib.hid (deckOk_80 hd)
    rw [hd] at D
    clear hd
    cases hf : fieldOk s k st sz
    · rw [hf] at V
      clear hf
      go_enter Try.func22, Try.ntmps22
      go_wp2_with (first
        | (go_at_call 60; refine (D.out _ (cardsIn_below H0.out B0.out.2)).mono ?_; rintro e w1 ⟨rfl, hB⟩; have B1 := Lib.hid (fBox_ab B0.out hB); clear hB)
        | (go_at_call 61; refine Calls.mono (V.out _ ?_ ?_ ?_ ?_) ?_; exact cell_of_block B1.out.1 0; exact cell_of_block B1.out.1 1; exact cell_of_block B1.out.1 2; exact cell_of_block B1.out.1 3; rintro e w2 ⟨rfl, hB⟩; have B2 := Lib.hid (fBox_ab B1.out hB); clear hB))
      go_returns
      exact ⟨eRet (ffR_1 _ _), B2.out.2⟩
    · have O := Lib.hid fun W h h1 h2 h3 => sSorted_any s k st sz hf ad cs c w.heap.size 0 W h hn.out h1 h2 h3
      rw [hf] at V
      cases ho : ordC k st sz cs
      · rw [ho] at O
        clear hf ho
        go_enter Try.func22, Try.ntmps22
        go_wp2_with (first
          | (go_at_call 60; refine (D.out _ (cardsIn_below H0.out B0.out.2)).mono ?_; rintro e w1 ⟨rfl, hB⟩; have B1 := Lib.hid (fBox_ab B0.out hB); clear hB)
          | (go_at_call 61; refine Calls.mono (V.out _ ?_ ?_ ?_ ?_) ?_; exact cell_of_block B1.out.1 0; exact cell_of_block B1.out.1 1; exact cell_of_block B1.out.1 2; exact cell_of_block B1.out.1 3; rintro e w2 ⟨rfl, hB⟩; have B2 := Lib.hid (fBox_ab B1.out hB); clear hB)
          | (go_at_call 62; refine Calls.mono (O.out _ (cardsIn_below H0.out B2.out.2) ?_ ?_ ?_) ?_; exact cell_of_block B2.out.1 1; exact cell_of_block B2.out.1 2; exact cell_of_block B2.out.1 3; rintro e w3 ⟨rfl, hB⟩; have B3 := Lib.hid (fBox_ab B2.out hB); clear hB))
        go_returns
        exact ⟨eRet (ffR_2 _), B3.out.2⟩
      · have R := Lib.hid (HR.out ho)
        have K : Hid (∀ i, i < cs.length → ∀ W : World, W.cell? ⟨w.heap.size, 0 + 1, none⟩ = some (.int .i8 k) → W.cell? ⟨w.heap.size, 0 + 2, none⟩ = some (.int .i16 st) → W.cell? ⟨w.heap.size, 0 + 3, none⟩ = some (.int .i16 sz) →
            Calls Try.prog 69 #[.pointer (some ⟨w.heap.size, 0, none⟩), .agg #[.int .u64 (cdAt cs i).a, .int .u64 (cdAt cs i).b]] W fun e w' => e = .returned (.int .i64 (kyAt k st sz cs i)) ∧ Below W.heap.size W w') :=
          Lib.hid fun i hi W c1 c2 c3 => sKey_any s k st sz hf _ _ (H0.out i hi).1.2.1 (H0.out i hi).1.2.2 w.heap.size 0 W c1 c2 c3
        rw [ho] at O
        clear hf ho HR
        generalize kyAt k st sz cs = ky at *
        go_enter Try.func22, Try.ntmps22
        go_wp2_with (first
          | (go_at_call 60; refine (D.out _ (cardsIn_below H0.out B0.out.2)).mono ?_; rintro e w1 ⟨rfl, hB⟩; have B1 := Lib.hid (fBox_ab B0.out hB); clear hB)
          | (go_at_call 61; refine Calls.mono (V.out _ ?_ ?_ ?_ ?_) ?_; exact cell_of_block B1.out.1 0; exact cell_of_block B1.out.1 1; exact cell_of_block B1.out.1 2; exact cell_of_block B1.out.1 3; rintro e w2 ⟨rfl, hB⟩; have B2 := Lib.hid (fBox_ab B1.out hB); clear hB)
          | (go_at_call 62; refine Calls.mono (O.out _ (cardsIn_below H0.out B2.out.2) ?_ ?_ ?_) ?_; exact cell_of_block B2.out.1 1; exact cell_of_block B2.out.1 2; exact cell_of_block B2.out.1 3; rintro e w3 ⟨rfl, hB⟩; have B3 := Lib.hid (fBox_ab B2.out hB); clear hB))
        go_loopw [8] (fun i wr => ∃ a : Nat, i = .int .i64 (a : Int) ∧ a ≤ r ∧ FBox w wr s k st sz) (fun i _ => cs.length - (intOf i).toNat)
        case atStart => exact ⟨0, rfl, Nat.zero_le _, B3.out⟩
        case round =>
          obtain ⟨a, rfl, ha, hB⟩ := hrel
          have BB := Lib.hid hB
          have f1 := cell_of_block hB.1 1
          have f2 := cell_of_block hB.1 2
          have f3 := cell_of_block hB.1 3
          have r0 := R.out.1
          by_cases hal : a < cs.length
          · have hd : decide ((a : Int) < (cs.length : Int)) = true := by simpa using hal
            obtain ⟨_, b1, o1, hae, hb1, p0, p1, p2⟩ := H0.out a hal
            have d1 := (hB.2.cell (p := ⟨b1, o1 + a * 3 + 1, none⟩) hb1).trans p1
            have d2 := (hB.2.cell (p := ⟨b1, o1 + a * 3 + 2, none⟩) hb1).trans p2
            have y1 : b1 < wr.heap.size := Nat.lt_of_lt_of_le hb1 hB.2.size
            have i1 : (0 : Int) ≤ (a : Int) := by omega
            have i2 : (a : Int) < (cs.length : Int) := by omega
            have v5 : IntKind.i64.wrap ((a : Int) + 1) = (a : Int) + 1 := IntWalk.i64_in _ (by have := hn.out; omega)
            have W := Lib.hid (K.out a hal)
            have nx : Hid (ky a < x → a + 1 ≤ r) := Lib.hid fun h => fst_next R.out ha hal h
            have st9 : Hid (¬ ky a < x → a = r) := Lib.hid fun h => fst_stop R.out ha (.inr h)
            subst hae
            clear hB p0 p1 p2 hb1 B1 B2 B3 B0 D V O
            generalize cdAt cs a = dd at *
            obtain ⟨ds, da, db⟩ := dd
            simp only at d1 d2
            generalize ky a = y at *
            have nx : Hid (y < x → a + 1 ≤ r) := nx
            have st9 : Hid (¬ y < x → a = r) := st9
            by_cases hxy : y < x
            · have hdx : decide (y < x) = true := decide_eq_true hxy
              have ar := nx.out hxy
              clear nx st9
              go_wp2_with (go_at_call 69; refine Calls.mono (W.out _ ?_ ?_ ?_) ?_; exact f1; exact f2; exact f3; rintro e w4 ⟨rfl, hB4⟩; have B4 := Lib.hid (fBox_ab BB.out hB4); clear hB4)
              exact ⟨⟨a + 1, by rw [Int.natCast_succ], ar, B4.out⟩, by (simp [intOf]) <;> omega⟩
            · have hdx : decide (y < x) = false := decide_eq_false hxy
              have ar := st9.out hxy
              clear nx st9
              subst ar
              go_wp2_with (go_at_call 69; refine Calls.mono (W.out _ ?_ ?_ ?_) ?_; exact f1; exact f2; exact f3; rintro e w4 ⟨rfl, hB4⟩; have B4 := Lib.hid (fBox_ab BB.out hB4); clear hB4)
              go_returns
              exact ⟨eRet (ffR_3 _), B4.out.2⟩
          · have hd : decide ((a : Int) < (cs.length : Int)) = false := by simp; omega
            have ar : a = r := by omega
            subst ar
            clear hB
            go_wp2
            go_returns
            exact ⟨eRet (ffR_3 _), BB.out.2⟩
end Go.Proofs.Ythkmahcdojoioab
