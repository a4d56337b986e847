/- Contracts: AnyOf and AnswerOf, the program's and the model's. -/
import Derived.Test.YthkmahcdojoioabAnsI
import Derived.Test.YthkmahcdojoioabQuery
namespace Go.Proofs.Ythkmahcdojoioab
open Go.ChangeShapes Go.WideShapes Go.ChangeAt Go.RowKit

def qyOk (q : Qy) : Bool := qOk q.a q.b q.c q.d
def qTo (qs : List Qy) : Nat → Bool
  | 0 => true
  | l + 1 => qTo qs l && qyOk (qyAt qs l)
def qsOk (qs : List Qy) : Bool := qTo qs qs.length
theorem qTo_no {qs : List Qy} {l : Nat} (h : qTo qs l = false) : ∀ n, l ≤ n → qTo qs n = false
  | 0, hn => by have : l = 0 := by omega
                subst this; exact h
  | n + 1, hn => by
    by_cases e : l = n + 1
    · subst e; exact h
    · unfold qTo; rw [qTo_no h n (by omega)]; rfl
theorem qsOk_no {qs : List Qy} {l : Nat} (hl : l ≤ qs.length) (h : qTo qs l = false) : qsOk qs = false := qTo_no h _ hl
theorem qTo_next {qs : List Qy} {l : Nat} {x : Bool} (h : qTo qs l = true) (hx : qyOk (qyAt qs l) = x) : qTo qs (l + 1) = x := by unfold qTo; rw [h, hx]; rfl
theorem qsOk_one (q : Qy) : qsOk [q] = qyOk q := by
  show (true && qyOk (qyAt [q] 0)) = qyOk q
  rw [Bool.true_and]; rfl
theorem own_nil (B : Nat) (w : World) : OwnInts B [] (.slice none 0 0) w := ⟨by simp, .inl ⟨rfl, by simp⟩⟩
theorem own_emp {B : Nat} {w : World} (hB : B ≤ w.heap.size) : OwnInts B [] (.slice (some ⟨w.heap.size, 0, none⟩) 0 0) (w.alloc (.cells #[] 2)) := own_none rfl hB

/-- An answer of its own, or none. -/
def AnR (ok : Bool) (zs : List Int) (w : World) (e : Ending) (w' : World) : Prop := ∃ v, e = .returned (.tuple #[v, .int .i64 (if ok then 0 else 1)]) ∧ OwnInts w.heap.size (if ok then zs else []) v w' ∧ Below w.heap.size w w'
theorem AnR.no {zs : List Int} {w w' : World} {v : Value} (h : OwnInts w.heap.size [] v w') (hb : Below w.heap.size w w') : AnR false zs w (.returned (.tuple #[v, .int .i64 1])) w' := ⟨v, rfl, h, hb⟩
theorem AnR.yes {zs : List Int} {w w' : World} {v : Value} (h : OwnInts w.heap.size zs v w') (hb : Below w.heap.size w w') : AnR true zs w (.returned (.tuple #[v, .int .i64 0])) w' := ⟨v, rfl, h, hb⟩
theorem AnR.up {ok : Bool} {zs : List Int} {w W w' : World} {e : Ending} (h : AnR ok zs W e w') (hb : Ab w W) : AnR ok zs w e w' := by
  obtain ⟨v, h1, h2, h3⟩ := h
  exact ⟨v, h1, own_weaken h2 hb.size, Ab.trans hb h3⟩

set_option maxHeartbeats 3200000 in
theorem sAnyOf_any (ad : Option Addr) (cs : List Cd) (c : Nat) (bd : Option Addr) (qs : List Qy) (d : Nat) (w : World) (hc : CardsIn w ad cs) (hq0 : QsIn w bd qs) (hm : qs.length ≤ 9223372036854775806) :
    Calls Try.prog 32 #[.slice ad cs.length c, .slice bd qs.length d] w (AnR (deckOk cs && qsOk qs) (ansTo cs qs cs.length) w) := by
  have C := Lib.hid hc
  have Q := Lib.hid hq0
  have HM := Lib.hid hm
  have D := Lib.hid (sDeckOk_any ad cs c w hc)
  have A := Lib.hid fun (hn : cs.length ≤ 80) W h1 h2 => sAnswer_any ad cs c bd qs d W h1 h2 hn hm
  have H80 : Hid (deckOk cs = true → cs.length ≤ 80) := Lib.hid deckOk_80
  clear hc hq0 hm
  generalize deckOk cs = dk at *
  go_enter Try.func32, Try.ntmps32
  go_wp2_with (go_at_call 60; refine D.out.mono ?_; rintro e w1 ⟨rfl, hB⟩; have B1 := Lib.hid hB; clear hB)
  go_loopw [6, 7] (fun o i wr => ∃ l : Nat, l ≤ qs.length ∧ i = .int .i64 l ∧ o = .bool (dk && qTo qs l) ∧ Below w.heap.size w wr) (fun _ i _ => qs.length - (intOf i).toNat)
  case atStart => exact ⟨0, Nat.zero_le _, rfl, by cases dk <;> rfl, B1.out⟩
  case round =>
    obtain ⟨l, hl, rfl, rfl, hB⟩ := hrel
    have BB := Lib.hid hB
    clear D B1
    cases ho : (dk && qTo qs l)
    · have hall : (dk && qsOk qs) = false := by
        cases dk
        · rfl
        · rw [Bool.true_and] at ho ⊢; exact qsOk_no hl ho
      by_cases hll : l < qs.length
      · have hd : decide ((l : Int) < (qs.length : Int)) = true := by simpa using hll
        clear hB
        go_wp2
        go_ret2
        rw [hall]
        exact AnR.no (own_emp BB.out.size) (below_new BB.out _)
      · have hd : decide ((l : Int) < (qs.length : Int)) = false := by simp; omega
        clear hB
        go_wp2
        go_ret2
        rw [hall]
        exact AnR.no (own_emp BB.out.size) (below_new BB.out _)
    · simp only [Bool.and_eq_true] at ho
      obtain ⟨hd1, hq1⟩ := ho
      subst hd1
      by_cases hll : l < qs.length
      · have hd : decide ((l : Int) < (qs.length : Int)) = true := by simpa using hll
        obtain ⟨_, b2, o2, rfl, hb2, q0, q1, q2, q3⟩ := Q.out l hll
        have e0 := (hB.cell (p := ⟨b2, o2 + l * 4, none⟩) hb2).trans q0
        have e1 := (hB.cell (p := ⟨b2, o2 + l * 4 + 1, none⟩) hb2).trans q1
        have e2 := (hB.cell (p := ⟨b2, o2 + l * 4 + 2, none⟩) hb2).trans q2
        have e3 := (hB.cell (p := ⟨b2, o2 + l * 4 + 3, none⟩) hb2).trans q3
        have i3 : (0 : Int) ≤ (l : Int) := by omega
        have i4 : (l : Int) < (qs.length : Int) := by omega
        have v5 : IntKind.i64.wrap ((l : Int) + 1) = (l : Int) + 1 := IntWalk.i64_in _ (by have := HM.out; omega)
        have K := Lib.hid (sQOk_any _ _ _ _ b2 (o2 + l * 4) wr e0 e1 e2 e3)
        have NX := Lib.hid (qTo_next (x := qyOk (qyAt qs l)) hq1 rfl)
        have K : Hid (Calls Try.prog 72 #[.pointer (some ⟨b2, o2 + l * 4, none⟩)] wr fun e w' => e = .returned (.bool (qyOk (qyAt qs l))) ∧ Below wr.heap.size wr w') := K
        clear hB q0 q1 q2 q3 e0 e1 e2 e3
        generalize qyOk (qyAt qs l) = x at *
        go_wp2_with (go_at_call 72; refine K.out.mono ?_; rintro e w2 ⟨rfl, hB2⟩; have B2 := Lib.hid (BB.out.trans (Below.mono hB2 BB.out.size)); clear hB2)
        exact ⟨⟨l + 1, hll, by rw [Int.natCast_succ], by rw [NX.out, Bool.true_and], B2.out⟩, by (simp [intOf]) <;> omega⟩
      · have e : l = qs.length := by omega
        subst e
        have hd : decide ((qs.length : Int) < (qs.length : Int)) = false := by simp
        have hall : (true && qsOk qs) = true := by rw [Bool.true_and]; exact hq1
        have AA := Lib.hid (A.out (H80.out rfl) wr (cardsIn_below C.out BB.out) (qsIn_below Q.out BB.out))
        clear hB A
        go_wp2_with (go_at_call 73; refine AA.out.mono ?_; rintro e w3 ⟨v, rfl, hO, hB3⟩; have OO := Lib.hid (own_weaken hO BB.out.size); have B3 := Lib.hid (BB.out.trans (Below.mono hB3 BB.out.size)); clear hO hB3)
        go_ret2
        rw [hall]
        exact AnR.yes OO.out B3.out

set_option maxHeartbeats 1600000 in
theorem sAnswerOf_any (ad : Option Addr) (cs : List Cd) (c : Nat) (q : Qy) (hf : q.fits) (w : World) (hc : CardsIn w ad cs) :
    Calls Try.prog 24 #[.slice ad cs.length c, .agg #[.int .u64 q.a, .int .u64 q.b, .int .u64 q.c, .int .u64 q.d]] w (AnR (deckOk cs && qsOk [q]) (ansTo cs [q] cs.length) w) := by
  have C := Lib.hid hc
  have D := Lib.hid fun W h => sDeckOk_any ad cs c W h
  have QQ := Lib.hid fun W h0 h1 h2 h3 => sQOk_any q.a q.b q.c q.d w.heap.size 0 W h0 h1 h2 h3
  have HB := Lib.hid (block_alloc w (Obj.cells #[.int .u64 q.a, .int .u64 q.b, .int .u64 q.c, .int .u64 q.d] 49))
  have BB := Lib.hid (below_new (Below.refl w.heap.size w) (Obj.cells #[.int .u64 q.a, .int .u64 q.b, .int .u64 q.c, .int .u64 q.d] 49))
  have A := Lib.hid fun (hn : cs.length ≤ 80) g W h1 h2 => sAnswer_any ad cs c (some ⟨g, 0, none⟩) [q] 1 W h1 h2 hn (by simp)
  have QI := Lib.hid fun (W : World) g (h : W.heap[g]? = some (Obj.cells #[.int .u64 q.a, .int .u64 q.b, .int .u64 q.c, .int .u64 q.d] 49 (0, 0))) => qsIn_one hf h
  rw [qsOk_one]
  have QQ : Hid (∀ W : World, W.cell? ⟨w.heap.size, 0, none⟩ = some (.int .u64 q.a) → W.cell? ⟨w.heap.size, 0 + 1, none⟩ = some (.int .u64 q.b) → W.cell? ⟨w.heap.size, 0 + 2, none⟩ = some (.int .u64 q.c) → W.cell? ⟨w.heap.size, 0 + 3, none⟩ = some (.int .u64 q.d) → Calls Try.prog 72 #[.pointer (some ⟨w.heap.size, 0, none⟩)] W fun e w' => e = .returned (.bool (qyOk q)) ∧ Below W.heap.size W w') := QQ
  clear hc hf
  cases hd : deckOk cs
  · rw [hd] at D
    clear hd QQ A
    go_enter Try.func24, Try.ntmps24
    go_wp2_with (go_at_call 60; refine (D.out _ (cardsIn_below C.out BB.out)).mono ?_; rintro e w1 ⟨rfl, hB⟩; have B1 := Lib.hid (BB.out.trans (Below.mono hB BB.out.size)); clear hB)
    go_ret2
    exact AnR.no (own_emp B1.out.size) (below_new B1.out _)
  · have hn := deckOk_80 hd
    rw [hd] at D
    clear hd
    cases hq : qyOk q
    · rw [hq] at QQ
      clear hq A
      go_enter Try.func24, Try.ntmps24
      go_wp2_with (first
        | (go_at_call 60; refine (D.out _ (cardsIn_below C.out BB.out)).mono ?_; rintro e w1 ⟨rfl, hB⟩; have B1 := Lib.hid (BB.out.trans (Below.mono hB BB.out.size)); have b1 := Lib.hid (Ab.block hB HB.out); clear hB)
        | (go_at_call 72; refine Calls.mono (QQ.out _ ?_ ?_ ?_ ?_) ?_; exact cell_of_block b1.out 0; exact cell_of_block b1.out 1; exact cell_of_block b1.out 2; exact cell_of_block b1.out 3; rintro e w2 ⟨rfl, hB⟩; have B2 := Lib.hid (B1.out.trans (Below.mono hB B1.out.size)); clear hB))
      go_ret2
      exact AnR.no (own_emp B2.out.size) (below_new B2.out _)
    · rw [hq] at QQ
      clear hq
      go_enter Try.func24, Try.ntmps24
      go_wp2_with (first
        | (go_at_call 60; refine (D.out _ (cardsIn_below C.out BB.out)).mono ?_; rintro e w1 ⟨rfl, hB⟩; have B1 := Lib.hid (BB.out.trans (Below.mono hB BB.out.size)); have b1 := Lib.hid (Ab.block hB HB.out); clear hB)
        | (go_at_call 72; refine Calls.mono (QQ.out _ ?_ ?_ ?_ ?_) ?_; exact cell_of_block b1.out 0; exact cell_of_block b1.out 1; exact cell_of_block b1.out 2; exact cell_of_block b1.out 3; rintro e w2 ⟨rfl, hB⟩; have B2 := Lib.hid (B1.out.trans (Below.mono hB B1.out.size)); have b2 := Lib.hid (Ab.block hB b1.out); have c2 := cell_of_block b2.out; have B3 := Lib.hid (below_new B2.out (Obj.cells #[.int .u64 q.a, .int .u64 q.b, .int .u64 q.c, .int .u64 q.d] 49)); have b3 := Lib.hid (block_alloc w2 (Obj.cells #[.int .u64 q.a, .int .u64 q.b, .int .u64 q.c, .int .u64 q.d] 49)); clear hB)
        | (go_at_call 73; refine (A.out hn _ _ (cardsIn_below C.out B3.out) (QI.out _ _ b3.out)).mono ?_; rintro e w4 ⟨v, rfl, hO, hB4⟩; have OO := Lib.hid (own_weaken hO B3.out.size); have B4 := Lib.hid (B3.out.trans (Below.mono hB4 B3.out.size)); clear hO hB4))
      go_ret2
      exact AnR.yes OO.out B4.out

set_option maxHeartbeats 3200000 in
theorem iAnyOf_any (ad : Option Addr) (cs : List Cd) (c : Nat) (bd : Option Addr) (qs : List Qy) (d : Nat) (w : World) (hc : CardsIn w ad cs) (hq0 : QsIn w bd qs) (hm : qs.length ≤ 9223372036854775806) :
    Calls Try.prog 34 #[.slice ad cs.length c, .slice bd qs.length d] w (AnR (deckOk cs && qsOk qs) (ansTo cs qs cs.length) w) := by
  obtain ⟨i0, hi, hz0, hz1, hz2⟩ := info_parts info_i64
  have hmf : ∀ (fn : Fn) (first cap : Array Value) (w : World), (Instr.makeFunc fn first cap).run Try.prog w = .ok (.func fn first cap) w := fun _ _ _ _ => rfl
  have C := Lib.hid hc
  have Q := Lib.hid hq0
  have HM := Lib.hid hm
  have D := Lib.hid (iDeckOk_any ad cs c w hc)
  clear hc hq0 hm
  cases hdk : deckOk cs
  · rw [hdk] at D
    clear hdk
    go_enter Try.func34, Try.ntmps34
    go_wp2_with (go_at_call 64; refine D.out.mono ?_; rintro e w1 ⟨rfl, hB⟩; have B1 := Lib.hid hB; clear hB)
    go_ret2
    exact AnR.no (own_nil _ _) B1.out
  · have hn := deckOk_80 hdk
    rw [Bool.true_and]
    rw [hdk] at D
    clear hdk
    go_enter Try.func34, Try.ntmps34
    go_wp2_with (go_at_call 64; refine D.out.mono ?_; rintro e w1 ⟨rfl, hB⟩; have B1 := Lib.hid hB; clear hB)
    go_loopw [16] (fun i wr => ∃ l : Nat, l ≤ qs.length ∧ i = .int .i64 l ∧ qTo qs l = true ∧ Below w.heap.size w wr) (fun i _ => qs.length - (intOf i).toNat)
    case atStart => exact ⟨0, Nat.zero_le _, rfl, rfl, B1.out⟩
    case round =>
      obtain ⟨l, hl, rfl, hq1, hB⟩ := hrel
      have BB := Lib.hid hB
      have S := Lib.hid hq1
      clear D B1 hq1
      by_cases hll : l < qs.length
      · have hd : decide ((l : Int) < (qs.length : Int)) = true := by simpa using hll
        obtain ⟨_, b2, o2, rfl, hb2, q0, q1, q2, q3⟩ := Q.out l hll
        have e0 := (hB.cell (p := ⟨b2, o2 + l * 4, none⟩) hb2).trans q0
        have e1 := (hB.cell (p := ⟨b2, o2 + l * 4 + 1, none⟩) hb2).trans q1
        have e2 := (hB.cell (p := ⟨b2, o2 + l * 4 + 2, none⟩) hb2).trans q2
        have e3 := (hB.cell (p := ⟨b2, o2 + l * 4 + 3, none⟩) hb2).trans q3
        have i3 : (0 : Int) ≤ (l : Int) := by omega
        have i4 : (l : Int) < (qs.length : Int) := by omega
        have v5 : IntKind.i64.wrap ((l : Int) + 1) = (l : Int) + 1 := IntWalk.i64_in _ (by have := HM.out; omega)
        have K : Hid (∀ W : World, Calls Try.prog 76 #[.agg #[.int .u64 (qyAt qs l).a, .int .u64 (qyAt qs l).b, .int .u64 (qyAt qs l).c, .int .u64 (qyAt qs l).d]] W fun e w' => e = .returned (.bool (qyOk (qyAt qs l))) ∧ Below W.heap.size W w') := Lib.hid fun W => iQOk_any _ _ _ _ W
        have no := Lib.hid fun h => qsOk_no hll (qTo_next S.out h)
        have nx := Lib.hid fun h => qTo_next (x := true) S.out h
        clear hB q0 q1 q2 q3 S
        cases hq : qyOk (qyAt qs l)
        · rw [hq] at K
          have NO := Lib.hid (no.out hq)
          clear no nx hq
          generalize qyAt qs l = x at *
          go_wp2_with (go_at_call 76; refine (K.out _).mono ?_; rintro e w2 ⟨rfl, hB2⟩; have B2 := Lib.hid ((below_new BB.out _).trans (Below.mono hB2 (below_new BB.out _).size)); clear hB2)
          go_ret2
          rw [NO.out]
          exact AnR.no (own_nil _ _) B2.out
        · rw [hq] at K
          have NX := Lib.hid (nx.out hq)
          clear no nx hq
          generalize qyAt qs l = x at *
          go_wp2_with (go_at_call 76; refine (K.out _).mono ?_; rintro e w2 ⟨rfl, hB2⟩; have B2 := Lib.hid ((below_new BB.out _).trans (Below.mono hB2 (below_new BB.out _).size)); clear hB2)
          exact ⟨⟨l + 1, hll, by rw [Int.natCast_succ], NX.out, B2.out⟩, by (simp [intOf]) <;> omega⟩
      · have e : l = qs.length := by omega
        subst e
        have hd : decide ((qs.length : Int) < (qs.length : Int)) = false := by simp
        have hall : qsOk qs = true := S.out
        have HA := Lib.hid hall
        clear hB hall
        go_wp2
        go_loopw [8, 26] (fun v i wr => ∃ j : Nat, j ≤ cs.length ∧ i = .int .i64 j ∧ OwnInts w.heap.size (ansTo cs qs j) v wr ∧ Below w.heap.size w wr) (fun _ i _ => cs.length - (intOf i).toNat)
        case atStart => exact ⟨0, Nat.zero_le _, rfl, own_nil _ _, BB.out⟩
        case round =>
          obtain ⟨j, hj, rfl, O, hB⟩ := hrel
          have BC := Lib.hid hB
          have OC := Lib.hid O
          clear O BB S
          by_cases hjl : j < cs.length
          · have hd : decide ((j : Int) < (cs.length : Int)) = true := by simpa using hjl
            obtain ⟨_, b1, o1, rfl, hb1, p0, p1, p2⟩ := C.out j hjl
            have d0 := (hB.cell (p := ⟨b1, o1 + j * 3, none⟩) hb1).trans p0
            have d1 := (hB.cell (p := ⟨b1, o1 + j * 3 + 1, none⟩) hb1).trans p1
            have d2 := (hB.cell (p := ⟨b1, o1 + j * 3 + 2, none⟩) hb1).trans p2
            have i1 : (0 : Int) ≤ (j : Int) := by omega
            have i2 : (j : Int) < (cs.length : Int) := by omega
            have hA : Ab wr (wr.alloc (.cells #[.string (cdAt cs j).s, .int .u64 (cdAt cs j).a, .int .u64 (cdAt cs j).b] 95)) := below_new (Below.refl _ _) _
            have AA := Lib.hid hA
            have B2 := Lib.hid (BC.out.trans (Below.mono hA BC.out.size))
            have K := Lib.hid (iContainsQ bd qs d cs j wr.heap.size _ (qsIn_below Q.out B2.out) HM.out (block_alloc wr (.cells #[.string (cdAt cs j).s, .int .u64 (cdAt cs j).a, .int .u64 (cdAt cs j).b] 95)))
            have yes := Lib.hid fun h => ans_yes (cs := cs) (qs := qs) (k := j) h
            have no := Lib.hid fun h => ans_no (cs := cs) (qs := qs) (k := j) h
            have al := ans_len cs qs j
            clear hB p0 p1 p2 hA
            cases hq : qAny cs qs j
            · rw [hq] at K
              have NO := Lib.hid (no.out hq)
              clear yes no hq
              generalize cdAt cs j = x at *
              obtain ⟨xs, xa, xb⟩ := x
              simp only at d0 d1 d2 K AA B2
              go_wp2_with (go_at_call 77; refine K.out.mono ?_; rintro e w3 ⟨rfl, hB3⟩; have B3 := Lib.hid (B2.out.trans (Below.mono hB3 B2.out.size)); have O3 := Lib.hid (own_grow (own_grow OC.out AA.out) hB3); clear hB3)
              exact ⟨⟨j + 1, hjl, by rw [Int.natCast_succ], by rw [NO.out]; exact O3.out, B3.out⟩, by (simp [intOf]) <;> omega⟩
            · rw [hq] at K
              have YE := Lib.hid (yes.out hq)
              clear yes no hq
              generalize cdAt cs j = x at *
              obtain ⟨xs, xa, xb⟩ := x
              simp only at d0 d1 d2 K AA B2
              go_wp2_with (first
                | (go_at_call 77; refine K.out.mono ?_; rintro e w3 ⟨rfl, hB3⟩; have B3 := Lib.hid (B2.out.trans (Below.mono hB3 B2.out.size)); have O3 := Lib.hid (own_grow (own_grow OC.out AA.out) hB3); have s3 := B3.out.size; clear hB3)
                | (at_builtin; refine wpList_append_own _ rfl _ _ 44 rfl w.heap.size 2 i0 (.int .i64 0) 1 8 Try.underlying44 hi hz0 hz1 hz2 rfl (by decide) _ _ _ rfl (O3.out.alloc _) ⟨w3.heap.size, 0, none⟩ 1 1 [.int .i64 (j : Int)] rfl rfl (one_new _ _ _) (fun x hx => by simp at hx; subst hx; rfl) (by unfold maxLen; omega) (by omega) (by simp; omega) ?_; intro v' w4 hown hgrow _; have P := Lib.hid (own_push hown); have G := Lib.hid hgrow; clear hown hgrow))
              refine ⟨⟨j + 1, hjl, by rw [Int.natCast_succ], by rw [YE.out]; exact P.out, ?_⟩, by (simp [intOf]) <;> omega⟩
              exact Below.grown (B3.out.alloc s3 _) G.out (by simp; omega) (fun k hk => own_lt O3.out k hk)
          · have e : j = cs.length := by omega
            subst e
            have hd : decide ((cs.length : Int) < (cs.length : Int)) = false := by simp
            clear hB
            go_wp2
            go_ret2
            rw [HA.out]
            exact AnR.yes OC.out BC.out

set_option maxHeartbeats 1600000 in
theorem iAnswerOf_any (ad : Option Addr) (cs : List Cd) (c : Nat) (q : Qy) (hf : q.fits) (w : World) (hc : CardsIn w ad cs) :
    Calls Try.prog 26 #[.slice ad cs.length c, .agg #[.int .u64 q.a, .int .u64 q.b, .int .u64 q.c, .int .u64 q.d]] w (AnR (deckOk cs && qsOk [q]) (ansTo cs [q] cs.length) w) := by
  have AB : Ab w ((w.alloc (Obj.cells #[.int .u64 q.a, .int .u64 q.b, .int .u64 q.c, .int .u64 q.d] 49)).alloc (Obj.cells #[.int .u64 q.a, .int .u64 q.b, .int .u64 q.c, .int .u64 q.d] 49)) := below_new (below_new (Below.refl _ _) _) _
  have b2 := (block_alloc2 w (Obj.cells #[.int .u64 q.a, .int .u64 q.b, .int .u64 q.c, .int .u64 q.d] 49) (Obj.cells #[.int .u64 q.a, .int .u64 q.b, .int .u64 q.c, .int .u64 q.d] 49)).2
  have A := Lib.hid (iAnyOf_any ad cs c (some ⟨w.heap.size + 1, 0, none⟩) [q] 1 _ (cardsIn_below hc AB) (qsIn_one hf b2) (by simp))
  have AA := Lib.hid AB
  clear hc hf AB b2
  generalize (deckOk cs && qsOk [q]) = ok at *
  cases ok
  · go_enter Try.func26, Try.ntmps26
    go_wp2_with (go_at_call 34; refine A.out.mono ?_; rintro e w1 ⟨v, rfl, hO, hB⟩; have R := Lib.hid (AnR.up ⟨v, rfl, hO, hB⟩ AA.out); clear hO hB)
    go_ret2
    exact R.out
  · go_enter Try.func26, Try.ntmps26
    go_wp2_with (go_at_call 34; refine A.out.mono ?_; rintro e w1 ⟨v, rfl, hO, hB⟩; have R := Lib.hid (AnR.up ⟨v, rfl, hO, hB⟩ AA.out); clear hO hB)
    go_ret2
    exact R.out
end Go.Proofs.Ythkmahcdojoioab
