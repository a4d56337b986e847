/- maps.Equal of two maps of states. -/
import Derived.Test.YtaiedpblfnaooacSm
import Derived.Test.YtaiedpblfnaooacCardEq
import Derived.Test.YtaiedpblfnaooacSame
import Derived.Deep.DeepCutAuto
namespace Go.Proofs.Ytaiedpblfnaooac
open Go.ChangeShapes Go.WideShapes Go.ChangeAt Go.RowKit

def wiC (ds : List Cd) (c : Cd) : Bool := (stOf ds c.s).t && ((stOf ds c.s).a == c.a && (stOf ds c.s).b == c.b)
def sameS (cs ds : List Cd) : Bool := decide (cs.length = ds.length) && (List.range cs.length).all fun i => wiC ds (cdAt cs i)
theorem sameS_len {cs ds : List Cd} (h : ¬ cs.length = ds.length) : sameS cs ds = false := by unfold sameS; simp [h]
theorem sameS_no {cs ds : List Cd} {i : Nat} (hi : i < cs.length) (h : wiC ds (cdAt cs i) = false) : sameS cs ds = false := by
  unfold sameS
  rw [Bool.and_eq_false_iff]
  refine .inr ?_
  rw [List.all_eq_false]
  exact ⟨i, List.mem_range.2 hi, by rw [h]; simp⟩
theorem sameS_yes {cs ds : List Cd} (hl : cs.length = ds.length) (h : ∀ i, i < cs.length → wiC ds (cdAt cs i) = true) : sameS cs ds = true := by
  unfold sameS
  rw [decide_eq_true hl, Bool.true_and, List.all_eq_true]
  exact fun i hi => h i (List.mem_range.1 hi)
theorem wiC_of {ds : List Cd} {c : Cd} (h : stOf ds c.s = ⟨true, c.a, c.b⟩) : wiC ds c = true := by unfold wiC; rw [h]; simp

theorem stR_inv2 {v : Value} {y : DataW Unit × List MemPlace} (h : stR v = some y) : ∃ (t : Bool) (p q : Int), v = .agg #[.bool t, .int .u64 p, .int .u64 q] ∧ y = (stD ⟨t, p, q⟩, []) := by
  unfold stR at h
  split at h
  · exact ⟨_, _, _, rfl, (Option.some.inj h).symm⟩
  · cases h
theorem key_str {P : Program} {k : TypeId} (hk : P.underlying k = some .string) {key : Value} {kl : Lit} (h : keyOf P k key = some kl) : ∃ s : ByteArray, key = .string s ∧ kl = kS s := by
  rw [keyOf_string hk] at h
  unfold mapKey at h
  rw [hk] at h
  cases key <;> simp at h
  exact ⟨_, rfl, h.2.symm⟩

section
variable {P : Program} (w : World) {ops : Array Oper} {rest : List Oper} {o : Oper} {a : Act} {Q : Exit → Act → World → Prop}
/-- The step over a map of states. -/
theorem wpList_next_st (hg : o.guard = none) (it : Operand) (hop : o.op = Op.next it false) (k : TypeId) (hk : P.underlying k = some .string)
    (b r n : Nat) (D : DataW Unit) (left : Lit → Bool) (cnt : Nat) (hit : a.eval it = .pointer (some ⟨r, 0, none⟩)) (h : w.ranges P k stR b r n D left cnt)
    (ht : ∀ (x : ByteArray) (t : Bool) (p q : Int), (∀ zd, D.atKey (kS x) zd = stD ⟨t, p, q⟩) → t = true)
    (hDone : cnt = 0 → (∀ kl, left kl = false) → wpList P ops Q rest (a.put o.dst (.tuple #[.bool false])) w)
    (hMore : ∀ (x : ByteArray) (p q : Int) (w' : World) (cnt' : Nat), keyOf P k (.string x) = some (kS x) → (∀ zd, D.atKey (kS x) zd = stD ⟨true, p, q⟩) → w'.ranges P k stR b r n D (fun z => left z && !z.sameKey (kS x)) cnt' → cnt' < cnt →
      w.grownBy w' (some r) → w'.heap.size = w.heap.size → (Instr.entry (.pointer (some ⟨r, 0, none⟩))).run P w' = .ok (.tuple #[.string x, .agg #[.bool true, .int .u64 p, .int .u64 q]]) w' → wpList P ops Q rest (a.put o.dst (.tuple #[.bool true, .string x, .agg #[.bool true, .int .u64 p, .int .u64 q]])) w') :
    wpList P ops Q (o :: rest) a w :=
  wpList_next_ranges w hg it hop k (Maps.string_keyed hk) stR Value.string (fun c : Bool × Int × Int => .agg #[.bool c.1, .int .u64 c.2.1, .int .u64 c.2.2]) (fun key kl hkey => by obtain ⟨x, rfl, _⟩ := key_str hk hkey; exact ⟨x, rfl⟩) (fun v y hv => by obtain ⟨t, p, q, rfl, _⟩ := stR_inv2 hv; exact ⟨(t, p, q), rfl⟩)
    b r n D left cnt hit h hDone (fun x c kl y w' cnt' hkey hlk hv hat hrg hlt hgr hsz hen => by
      obtain ⟨x', ex, rfl⟩ := key_str hk hkey
      cases ex
      obtain ⟨t, p, q, ec, rfl⟩ := stR_inv2 hv
      injection ec with ec
      obtain ⟨c1, c2, c3⟩ := c
      simp at ec
      obtain ⟨rfl, rfl, rfl⟩ := ec
      obtain rfl := ht _ _ _ _ hat
      exact hMore x _ _ w' cnt' hkey hat hrg hlt hgr hsz hen)
/-- Asked, with 'ok'. -/
theorem wpList_lookup_st (hg : o.guard = none) (m x : Operand) (t : TypeId) (hop : o.op = Op.lookup t m x true)
    (k e : TypeId) (hk : P.underlying k = some .string) (ht : P.underlying t = some (.map k e)) (hz : (zeroValue e).run P w = .ok (stV st0) w) (b n : Nat) (D : DataW Unit)
    (hm : a.eval m = .map (some b)) (hown : w.ownsMap P k stR b n D) (s : ByteArray) (hx : a.eval x = .string s) (hkey : keyOf P k (.string s) = some (kS s)) (u : Bool) (p q : Int) (hat : D.atKey (kS s) (stD st0) = stD ⟨u, p, q⟩) (hh : Maps.has D (kS s) = u)
    (hK : wpList P ops Q rest (a.put o.dst (.tuple #[.agg #[.bool u, .int .u64 p, .int .u64 q], .bool u])) w) :
    wpList P ops Q (o :: rest) a w :=
  wpList_lookup_own_ok w hg m x t hop k e (Maps.string_keyed hk) ht stR hz (stD st0) [] (stR_of st0) b n D hm hown (.string s) (kS s) hx hkey (fun v ps hv => by
    rw [hat] at hv
    obtain rfl := stR_inv hv
    rw [hh]
    exact hK)
/-- How many there are. -/
theorem wpList_len_st (hg : o.guard = none) (m : Operand) (t : TypeId) (hop : o.op = Op.call { callee := Callee.builtin Builtin.len, args := #[m], argTypes := #[t] })
    (k e : TypeId) (ht : P.underlying t = some (.map k e)) (b n : Nat) (D : DataW Unit) (hm : a.eval m = .map (some b)) (hown : w.ownsMap P k stR b n D) (z : Int) (hz : (Maps.size D : Int) = z)
    (hK : wpList P ops Q rest (a.put o.dst (.int .i64 z)) w) : wpList P ops Q (o :: rest) a w := by
  subst hz
  exact wpList_len_own w hg m t hop k e ht stR b n D hm hown hK
end

theorem eq_state (t u : Bool) (a b c d : Int) (w : World) : (Op.equalIn 10000 109 (.agg #[.bool t, .int .u64 a, .int .u64 b]) (.agg #[.bool u, .int .u64 c, .int .u64 d])).run Try.prog w = .ok (t == u && (a == c && b == d)) w := by
  have us := Try.underlying4
  have ag := Try.isAgg4
  have zs := Try.sizeOf4
  have am := Try.isAgg37
  have zm := Try.sizeOf37
  have em := eq_mask9
  have hS : Try.prog.underlying 109 = some (.struct (Try.prog.fieldsOf 109)) := by kernel_rfl
  rw [show (10000 : Nat) = 9999 + 1 from rfl, run_equalIn_struct w 9999 109 _ _ hS (by kernel_rfl)]
  simp only [Program.fieldsOf, Try.underlying109]
  go_simp
  cases t <;> cases u <;> by_cases h1 : a = c <;> by_cases h2 : b = d <;> simp [h1, h2]

/-- What has been met is alike. -/
def Met (cs ds : List Cd) (left : Lit → Bool) : Prop := ∀ i, i < cs.length → left (kS (cdAt cs i).s) = false → stOf ds (cdAt cs i).s = ⟨true, (cdAt cs i).a, (cdAt cs i).b⟩
theorem met_start {cs ds : List Cd} (h : deckOk cs = true) : Met cs ds (Maps.has (dSt cs cs.length)) := fun i hi hl => by
  rw [dSt_has, show stTo cs (cdAt cs i).s cs.length = stOf cs (cdAt cs i).s from rfl, st_at h hi] at hl
  cases hl
/-- What a state that is met is. -/
theorem met_is {cs : List Cd} (h : deckOk cs = true) {x : ByteArray} {t : Bool} {p q : Int} (hat : ∀ zd, (dSt cs cs.length).atKey (kS x) zd = stD ⟨t, p, q⟩) : ∃ i, i < cs.length ∧ x = (cdAt cs i).s ∧ t = true ∧ p = (cdAt cs i).a ∧ q = (cdAt cs i).b := by
  have h1 : stOf cs x = ⟨t, p, q⟩ := stD_inj ((dSt_at cs x cs.length).symm.trans (hat _))
  have h2 := Maps.has_true_of_atKey hat
  rw [dSt_has, show stTo cs x cs.length = stOf cs x from rfl] at h2
  rcases st_find h x with ⟨_, he, _⟩ | ⟨k, hk, _, hs, he, _⟩
  · rw [he] at h2; cases h2
  · rw [h1] at he
    injection he with e1 e2 e3
    exact ⟨k, hk, hs.symm, e1, e2, e3⟩
theorem met_step {cs ds : List Cd} {left : Lit → Bool} (ok : deckOk cs = true) (h : Met cs ds left) {i : Nat} (hi : i < cs.length) (he : stOf ds (cdAt cs i).s = ⟨true, (cdAt cs i).a, (cdAt cs i).b⟩) : Met cs ds (fun z => left z && !z.sameKey (kS (cdAt cs i).s)) := fun j hj hl => by
  by_cases e : (cdAt cs j).s = (cdAt cs i).s
  · obtain rfl := deckOk_uniq ok hj hi e
    exact he
  · refine h j hj ?_
    have hne := Maps.sameKey_ne (fun h => e (kS_inj h) : kS (cdAt cs j).s ≠ kS (cdAt cs i).s)
    simpa [hne] using hl
theorem met_end {cs ds : List Cd} {left : Lit → Bool} (hl : cs.length = ds.length) (h : Met cs ds left) (h0 : ∀ kl, left kl = false) : sameS cs ds = true := sameS_yes hl fun i hi => wiC_of (h i hi (h0 _))
theorem wiC_no {ds : List Cd} {c : Cd} {t : Bool} {p q : Int} (h : stOf ds c.s = ⟨t, p, q⟩) (hn : (t && (p == c.a && q == c.b)) = false) : wiC ds c = false := by unfold wiC; rw [h]; exact hn
theorem beq_swap (a b : Int) : (a == b) = (b == a) := by
  by_cases h : a = b
  · rw [h]
  · rw [beq_eq_false_iff_ne.2 h, beq_eq_false_iff_ne.2 (Ne.symm h)]
theorem ret_boolE {x y : Bool} (h : y = x) : Ending.returned (.bool x) = Ending.returned (.bool y) := by rw [h]

set_option maxRecDepth 100000 in
set_option maxHeartbeats 1600000 in
theorem eqSts_any (cs ds : List Cd) (g h : Nat) (w : World) (o1 : deckOk cs = true) (o2 : deckOk ds = true) (k1 : StsO w g cs) (k2 : StsO w h ds) :
    Calls Try.prog 71 #[.map (some g), .map (some h)] w fun e w' => e = .returned (.bool (sameS cs ds)) ∧ Below w.heap.size w w' := by
  have eqs := eq_state
  have K1 := Lib.hid k1
  have K2 := Lib.hid k2
  have O1 := Lib.hid o1
  have Z1 := Lib.hid (congrArg Int.ofNat (dSt_size cs _ (deckOk_to o1)))
  have Z2 := Lib.hid (congrArg Int.ofNat (dSt_size ds _ (deckOk_to o2)))
  clear k1 k2 o1 o2
  go_enter Try.func71, Try.ntmps71
  by_cases hl : cs.length = ds.length
  · have hd : ((cs.length : Int) != (ds.length : Int)) = false := by simp [hl]
    have HL := Lib.hid hl
    clear hl
    go_wp2_with (first
      | (at_len; refine wpList_len_st _ rfl _ _ rfl 9 109 Try.underlying107 g _ _ rfl K1.out (cs.length : Int) Z1.out ?_)
      | (at_len; refine wpList_len_st _ rfl _ _ rfl 9 109 Try.underlying107 h _ _ rfl K2.out (ds.length : Int) Z2.out ?_)
      | (at_range; refine wpList_range_own _ rfl _ 107 rfl 9 109 (Maps.string_keyed Try.underlying9) Try.underlying107 stR g _ _ rfl K1.out ?_; intro w0 hrg0 hg0 hs0)
      | go_in)
    go_frame
    have R0 := Lib.hid hrg0
    have B0 := Lib.hid ((Below.refl w.heap.size w).grown hg0 (Nat.le_refl _) (fun j hj => by cases hj))
    clear hrg0 hg0 hs0
    go_loopw [5] (fun _ wr => ∃ (left : Lit → Bool) (cnt : Nat), wr.ranges Try.prog 9 stR g w.heap.size cs.length (dSt cs cs.length) left cnt ∧ Met cs ds left ∧ Below w.heap.size w wr) (fun _ wr => wr.rangeLeft g w.heap.size)
    case atStart => exact ⟨_, _, R0.out, met_start O1.out, B0.out⟩
    case round =>
      obtain ⟨left, cnt, hrg, hM, hB⟩ := hrel
      have RR := Lib.hid hrg
      have MM := Lib.hid hM
      have BB := Lib.hid hB
      clear hrg hM hB R0 B0
      go_wp2_with (first
        | (at_next; refine wpList_next_st _ rfl _ rfl 9 Try.underlying9 g w.heap.size _ _ _ _ rfl RR.out (fun x t p q hat => by obtain ⟨_, _, _, ht, _⟩ := met_is O1.out hat; exact ht) ?_ ?_)
        | go_in)
      · intro _ hl0
        go_wp2
        go_ret
        exact ⟨ret_boolE (met_end HL.out MM.out hl0), BB.out⟩
      · intro x p q w1 cnt1 hkey hat hrg1 hlt hg1 hs1 hen
        obtain ⟨i, hi, hx, _, hp, hq⟩ := met_is O1.out hat
        have R1 := Lib.hid hrg1
        have B1 := Lib.hid (BB.out.grown hg1 BB.out.size (fun k hk => by cases hk; exact Nat.le_refl _))
        have LT := Lib.hid hlt
        have Q2 := Lib.hid fun W (hb : Below w.heap.size w W) => (K2.out.below hb : StsO W h ds)
        have hh := dSt_has ds x ds.length
        have ha := dSt_at ds x ds.length
        have hst : stOf ds x = stTo ds x ds.length := rfl
        have I1 := Lib.hid hi
        have X1 := Lib.hid hx
        have PQ1 := Lib.hid (And.intro hp hq)
        clear hrg1 hlt hg1 hs1 hat hi hx hp hq
        rcases hy : stTo ds x ds.length with ⟨t2, p2, q2⟩
        rw [hy] at hh ha hst
        have HH := Lib.hid hh
        have HA := Lib.hid ha
        have HS := Lib.hid hst
        have HK := Lib.hid hkey
        clear hh ha hst hy hkey
        cases t2
        · go_wp2_with (first
            | (at_lookup; refine wpList_lookup_st _ rfl _ _ 107 rfl 9 109 Try.underlying9 Try.underlying107 (zero_state _) h _ _ rfl (Q2.out _ (below_new B1.out _)) x rfl HK.out false p2 q2 HA.out HH.out ?_)
            | go_in)
          go_ret
          exact ⟨ret_boolE (sameS_no I1.out (wiC_no (X1.out ▸ HS.out) rfl)), below_new (below_new B1.out _) _⟩
        · cases he : (p == p2 && q == q2)
          · go_wp2_with (first
              | (at_lookup; refine wpList_lookup_st _ rfl _ _ 107 rfl 9 109 Try.underlying9 Try.underlying107 (zero_state _) h _ _ rfl (Q2.out _ (below_new B1.out _)) x rfl HK.out true p2 q2 HA.out HH.out ?_)
              | go_in)
            go_ret
            exact ⟨ret_boolE (sameS_no I1.out (wiC_no (X1.out ▸ HS.out) (by rw [← PQ1.out.1, ← PQ1.out.2, beq_swap p2 p, beq_swap q2 q, he]; rfl))), below_new (below_new B1.out _) _⟩
          · go_wp2_with (first
              | (at_lookup; refine wpList_lookup_st _ rfl _ _ 107 rfl 9 109 Try.underlying9 Try.underlying107 (zero_state _) h _ _ rfl (Q2.out _ (below_new B1.out _)) x rfl HK.out true p2 q2 HA.out HH.out ?_)
              | go_in)
            have R3 := (R1.out.alloc (.cells #[.bool true, .int .u64 p, .int .u64 q] 109)).alloc (.cells #[.bool true, .int .u64 p2, .int .u64 q2] 109)
            have pq : p = p2 ∧ q = q2 := by simpa using he
            refine ⟨⟨_, _, R3, ?_, below_new (below_new B1.out _) _⟩, by rw [R3.left_eq, RR.out.left_eq]; exact LT.out⟩
            rw [X1.out]
            exact met_step O1.out MM.out I1.out (by rw [← X1.out, HS.out, ← PQ1.out.1, ← PQ1.out.2, pq.1, pq.2])
  · have hd : ((cs.length : Int) != (ds.length : Int)) = true := by simp; omega
    have HL := Lib.hid hl
    clear hl
    go_wp2_with (first
      | (at_len; refine wpList_len_st _ rfl _ _ rfl 9 109 Try.underlying107 g _ _ rfl K1.out (cs.length : Int) Z1.out ?_)
      | (at_len; refine wpList_len_st _ rfl _ _ rfl 9 109 Try.underlying107 h _ _ rfl K2.out (ds.length : Int) Z2.out ?_)
      | go_in)
    go_ret
    exact ⟨ret_boolE (sameS_len HL.out), Below.refl _ _⟩
end Go.Proofs.Ytaiedpblfnaooac
