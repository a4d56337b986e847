/- Several texts in one, as a claim has at most 60 files: EbM EbI EbI2 EbS EbS2. -/
import Derived.Test.YtanocllpmjhblaaEdsOwn
import Derived.Test.YtanocllpmjhblaaEdV
import Derived.Test.YtanocllpmjhblaaStM
import Derived.Test.YtanocllpmjhblaaHolesIn
import Derived.Test.YtanocllpmjhblaaSm
import Derived.Test.YtanocllpmjhblaaWear2
import Derived.Test.YtanocllpmjhblaaFar
import Derived.Test.YtanocllpmjhblaaDeckI
import Derived.Deep.AppendLies
import Derived.Test.YtanocllpmjhblaaAppR
import Derived.Test.YtanocllpmjhblaaDeckS
import Derived.Test.YtanocllpmjhblaaFind
import Derived.Test.YtanocllpmjhblaaRowN
import Derived.Deep.RegionLaw
import Derived.Test.YtanocllpmjhblaaWith
import Derived.Test.YtanocllpmjhblaaNrP
namespace Go.Proofs.Ytanocllpmjhblaa
open Go.ChangeShapes Go.WideShapes Go.ChangeAt Go.RowKit

theorem hol_in {f : Int → Bool} : ∀ {n : Nat} {x : Int}, x ∈ hol f n → 0 ≤ x ∧ x < (n : Int)
  | 0, x, h => by cases h
  | n + 1, x, h => by
    cases hf : f (n : Int)
    · rw [hol_no hf] at h; have := hol_in h; omega
    · rw [hol_yes hf] at h
      rcases List.mem_append.1 h with h | h
      · have := hol_in h; omega
      · simp at h; omega
theorem hz_at (a b : Int) {i : Nat} (h : i < (hzL a b).length) : 0 ≤ (hzL a b).getD i 0 ∧ (hzL a b).getD i 0 < 96 := by
  have hm : (hzL a b).getD i 0 ∈ hzL a b := by
    simp only [List.getD, List.getElem?_eq_getElem h, Option.getD_some]
    exact List.getElem_mem _
  generalize (hzL a b).getD i 0 = x at *
  unfold hzL at hm
  split at hm
  · exact hol_in hm
  · cases hm
/-- Edits of one kind, one for each hole. -/
def edTo (s : ByteArray) (k : Int) (zs : List Int) : List Ed := zs.map fun z => ⟨k, s, z, 0, 0⟩
theorem edTo_len (s : ByteArray) (k : Int) (zs : List Int) : (edTo s k zs).length = zs.length := by unfold edTo; simp
theorem edTo_next (s : ByteArray) (k : Int) {zs : List Int} {j : Nat} (h : j < zs.length) : edTo s k (zs.take (j + 1)) = edTo s k (zs.take j) ++ [⟨k, s, zs.getD j 0, 0, 0⟩] := by
  unfold edTo
  rw [List.take_succ_eq_append_getElem h, List.map_append]
  simp [List.getD, h]
/-- The edits behind which a card has another mask. -/
def toL (s : ByteArray) (a b c d : Int) : List Ed := edTo s 4 (hzL (bits .andNot .u64 a c) (bits .andNot .u64 b d)) ++ edTo s 3 (hzL (bits .andNot .u64 c a) (bits .andNot .u64 d b))
theorem toL_len (s : ByteArray) (a b c d : Int) : (toL s a b c d).length ≤ 192 := by
  unfold toL
  rw [List.length_append, edTo_len, edTo_len]
  have := hz_len (bits .andNot .u64 a c) (bits .andNot .u64 b d)
  have := hz_len (bits .andNot .u64 c a) (bits .andNot .u64 d b)
  omega
/-- Behind the first j cards of the first deck. -/
def eb1 (ps qs : List Cd) : Nat → List Ed
  | 0 => []
  | j + 1 => eb1 ps qs j ++ (if (stOf qs (cdAt ps j).s).t then toL (cdAt ps j).s (cdAt ps j).a (cdAt ps j).b (stOf qs (cdAt ps j).s).a (stOf qs (cdAt ps j).s).b else [⟨2, (cdAt ps j).s, 0, (cdAt ps j).a, (cdAt ps j).b⟩])
/-- And the first j of the second one. -/
def eb2 (ps qs : List Cd) : Nat → List Ed
  | 0 => eb1 ps qs ps.length
  | j + 1 => eb2 ps qs j ++ (if (stOf ps (cdAt qs j).s).t then [] else [⟨1, (cdAt qs j).s, 0, (cdAt qs j).a, (cdAt qs j).b⟩])
theorem eb1_len (ps qs : List Cd) : ∀ j, (eb1 ps qs j).length ≤ 192 * j
  | 0 => Nat.zero_le _
  | j + 1 => by
    have := eb1_len ps qs j
    have h2 := toL_len (cdAt ps j).s (cdAt ps j).a (cdAt ps j).b (stOf qs (cdAt ps j).s).a (stOf qs (cdAt ps j).s).b
    unfold eb1
    rw [List.length_append]
    split
    · omega
    · rw [List.length_singleton]; omega
theorem eb2_len (ps qs : List Cd) : ∀ j, (eb2 ps qs j).length ≤ 192 * ps.length + j
  | 0 => eb1_len ps qs ps.length
  | j + 1 => by
    have := eb2_len ps qs j
    unfold eb2
    rw [List.length_append]
    split
    · rw [List.length_nil]; omega
    · rw [List.length_singleton]; omega
theorem eb1_yes {ps qs : List Cd} {j : Nat} {c d : Int} (h : stOf qs (cdAt ps j).s = ⟨true, c, d⟩) : eb1 ps qs (j + 1) = eb1 ps qs j ++ toL (cdAt ps j).s (cdAt ps j).a (cdAt ps j).b c d := by
  show eb1 ps qs j ++ (if _ then _ else _) = _
  rw [h]; rfl
theorem eb1_no {ps qs : List Cd} {j : Nat} (h : stOf qs (cdAt ps j).s = st0) : eb1 ps qs (j + 1) = eb1 ps qs j ++ [⟨2, (cdAt ps j).s, 0, (cdAt ps j).a, (cdAt ps j).b⟩] := by
  show eb1 ps qs j ++ (if _ then _ else _) = _
  rw [h]; rfl
theorem eb2_yes {ps qs : List Cd} {j : Nat} {c d : Int} (h : stOf ps (cdAt qs j).s = ⟨true, c, d⟩) : eb2 ps qs (j + 1) = eb2 ps qs j := by
  show eb2 ps qs j ++ (if _ then _ else _) = _
  rw [h]; exact List.append_nil _
theorem eb2_no {ps qs : List Cd} {j : Nat} (h : stOf ps (cdAt qs j).s = st0) : eb2 ps qs (j + 1) = eb2 ps qs j ++ [⟨1, (cdAt qs j).s, 0, (cdAt qs j).a, (cdAt qs j).b⟩] := by
  show eb2 ps qs j ++ (if _ then _ else _) = _
  rw [h]; rfl
/-- What it answers: the edits, and the code. -/
def ebL (ok : Bool) (ps qs : List Cd) : List Ed := if ok = true ∧ (eb2 ps qs qs.length).length ≤ 200 then eb2 ps qs qs.length else []
def ebC (ok : Bool) (ps qs : List Cd) : Int := if ok then (if (eb2 ps qs qs.length).length ≤ 200 then 0 else 3) else 1
theorem eb_no (ps qs : List Cd) : ebL false ps qs = [] ∧ ebC false ps qs = 1 := ⟨if_neg (by simp), rfl⟩
theorem eb_far {ps qs : List Cd} (h : ¬ (eb2 ps qs qs.length).length ≤ 200) : ebL true ps qs = [] ∧ ebC true ps qs = 3 := ⟨if_neg (fun q => h q.2), by unfold ebC; rw [if_pos rfl, if_neg h]⟩
theorem eb_yes {ps qs : List Cd} (h : (eb2 ps qs qs.length).length ≤ 200) : ebL true ps qs = eb2 ps qs qs.length ∧ ebC true ps qs = 0 := ⟨if_pos ⟨rfl, h⟩, by unfold ebC; rw [if_pos rfl, if_pos h]⟩
theorem ebL_len (ok : Bool) (ps qs : List Cd) : (ebL ok ps qs).length ≤ 200 := by
  unfold ebL; split
  · rename_i h; exact h.2
  · exact Nat.zero_le _
/-- Edits of the call's own, and a code. -/
def EbR (xs : List Ed) (k : Int) (w : World) (e : Ending) (w' : World) : Prop := ∃ v, e = .returned (.tuple #[v, .int .i64 k]) ∧ OwnEdits w.heap.size xs v w' ∧ Below w.heap.size w w'
theorem new5 (w : World) (x0 x1 x2 x3 x4 : Value) (t : TypeId) : ∀ j u, [x0, x1, x2, x3, x4][j]? = some u → (w.alloc (.cells #[x0, x1, x2, x3, x4] t)).cell? ((⟨w.heap.size, 0, none⟩ : Addr).add j) = some u := by
  intro j u h
  match j, h with
  | 0, h => simp at h; subst h; simp [Addr.add]
  | 1, h => simp at h; subst h; simp [Addr.add]
  | 2, h => simp at h; subst h; simp [Addr.add]
  | 3, h => simp at h; subst h; simp [Addr.add]
  | 4, h => simp at h; subst h; simp [Addr.add]
theorem ownEd_low {B C : Nat} {xs : List Ed} {v : Value} {w : World} (h : OwnEdits B xs v w) (hc : C ≤ B) : OwnEdits C xs v w := ownEdits_weaken h hc
end Go.Proofs.Ytanocllpmjhblaa

namespace Go.Proofs.Ytanocllpmjhblaa
open Go.ChangeShapes Go.WideShapes Go.ChangeAt Go.RowKit

def EtR (xs : List Ed) (w : World) (e : Ending) (w' : World) : Prop := ∃ v, e = .returned v ∧ OwnEdits w.heap.size xs v w' ∧ Below w.heap.size w w'

set_option maxRecDepth 100000 in
set_option maxHeartbeats 3200000 in
theorem iEditsTo_any (s : ByteArray) (a b c d : Int) (ha : U64 a) (hb : U64 b) (hc : U64 c) (hd : U64 d) (w : World) :
    Calls Try.prog 79 #[.agg #[.string s, .int .u64 a, .int .u64 b], .agg #[.int .u64 c, .int .u64 d]] w (EtR (toL s a b c d) w) := by
  obtain ⟨i0, hi, hz0, hz1, hz2⟩ := info_parts info_ed
  have HB := Lib.hid (block_alloc2 w (.cells #[.string s, .int .u64 a, .int .u64 b] 89) (.cells #[.int .u64 c, .int .u64 d] 53))
  have B0 := Lib.hid (below_new (below_new (Below.refl w.heap.size w) (.cells #[.string s, .int .u64 a, .int .u64 b] 89)) (.cells #[.int .u64 c, .int .u64 d] 53))
  have BT := Lib.hid fun W => iBtw_any a b c d W
  have HF := Lib.hid fun W => iHolesIn_any _ _ (u64_less ha hc) (u64_less hb hd) W
  have HT := Lib.hid fun W => iHolesIn_any _ _ (u64_less hc ha) (u64_less hd hb) W
  have AF := Lib.hid fun i h => hz_at (bits .andNot .u64 a c) (bits .andNot .u64 b d) (i := i) h
  have AT := Lib.hid fun i h => hz_at (bits .andNot .u64 c a) (bits .andNot .u64 d b) (i := i) h
  have lF := hz_len (bits .andNot .u64 a c) (bits .andNot .u64 b d)
  have lT := hz_len (bits .andNot .u64 c a) (bits .andNot .u64 d b)
  unfold toL
  clear ha hb hc hd
  generalize hzL (bits .andNot .u64 a c) (bits .andNot .u64 b d) = zs at *
  generalize hzL (bits .andNot .u64 c a) (bits .andNot .u64 d b) = ys at *
  generalize hzC (bits .andNot .u64 b d) = q1 at *
  generalize hzC (bits .andNot .u64 d b) = q2 at *
  generalize bits .andNot .u64 c a = t0 at *
  generalize bits .andNot .u64 d b = t1 at *
  generalize bits .andNot .u64 a c = f0 at *
  generalize bits .andNot .u64 b d = f1 at *
  have tok1 : True := trivial
  go_enter Try.func79, Try.ntmps79
  go_upto_region 2 with (go_at_call 92; refine (BT.out _).mono ?_; rintro e w1 ⟨rfl, hB⟩; have b1 := Lib.hid (B0.out.trans (Below.mono hB B0.out.size)); have C1 := Lib.hid (Ab.block hB HB.out.1); clear hB)
  have W1 := Lib.hid (block_alloc w1 (.cells #[.int .u64 t0, .int .u64 t1, .int .u64 f0, .int .u64 f1] 153))
  have A1 := below_new (Below.refl w1.heap.size w1) (.cells #[.int .u64 t0, .int .u64 t1, .int .u64 f0, .int .u64 f1] 153)
  have b2 := Lib.hid (b1.out.trans (Below.mono A1 b1.out.size))
  have C2 := Lib.hid (Ab.block A1 C1.out)
  clear A1 b1 C1
  generalize w1.alloc (.cells #[.int .u64 t0, .int .u64 t1, .int .u64 f0, .int .u64 f1] 153) = V2 at *
  generalize w1.heap.size = g2 at *
  have c2 := cell_of_block W1.out
  go_upto_region 4 with (first
    | (go_at_call 71; have _t := tok1; clear _t tok1; refine (HF.out _).mono ?_; rintro e w3 ⟨v3, rfl, hO, hB⟩; obtain ⟨a3, c3, rfl, hi3⟩ := ownInts_in hO; have I3 := Lib.hid hi3; have b3 := Lib.hid (b2.out.trans (Below.mono hB b2.out.size)); have C3 := Lib.hid (Ab.block hB C2.out); have W3 := Lib.hid (Ab.block hB W1.out); clear c2 hB hO hi3; have c2 := cell_of_block W3.out)
    | (go_at_call 71; refine (HT.out _).mono ?_; rintro e w4 ⟨v4, rfl, hO, hB⟩; obtain ⟨a4, c4, rfl, hi4⟩ := ownInts_in hO; have I4 := Lib.hid hi4; have J4 := Lib.hid (intsIn_below I3.out hB); have b4 := Lib.hid (b3.out.trans (Below.mono hB b3.out.size)); have C4 := Lib.hid (Ab.block hB C3.out); clear c2 hB hO hi4))
  go_wp2
  go_loopw [10, 33] (fun v i wr => ∃ j : Nat, j ≤ zs.length ∧ i = .int .i64 (j : Int) ∧ OwnEdits w4.heap.size (edTo s 4 (zs.take j)) v wr ∧ Below w4.heap.size w4 wr) (fun _ i _ => zs.length - (intOf i).toNat)
  case atStart => exact ⟨0, Nat.zero_le _, rfl, by rw [List.take_zero]; exact ownEdits_nil _ _, Below.refl _ _⟩
  case round =>
    obtain ⟨j, hj, rfl, hO, hB⟩ := hrel
    have OO := Lib.hid hO
    have BB := Lib.hid hB
    have CC := Lib.hid (Ab.block hB C4.out)
    clear hO
    by_cases hjl : j < zs.length
    · have hd : decide ((j : Int) < (zs.length : Int)) = true := by simpa using hjl
      obtain ⟨b1, o1, rfl, hb1, p0⟩ := J4.out j hjl
      have d0 := (hB.cell (p := ⟨b1, o1 + j, none⟩) hb1).trans p0
      have i1 : (0 : Int) ≤ (j : Int) := by omega
      have i2 : (j : Int) < (zs.length : Int) := by omega
      obtain ⟨h1, h2⟩ := AF.out j hjl
      have NX := Lib.hid (edTo_next s 4 hjl)
      have ln : (edTo s 4 (zs.take j)).length = j := by rw [edTo_len, List.length_take]; omega
      generalize zs.getD j 0 = z at *
      have wl : IntKind.i16.wrap z = z := IntWalk.i16_in _ (by omega)
      have cc := cell_of_block CC.out
      have sz := lt_of_block CC.out
      clear hB p0 h1 h2
      go_wp2_with (at_builtin; refine wpList_append_lies _ rfl _ _ 66 rfl w4.heap.size 130 i0 (.agg #[.int .i8 0, .string ByteArray.empty, .int .i16 0, .int .u64 0, .int .u64 0]) 5 48 Try.underlying66 hi hz0 hz1 hz2 rfl (by decide) _ _ _ rfl (World.ownsRow.alloc OO.out _) ⟨wr.heap.size, 0, none⟩ 1 1 [.int .i8 4, .string s, .int .i16 z, .int .u64 0, .int .u64 0] rfl rfl (new5 _ _ _ _ _ _ _) (fun x hx => by simp at hx; rcases hx with rfl | rfl | rfl | rfl | rfl <;> rfl) (by omega) (by unfold maxLen; omega) (by omega) (by simp; have := BB.out.size; omega) _ rfl ?_; intro gg cap2 w5 hown hgrow _ _; have P := Lib.hid (ownEdits_push hown); have G := Lib.hid hgrow; clear hown hgrow)
      refine ⟨⟨j + 1, hjl, by rw [Int.natCast_succ], by have o := P.out; rw [ln] at o; rw [NX.out]; exact o, ?_⟩, by (simp [intOf]) <;> omega⟩
      exact Below.grown (BB.out.alloc BB.out.size _) G.out (by simp; have := BB.out.size; omega) (fun k hk => ownEdits_lt OO.out k hk)
    · have e : j = zs.length := by omega
      subst e
      have hd : decide ((zs.length : Int) < (zs.length : Int)) = false := by simp
      rw [List.take_of_length_le (Nat.le_refl _)] at OO
      clear hB
      generalize wr = W6 at *
      go_wp2
      go_loopw [10, 48] (fun v i wr => ∃ j : Nat, j ≤ ys.length ∧ i = .int .i64 (j : Int) ∧ OwnEdits w4.heap.size (edTo s 4 zs ++ edTo s 3 (ys.take j)) v wr ∧ Below w4.heap.size w4 wr) (fun _ i _ => ys.length - (intOf i).toNat)
      case atStart => exact ⟨0, Nat.zero_le _, rfl, by rw [List.take_zero]; show OwnEdits _ (edTo s 4 zs ++ []) _ _; rw [List.append_nil]; exact OO.out, BB.out⟩
      case round =>
        obtain ⟨j, hj, rfl, hO, hB⟩ := hrel
        have OO := Lib.hid hO
        have BB := Lib.hid hB
        have CC := Lib.hid (Ab.block hB C4.out)
        clear hO
        by_cases hjl : j < ys.length
        · have hd : decide ((j : Int) < (ys.length : Int)) = true := by simpa using hjl
          obtain ⟨b1, o1, rfl, hb1, p0⟩ := I4.out j hjl
          have d0 := (hB.cell (p := ⟨b1, o1 + j, none⟩) hb1).trans p0
          have i1 : (0 : Int) ≤ (j : Int) := by omega
          have i2 : (j : Int) < (ys.length : Int) := by omega
          obtain ⟨h1, h2⟩ := AT.out j hjl
          have NX := Lib.hid (edTo_next s 3 hjl)
          have ln : (edTo s 4 zs ++ edTo s 3 (ys.take j)).length = zs.length + j := by rw [List.length_append, edTo_len, edTo_len, List.length_take]; omega
          generalize ys.getD j 0 = z at *
          have wl : IntKind.i16.wrap z = z := IntWalk.i16_in _ (by omega)
          have cc := cell_of_block CC.out
          have sz := lt_of_block CC.out
          clear hB p0 h1 h2
          go_wp2_with (at_builtin; refine wpList_append_lies _ rfl _ _ 66 rfl w4.heap.size 130 i0 (.agg #[.int .i8 0, .string ByteArray.empty, .int .i16 0, .int .u64 0, .int .u64 0]) 5 48 Try.underlying66 hi hz0 hz1 hz2 rfl (by decide) _ _ _ rfl (World.ownsRow.alloc OO.out _) ⟨wr.heap.size, 0, none⟩ 1 1 [.int .i8 3, .string s, .int .i16 z, .int .u64 0, .int .u64 0] rfl rfl (new5 _ _ _ _ _ _ _) (fun x hx => by simp at hx; rcases hx with rfl | rfl | rfl | rfl | rfl <;> rfl) (by omega) (by unfold maxLen; omega) (by omega) (by simp; have := BB.out.size; omega) _ rfl ?_; intro gg cap2 w5 hown hgrow _ _; have P := Lib.hid (ownEdits_push hown); have G := Lib.hid hgrow; clear hown hgrow)
          refine ⟨⟨j + 1, hjl, by rw [Int.natCast_succ], by have o := P.out; rw [ln] at o; rw [NX.out, ← List.append_assoc]; exact o, ?_⟩, by (simp [intOf]) <;> omega⟩
          exact Below.grown (BB.out.alloc BB.out.size _) G.out (by simp; have := BB.out.size; omega) (fun k hk => ownEdits_lt OO.out k hk)
        · have e : j = ys.length := by omega
          subst e
          have hd : decide ((ys.length : Int) < (ys.length : Int)) = false := by simp
          rw [List.take_of_length_le (Nat.le_refl _)] at OO
          clear hB
          go_wp2
          go_ret
          exact ⟨_, rfl, ownEd_low OO.out b4.out.size, b4.out.trans (Below.mono BB.out b4.out.size)⟩
end Go.Proofs.Ytanocllpmjhblaa

namespace Go.Proofs.Ytanocllpmjhblaa
open Go.ChangeShapes Go.WideShapes Go.ChangeAt Go.RowKit

/-- A field of a value. -/
theorem wpList_fieldV {P : Program} {w : World} {ops : Array Oper} {rest : List Oper} {o : Oper} {a : Act} {Q : Exit → Act → World → Prop} (hg : o.guard = none) (x : Operand) (t : TypeId) (i : Nat) (_hop : o.op = Op.field t x i) (v : Value) (hr : ∀ w, (execOp a.eval o).run P w = .ok (.value v) w) (hK : wpList P ops Q rest (a.put o.dst v) w) : wpList P ops Q (o :: rest) a w :=
  wpList_plain hg fun K hK' => by unfold Oper.wp; rw [hr]; exact hK' _ _ hK
/-- A state of a name, asked of the map. -/
theorem st_look {w : World} {b : Nat} {cs : List Cd} (h : StsO w b cs) {s : ByteArray} (hs : s.size ≤ maxLen) : (Instr.lookup 123 (.map (some b)) (.string s) false).run Try.prog w = .ok (stV (stOf cs s)) w := by
  obtain ⟨v, ps, hr, hv⟩ := Go.World.ownsMap.lookup h (Maps.string_keyed Try.underlying9) Try.underlying123 (zero_state w) (stR_of st0) (show keyOf Try.prog 9 (.string s) = some (kS s) from Go.WideMaps.keyOf_string_mk Try.underlying9 hs)
  rw [dSt_at] at hv
  obtain rfl := stR_inv hv
  exact hr
theorem st_cases {cs : List Cd} (h : deckOk cs = true) (hf : ∀ i, i < cs.length → (cdAt cs i).fits) (s : ByteArray) : stOf cs s = st0 ∨ ∃ c d, U64 c ∧ U64 d ∧ stOf cs s = ⟨true, c, d⟩ := by
  rcases st_find h s with ⟨_, e, _⟩ | ⟨k, hk, _, _, e, _⟩
  · exact .inl e
  · exact .inr ⟨_, _, (hf k hk).2.1, (hf k hk).2.2, e⟩
theorem fled_one : ∀ (xs : List Ed), ∀ u ∈ fled xs, u.oneCell' = true
  | [], u, h => by cases h
  | c :: xs, u, h => by
    simp only [fled, List.mem_cons] at h
    rcases h with rfl | rfl | rfl | rfl | rfl | h
    all_goals first | rfl | exact fled_one xs u h

set_option maxRecDepth 100000 in
set_option maxHeartbeats 3200000 in
theorem iEb_any (a1 : Option Addr) (ps : List Cd) (c1 : Nat) (a2 : Option Addr) (qs : List Cd) (c2 : Nat) (w : World) (h1 : CardsIn w a1 ps) (h2 : CardsIn w a2 qs) :
    Calls Try.prog 35 #[.slice a1 ps.length c1, .slice a2 qs.length c2] w (EbR (ebL (deckOk ps && deckOk qs) ps qs) (ebC (deckOk ps && deckOk qs) ps qs) w) := by
  obtain ⟨i0, hi, hz0, hz1, hz2⟩ := info_parts info_ed
  have H1 := Lib.hid h1
  have H2 := Lib.hid h2
  have V1 := Lib.hid fun W h => iDeckOk_any a1 ps c1 W h
  have V2 := Lib.hid fun W h => iDeckOk_any a2 qs c2 W h
  have F1 := Lib.hid fun i hi => (h1 i hi).1
  have F2 := Lib.hid fun i hi => (h2 i hi).1
  clear h1 h2
  have tok1 : True := trivial
  cases k1 : deckOk ps
  · rw [k1] at V1
    rw [Bool.false_and, (eb_no ps qs).1, (eb_no ps qs).2]
    clear k1
    go_enter Try.func35, Try.ntmps35
    go_wp2_with (go_at_call 62; refine (V1.out _ H1.out).mono ?_; rintro e w1 ⟨rfl, hB⟩; have b1 := Lib.hid hB; clear hB)
    go_returns
    exact ⟨_, rfl, ownEdits_nil _ _, b1.out⟩
  rw [k1] at V1
  rw [Bool.true_and]
  cases k2 : deckOk qs
  · rw [k2] at V2
    rw [(eb_no ps qs).1, (eb_no ps qs).2]
    clear k1 k2
    go_enter Try.func35, Try.ntmps35
    go_wp2_with (first
      | (go_at_call 62; have _t := tok1; clear _t tok1; refine (V1.out _ H1.out).mono ?_; rintro e w1 ⟨rfl, hB⟩; have b1 := Lib.hid hB; clear hB)
      | (go_at_call 62; refine (V2.out _ (cardsIn_below H2.out b1.out)).mono ?_; rintro e w2 ⟨rfl, hB⟩; have b2 := Lib.hid (b1.out.trans (Below.mono hB b1.out.size)); clear hB))
    go_returns
    exact ⟨_, rfl, ownEdits_nil _ _, b2.out⟩
  rw [k2] at V2
  have n1 := deckOk_80 k1
  have n2 := deckOk_80 k2
  have K1 := Lib.hid fun s => st_cases k1 F1.out s
  have K2 := Lib.hid fun s => st_cases k2 F2.out s
  have S1 := Lib.hid fun W h => iStates_any a1 ps c1 W h (by omega)
  have S2 := Lib.hid fun W h => iStates_any a2 qs c2 W h (by omega)
  clear k1 k2
  have tok2 : True := trivial
  go_enter Try.func35, Try.ntmps35
  go_wp2_with (first
    | (go_at_call 62; have _t := tok1; clear _t tok1; refine (V1.out _ H1.out).mono ?_; rintro e w1 ⟨rfl, hB⟩; have b1 := Lib.hid hB; clear hB)
    | (go_at_call 62; refine (V2.out _ (cardsIn_below H2.out b1.out)).mono ?_; rintro e w2 ⟨rfl, hB⟩; have b2 := Lib.hid (b1.out.trans (Below.mono hB b1.out.size)); clear hB)
    | (go_at_call 78; have _t := tok2; clear _t tok2; refine (S1.out _ (cardsIn_below H1.out b2.out)).mono ?_; rintro e w3 ⟨m1, rfl, hM, hB⟩; have b3 := Lib.hid (b2.out.trans (Below.mono hB b2.out.size)); have M3 := Lib.hid hM; clear hM hB)
    | (go_at_call 78; refine (S2.out _ (cardsIn_below H2.out b3.out)).mono ?_; rintro e w4 ⟨m2, rfl, hM, hB⟩; have b4 := Lib.hid (b3.out.trans (Below.mono hB b3.out.size)); have M4 := Lib.hid (M3.out.below hB); have N4 := Lib.hid hM; clear hM hB))
  go_loopw [8, 28] (fun v i wr => ∃ j : Nat, j ≤ ps.length ∧ i = .int .i64 (j : Int) ∧ OwnEdits w4.heap.size (eb1 ps qs j) v wr ∧ Below w4.heap.size w4 wr) (fun _ i _ => ps.length - (intOf i).toNat)
  case atStart => exact ⟨0, Nat.zero_le _, rfl, ownEdits_nil _ _, Below.refl _ _⟩
  case round =>
    obtain ⟨j, hj, rfl, hO, hB⟩ := hrel
    have OO := Lib.hid hO
    have BB := Lib.hid hB
    have BW := Lib.hid (b4.out.trans (Below.mono hB b4.out.size))
    clear hO hB
    by_cases hjl : j < ps.length
    · have hd : decide ((j : Int) < (ps.length : Int)) = true := by simpa using hjl
      obtain ⟨⟨fs, u1, u2⟩, b1, o1, rfl, hb1, p0, p1, p2⟩ := H1.out j hjl
      have d0 := (BW.out.cell (p := ⟨b1, o1 + j * 3, none⟩) hb1).trans p0
      have d1 := (BW.out.cell (p := ⟨b1, o1 + j * 3 + 1, none⟩) hb1).trans p1
      have d2 := (BW.out.cell (p := ⟨b1, o1 + j * 3 + 2, none⟩) hb1).trans p2
      have i1 : (0 : Int) ≤ (j : Int) := by omega
      have i2 : (j : Int) < (ps.length : Int) := by omega
      have ln := eb1_len ps qs j
      have hN := N4.out.below (Below.mono BB.out (Nat.le_refl _))
      have hL := st_look (hN.below (below_new (Below.refl wr.heap.size wr) (.cells #[.string (cdAt ps j).s, .int .u64 (cdAt ps j).a, .int .u64 (cdAt ps j).b] 89))) fs
      clear hN p0 p1 p2
      rcases K2.out (cdAt ps j).s with e0 | ⟨x, y, hx, hy, e0⟩
      · have NX := Lib.hid (eb1_no e0)
        rw [e0] at hL
        simp only [stV, st0] at hL
        clear e0 u1 u2
        generalize eb1 ps qs j = es at *
        generalize cdAt ps j = c at *
        obtain ⟨s, xa, xb⟩ := c
        simp only at d0 d1 d2 NX hL
        go_wp2_with (at_builtin; refine wpList_append_lies _ rfl _ _ 66 rfl w4.heap.size 130 i0 (.agg #[.int .i8 0, .string ByteArray.empty, .int .i16 0, .int .u64 0, .int .u64 0]) 5 48 Try.underlying66 hi hz0 hz1 hz2 rfl (by decide) _ _ _ rfl (World.ownsRow.alloc (World.ownsRow.alloc (World.ownsRow.alloc OO.out _) _) _) ⟨wr.heap.size + 2, 0, none⟩ 1 1 [.int .i8 2, .string s, .int .i16 0, .int .u64 xa, .int .u64 xb] rfl rfl (by have h := new5 ((wr.alloc (.cells #[.string s, .int .u64 xa, .int .u64 xb] 89)).alloc (.cells #[.bool false, .int .u64 0, .int .u64 0] 126)) (.int .i8 2) (.string s) (.int .i16 0) (.int .u64 xa) (.int .u64 xb) 130; simpa using h) (fun x hx => by simp at hx; rcases hx with rfl | rfl | rfl | rfl | rfl <;> rfl) (by omega) (by unfold maxLen; omega) (by omega) (by simp; have := BB.out.size; omega) _ rfl ?_; intro gg cap2 w5 hown hgrow _ _; have P := Lib.hid (ownEdits_push hown); have G := Lib.hid hgrow; clear hown hgrow)
        refine ⟨⟨j + 1, hjl, by rw [Int.natCast_succ], by rw [NX.out]; exact P.out, ?_⟩, by (simp [intOf]) <;> omega⟩
        exact Below.grown (below_new (below_new (below_new BB.out _) _) _) G.out (by simp; have := BB.out.size; omega) (fun k hk => ownEdits_lt OO.out k hk)
      · have NX := Lib.hid (eb1_yes e0)
        have ET := Lib.hid fun W => iEditsTo_any (cdAt ps j).s (cdAt ps j).a (cdAt ps j).b x y u1 u2 hx hy W
        have lt := toL_len (cdAt ps j).s (cdAt ps j).a (cdAt ps j).b x y
        rw [e0] at hL
        simp only [stV] at hL
        clear e0 u1 u2 hx hy
        generalize eb1 ps qs j = es at *
        generalize cdAt ps j = c at *
        obtain ⟨s, xa, xb⟩ := c
        simp only at d0 d1 d2 NX hL ET lt
        generalize toL s xa xb x y = ns at *
        go_wp2_with (first
          | (go_at_call 79; refine (ET.out _).mono ?_; rintro e w5 ⟨v5, rfl, hO5, hB5⟩; have O5 := Lib.hid hO5; have B5 := Lib.hid ((below_new (below_new (Below.refl wr.heap.size wr) (.cells #[.string s, .int .u64 xa, .int .u64 xb] 89)) (.cells #[.bool true, .int .u64 x, .int .u64 y] 126)).trans (Below.mono hB5 (by simp; omega))); clear hO5 hB5)
          | (at_builtin; refine wpList_append_rows rfl _ _ 66 66 rfl w4.heap.size _ 130 130 i0 (.agg #[.int .i8 0, .string ByteArray.empty, .int .i16 0, .int .u64 0, .int .u64 0]) 5 48 Try.underlying66 Try.underlying66 hi hz0 hz1 hz2 rfl (by decide) _ _ _ _ _ _ rfl (ownEdits_kept OO.out B5.out) rfl O5.out (fled_one _) (by unfold maxLen; omega) (by omega) (Nat.le_trans BB.out.size B5.out.size) ?_; intro v6 w6 hown hgrow; have P := Lib.hid (show OwnEdits w4.heap.size (es ++ ns) v6 w6 by unfold OwnEdits; rw [List.length_append, fled_app]; exact hown); have G := Lib.hid hgrow; clear hown hgrow))
        refine ⟨⟨j + 1, hjl, by rw [Int.natCast_succ], by rw [NX.out]; exact P.out, ?_⟩, by (simp [intOf]) <;> omega⟩
        exact Below.grown (BB.out.trans (Below.mono B5.out BB.out.size)) G.out (Nat.le_trans BB.out.size B5.out.size) (fun k hk => ownEdits_lt OO.out k hk)
    · have e : j = ps.length := by omega
      subst e
      have hd : decide ((ps.length : Int) < (ps.length : Int)) = false := by simp
      generalize wr = W6 at *
      go_wp2
      go_loopw [8, 55] (fun v i wr => ∃ j : Nat, j ≤ qs.length ∧ i = .int .i64 (j : Int) ∧ OwnEdits w4.heap.size (eb2 ps qs j) v wr ∧ Below w4.heap.size w4 wr) (fun _ i _ => qs.length - (intOf i).toNat)
      case atStart => exact ⟨0, Nat.zero_le _, rfl, OO.out, BB.out⟩
      case round =>
        obtain ⟨j, hj, rfl, hO, hB⟩ := hrel
        have OO := Lib.hid hO
        have BB := Lib.hid hB
        have BW := Lib.hid (b4.out.trans (Below.mono hB b4.out.size))
        clear hO hB
        by_cases hjl : j < qs.length
        · have hd : decide ((j : Int) < (qs.length : Int)) = true := by simpa using hjl
          obtain ⟨⟨fs, u1, u2⟩, b1, o1, rfl, hb1, p0, p1, p2⟩ := H2.out j hjl
          have d0 := (BW.out.cell (p := ⟨b1, o1 + j * 3, none⟩) hb1).trans p0
          have d1 := (BW.out.cell (p := ⟨b1, o1 + j * 3 + 1, none⟩) hb1).trans p1
          have d2 := (BW.out.cell (p := ⟨b1, o1 + j * 3 + 2, none⟩) hb1).trans p2
          have i1 : (0 : Int) ≤ (j : Int) := by omega
          have i2 : (j : Int) < (qs.length : Int) := by omega
          have ln := eb2_len ps qs j
          have hN := M4.out.below (Below.mono BB.out (Nat.le_refl _))
          have hL := st_look (hN.below (below_new (Below.refl wr.heap.size wr) (.cells #[.string (cdAt qs j).s, .int .u64 (cdAt qs j).a, .int .u64 (cdAt qs j).b] 89))) fs
          clear hN p0 p1 p2
          rcases K1.out (cdAt qs j).s with e0 | ⟨x, y, hx, hy, e0⟩
          · have NX := Lib.hid (eb2_no e0)
            rw [e0] at hL
            simp only [stV, st0] at hL
            clear e0 u1 u2
            generalize eb2 ps qs j = es at *
            generalize cdAt qs j = c at *
            obtain ⟨s, xa, xb⟩ := c
            simp only at d0 d1 d2 NX hL
            go_wp2_with (first
              | (refine wpList_fieldV rfl _ _ _ rfl (.bool false) (fun _ => by kernel_rfl) ?_)
              | (at_builtin; refine wpList_append_lies _ rfl _ _ 66 rfl w4.heap.size 130 i0 (.agg #[.int .i8 0, .string ByteArray.empty, .int .i16 0, .int .u64 0, .int .u64 0]) 5 48 Try.underlying66 hi hz0 hz1 hz2 rfl (by decide) _ _ _ rfl (World.ownsRow.alloc (World.ownsRow.alloc OO.out _) _) ⟨wr.heap.size + 1, 0, none⟩ 1 1 [.int .i8 1, .string s, .int .i16 0, .int .u64 xa, .int .u64 xb] rfl rfl (by have h := new5 (wr.alloc (.cells #[.string s, .int .u64 xa, .int .u64 xb] 89)) (.int .i8 1) (.string s) (.int .i16 0) (.int .u64 xa) (.int .u64 xb) 130; simpa using h) (fun x hx => by simp at hx; rcases hx with rfl | rfl | rfl | rfl | rfl <;> rfl) (by omega) (by unfold maxLen; omega) (by omega) (by simp; have := BB.out.size; omega) _ rfl ?_; intro gg cap2 w5 hown hgrow _ _; have P := Lib.hid (ownEdits_push hown); have G := Lib.hid hgrow; clear hown hgrow))
            refine ⟨⟨j + 1, hjl, by rw [Int.natCast_succ], by rw [NX.out]; exact P.out, ?_⟩, by (simp [intOf]) <;> omega⟩
            exact Below.grown (below_new (below_new BB.out _) _) G.out (by simp; have := BB.out.size; omega) (fun k hk => ownEdits_lt OO.out k hk)
          · have NX := Lib.hid (eb2_yes e0)
            rw [e0] at hL
            simp only [stV] at hL
            clear e0 u1 u2 hx hy
            generalize eb2 ps qs j = es at *
            generalize cdAt qs j = c at *
            obtain ⟨s, xa, xb⟩ := c
            simp only at d0 d1 d2 NX hL
            go_wp2_with (refine wpList_fieldV rfl _ _ _ rfl (.bool true) (fun _ => by kernel_rfl) ?_)
            exact ⟨⟨j + 1, hjl, by rw [Int.natCast_succ], by rw [NX.out]; exact World.ownsRow.alloc OO.out _, below_new BB.out _⟩, by (simp [intOf]) <;> omega⟩
        · have e : j = qs.length := by omega
          subst e
          have hd : decide ((qs.length : Int) < (qs.length : Int)) = false := by simp
          obtain ⟨av, cv, rfl, _⟩ := ownEdits_in OO.out
          by_cases hl : (eb2 ps qs qs.length).length ≤ 200
          · have EY := Lib.hid (eb_yes hl)
            generalize eb2 ps qs qs.length = es at *
            have dl : decide ((200 : Int) < (es.length : Int)) = false := by simp; omega
            go_wp2
            go_returns
            exact ⟨_, by rw [EY.out.2]; rfl, by rw [EY.out.1]; exact ownEd_low OO.out b4.out.size, BW.out⟩
          · have EY := Lib.hid (eb_far hl)
            generalize eb2 ps qs qs.length = es at *
            have dl : decide ((200 : Int) < (es.length : Int)) = true := by simp; omega
            go_wp2
            go_returns
            exact ⟨_, by rw [EY.out.2]; rfl, by rw [EY.out.1]; exact ownEdits_nil _ _, BW.out⟩
end Go.Proofs.Ytanocllpmjhblaa

namespace Go.Proofs.Ytanocllpmjhblaa
open Go.ChangeShapes Go.WideShapes Go.ChangeAt Go.RowKit

def EtS (B : Nat) (xs : List Ed) (w : World) (e : Ending) (w' : World) : Prop := ∃ v, e = .returned v ∧ OwnEdits B xs v w' ∧ Below B w w'

set_option maxRecDepth 100000 in
set_option maxHeartbeats 3200000 in
theorem sHolesE_any (B : Nat) (es : List Ed) (v : Value) (k : Int) (s : ByteArray) (a b : Int) (ha : U64 a) (hb : U64 b) (hm : maskOk b = true) (w : World) (hO : OwnEdits B es v w) (hB : B ≤ w.heap.size) (hl : es.length ≤ 1000000) :
    Calls Try.prog 121 #[v, .int .i8 k, .string s, .agg #[.int .u64 a, .int .u64 b]] w (EtS B (es ++ edTo s k (hzL a b)) w) := by
  obtain ⟨i0, hi, hz0, hz1, hz2⟩ := info_parts info_ed
  have H := Lib.hid fun W => sHoles_any a b ha hb W
  have AF := Lib.hid fun i h => hz_at a b (i := i) h
  have lF := hz_len a b
  rw [hz_yes a (show (b / 4294967296 == 0) = true from hm)] at *
  have B0 := Lib.hid (below_new (Below.refl w.heap.size w) (.cells #[.int .u64 a, .int .u64 b] 53))
  have O0 := Lib.hid hO
  have HB := Lib.hid hB
  clear ha hb hm hO hB
  generalize hol (hasB a b) 96 = zs at *
  go_enter Try.func121, Try.ntmps121
  go_wp2_with (go_at_call 146; refine (H.out _).mono ?_; rintro e w1 ⟨v1, rfl, hO, hB⟩; obtain ⟨a1, c1, rfl, _⟩ := ownInts_in hO; have I1 := Lib.hid hO; have b1 := Lib.hid (B0.out.trans (Below.mono hB B0.out.size)); clear hB hO)
  go_loopw [0, 10] (fun v i wr => ∃ j : Nat, j ≤ zs.length ∧ i = .int .i64 (j : Int) ∧ OwnEdits B (es ++ edTo s k (zs.take j)) v wr ∧ Below B w wr ∧ OwnInts w.heap.size zs (.slice a1 zs.length c1) wr ∧ w1.heap.size ≤ wr.heap.size) (fun _ i _ => zs.length - (intOf i).toNat)
  case atStart => exact ⟨0, Nat.zero_le _, rfl, by rw [List.take_zero]; show OwnEdits _ (es ++ []) _ _; rw [List.append_nil]; exact ownEdits_kept O0.out b1.out, Below.mono b1.out HB.out, (by have h := I1.out; exact ⟨h.1, h.2.imp id fun ⟨g, cap, cur, h1, h2, h3⟩ => ⟨g, cap, cur, h1, by simp at h2; omega, h3⟩⟩), Nat.le_refl _⟩
  case round =>
    obtain ⟨j, hj, rfl, hO, hB, hI, hS⟩ := hrel
    have OO := Lib.hid hO
    have BB := Lib.hid hB
    have II := Lib.hid hI
    have SS := Lib.hid hS
    have S1 := b1.out.size
    clear hO hB
    by_cases hjl : j < zs.length
    · have hd : decide ((j : Int) < (zs.length : Int)) = true := by simpa using hjl
      obtain ⟨_, _, ev, hIn⟩ := ownInts_in hI
      cases ev
      obtain ⟨b2, o1, rfl, hb1, d0⟩ := hIn j hjl
      have i1 : (0 : Int) ≤ (j : Int) := by omega
      have i2 : (j : Int) < (zs.length : Int) := by omega
      obtain ⟨h1, h2⟩ := AF.out j hjl
      have NX := Lib.hid (edTo_next s k hjl)
      have ln : (es ++ edTo s k (zs.take j)).length = es.length + j := by rw [List.length_append, edTo_len, List.length_take]; omega
      generalize zs.getD j 0 = z at *
      have wl : IntKind.i16.wrap z = z := IntWalk.i16_in _ (by omega)
      have hBs := HB.out
      clear hI hIn h1 h2
      go_wp2_with (at_builtin; refine wpList_append_lies _ rfl _ _ 66 rfl B 130 i0 (.agg #[.int .i8 0, .string ByteArray.empty, .int .i16 0, .int .u64 0, .int .u64 0]) 5 48 Try.underlying66 hi hz0 hz1 hz2 rfl (by decide) _ _ _ rfl (World.ownsRow.alloc OO.out _) ⟨wr.heap.size, 0, none⟩ 1 1 [.int .i8 k, .string s, .int .i16 z, .int .u64 0, .int .u64 0] rfl rfl (new5 _ _ _ _ _ _ _) (fun x hx => by simp at hx; rcases hx with rfl | rfl | rfl | rfl | rfl <;> rfl) (by omega) (by unfold maxLen; omega) (by omega) (by simp; omega) _ rfl ?_; intro gg cap2 w5 hown hgrow _ _; have P := Lib.hid (ownEdits_push hown); have G := Lib.hid hgrow; clear hown hgrow)
      refine ⟨⟨j + 1, hjl, by rw [Int.natCast_succ], by have o := P.out; rw [ln] at o; rw [NX.out, ← List.append_assoc]; exact o, ?_, ?_, ?_⟩, by (simp [intOf]) <;> omega⟩
      · exact Below.grown (BB.out.alloc (by omega) _) G.out (by simp; omega) (fun k hk => ownEdits_lt OO.out k hk)
      · exact row_grown (World.ownsRow.alloc II.out _) G.out (ss_ne II.out OO.out (by decide))
      · have := G.out.size; simp at this; omega
    · have e : j = zs.length := by omega
      subst e
      have hd : decide ((zs.length : Int) < (zs.length : Int)) = false := by simp
      rw [List.take_of_length_le (Nat.le_refl _)] at OO
      clear hI
      go_wp2
      go_ret
      exact ⟨_, rfl, OO.out, BB.out⟩
end Go.Proofs.Ytanocllpmjhblaa

namespace Go.Proofs.Ytanocllpmjhblaa
open Go.ChangeShapes Go.WideShapes Go.ChangeAt Go.RowKit

theorem less_ok {b d : Int} (hb : U64 b) (hd : U64 d) (h : maskOk b = true) : maskOk (bits .andNot .u64 b d) = true := by
  have l := low_nat hb h
  obtain ⟨x, rfl⟩ := Int.eq_ofNat_of_zero_le hb.1
  obtain ⟨y, rfl⟩ := Int.eq_ofNat_of_zero_le hd.1
  rw [Go.u64_andNot_nat x y (by have := hb.2; omega) (by have := hd.2; omega)]
  have : x &&& (18446744073709551615 - y) ≤ x := Nat.and_le_left
  rw [Int.toNat_natCast] at l
  unfold maskOk
  simp
  omega

set_option maxRecDepth 100000 in
set_option maxHeartbeats 6400000 in
theorem sBetween_any (a1 : Option Addr) (ps : List Cd) (c1 : Nat) (a2 : Option Addr) (qs : List Cd) (c2 : Nat) (w : World) (h1 : CardsIn w a1 ps) (h2 : CardsIn w a2 qs) (k1 : deckOk ps = true) (k2 : deckOk qs = true) :
    Calls Try.prog 77 #[.slice a1 ps.length c1, .slice a2 qs.length c2] w (EtS w.heap.size (eb2 ps qs qs.length) w) := by
  obtain ⟨i0, hi, hz0, hz1, hz2⟩ := info_parts info_ed
  have n1 := deckOk_80 k1
  have n2 := deckOk_80 k2
  have H1 := Lib.hid h1
  have H2 := Lib.hid h2
  have K1 := Lib.hid fun s => st_find k1 s
  have K2 := Lib.hid fun s => st_find k2 s
  have O1 := Lib.hid fun i (hi : i < ps.length) => deckOk_mask k1 hi
  have O2 := Lib.hid fun i (hi : i < qs.length) => deckOk_mask k2 hi
  have F1 := Lib.hid fun t W h => sFind_any a1 ps c1 t W h n1
  have F2 := Lib.hid fun t W h => sFind_any a2 qs c2 t W h n2
  clear h1 h2 k1 k2
  have B0 := Lib.hid (below_new (Below.refl w.heap.size w) (.cells #[] 130))
  have M0 := Lib.hid (ownEdits_made (w := w) rfl (Nat.le_refl _))
  go_enter Try.func77, Try.ntmps77
  go_wp2
  go_loopw [5, 6] (fun v i wr => ∃ j : Nat, j ≤ ps.length ∧ i = .int .i64 (j : Int) ∧ OwnEdits w.heap.size (eb1 ps qs j) v wr ∧ Below w.heap.size w wr) (fun _ i _ => ps.length - (intOf i).toNat)
  case atStart => exact ⟨0, Nat.zero_le _, rfl, M0.out, B0.out⟩
  case round =>
    obtain ⟨j, hj, rfl, hO, hB⟩ := hrel
    have OO := Lib.hid hO
    have BB := Lib.hid hB
    clear hO hB
    by_cases hjl : j < ps.length
    · have hd : decide ((j : Int) < (ps.length : Int)) = true := by simpa using hjl
      obtain ⟨⟨fs, u1, u2⟩, b1, o1, rfl, hb1, p0, p1, p2⟩ := H1.out j hjl
      have d0 := (BB.out.cell (p := ⟨b1, o1 + j * 3, none⟩) hb1).trans p0
      have z1 : b1 < wr.heap.size := Nat.lt_of_lt_of_le hb1 BB.out.size
      have i1 : (0 : Int) ≤ (j : Int) := by omega
      have i2 : (j : Int) < (ps.length : Int) := by omega
      have ln := eb1_len ps qs j
      have F := Lib.hid fun W h => F2.out (cdAt ps j).s W h
      have P1 := Lib.hid p0
      have P2 := Lib.hid p1
      have P3 := Lib.hid p2
      have mo := O1.out j hjl
      clear p0 p1 p2 fs
      rcases K2.out (cdAt ps j).s with ⟨e1, e0, _⟩ | ⟨k, hk, e1, _, e0, _⟩
      · have NX := Lib.hid (eb1_no e0)
        rw [e1] at F
        clear e0 e1 u1 u2 mo
        generalize eb1 ps qs j = es at *
        generalize cdAt ps j = c at *
        obtain ⟨s, xa, xb⟩ := c
        simp only at d0 P1 P2 P3 NX F
        go_wp2_with (go_at_call 120; refine (F.out _ (cardsIn_below H2.out BB.out)).mono ?_; rintro e w3 ⟨rfl, hB3⟩; have B3 := Lib.hid (BB.out.trans (Below.mono hB3 BB.out.size)); have W3 := Lib.hid (ownEdits_kept OO.out hB3); clear hB3 d0 z1; have d0 := (B3.out.cell (p := ⟨b1, o1 + j * 3, none⟩) hb1).trans P1.out; have d1 := (B3.out.cell (p := ⟨b1, o1 + j * 3 + 1, none⟩) hb1).trans P2.out; have d2 := (B3.out.cell (p := ⟨b1, o1 + j * 3 + 2, none⟩) hb1).trans P3.out; have z1 : b1 < w3.heap.size := Nat.lt_of_lt_of_le hb1 B3.out.size)
        have s3 := B3.out.size
        go_region_law (refine step_append_lies _ (by rfl) _ _ 66 (by rfl) w.heap.size 130 i0 (.agg #[.int .i8 0, .string ByteArray.empty, .int .i16 0, .int .u64 0, .int .u64 0]) 5 48 Try.underlying66 hi hz0 hz1 hz2 rfl (by decide) _ _ _ (by rfl) (World.ownsRow.drew (World.ownsRow.alloc W3.out _)) ⟨w3.heap.size, 0, none⟩ 1 1 [.int .i8 2, .string s, .int .i16 0, .int .u64 xa, .int .u64 xb] (by rfl) rfl (fun j u h => new5 w3 _ _ _ _ _ _ j u h) (fun x hx => by simp at hx; rcases hx with rfl | rfl | rfl | rfl | rfl <;> rfl) (by omega) (by unfold maxLen; omega) (by omega) (by simp; omega) _ rfl ?_; intro gg cap2 w5 hown hgrow _ _; have P := Lib.hid (ownEdits_push hown); have G := Lib.hid hgrow; clear hown hgrow)
        all_goals go_wp2
        all_goals
          refine ⟨⟨j + 1, hjl, by rw [Int.natCast_succ], by rw [NX.out]; exact P.out, ?_⟩, by (simp [intOf]) <;> omega⟩
          exact Below.grown (below_new B3.out (.cells #[.int .i8 2, .string s, .int .i16 0, .int .u64 xa, .int .u64 xb] 130)).drew G.out (by simp; omega) (fun k hk => ownEdits_lt OO.out k hk)
      · obtain ⟨⟨_, u3, u4⟩, b2, o2, rfl, hb2, q0, q1, q2⟩ := H2.out k hk
        have NX := Lib.hid (eb1_yes e0)
        have mk := O2.out k hk
        have lt1 := hz_len (bits .andNot .u64 (cdAt ps j).a (cdAt qs k).a) (bits .andNot .u64 (cdAt ps j).b (cdAt qs k).b)
        have G1 := Lib.hid fun es v W hO hB hl => sHolesE_any w.heap.size es v 4 (cdAt ps j).s _ _ (u64_less u1 u3) (u64_less u2 u4) (less_ok u2 u4 mo) W hO hB hl
        have G2 := Lib.hid fun es v W hO hB hl => sHolesE_any w.heap.size es v 3 (cdAt ps j).s _ _ (u64_less u3 u1) (u64_less u4 u2) (less_ok u4 u2 mk) W hO hB hl
        unfold toL at NX
        rw [e1] at F
        have dk : decide ((k : Int) < 0) = false := by simp
        have k0 : (0 : Int) ≤ (k : Int) := by omega
        have kl : (k : Int) < (qs.length : Int) := by omega
        have Q1 := Lib.hid q1
        have Q2 := Lib.hid q2
        have el := edTo_len (cdAt ps j).s 4 (hzL (bits .andNot .u64 (cdAt ps j).a (cdAt qs k).a) (bits .andNot .u64 (cdAt ps j).b (cdAt qs k).b))
        clear e0 e1 u1 u2 u3 u4 mo mk q0 q1 q2
        generalize eb1 ps qs j = es at *
        generalize (cdAt qs k).a = x at *
        generalize (cdAt qs k).b = y at *
        generalize cdAt ps j = c at *
        obtain ⟨s, xa, xb⟩ := c
        simp only at d0 P1 P2 P3 NX F G1 G2 lt1 el
        generalize edTo s 4 (hzL (bits .andNot .u64 xa x) (bits .andNot .u64 xb y)) = r4 at *
        generalize edTo s 3 (hzL (bits .andNot .u64 x xa) (bits .andNot .u64 y xb)) = r3 at *
        go_upto_region 8 with (go_at_call 120; refine (F.out _ (cardsIn_below H2.out BB.out)).mono ?_; rintro e w3 ⟨rfl, hB3⟩; have B3 := Lib.hid (BB.out.trans (Below.mono hB3 BB.out.size)); have W3 := Lib.hid (ownEdits_kept OO.out hB3); clear hB3 d0 z1)
        have hbw := cell_bw
        refine wp_region_store 17 (by kernel_rfl) rfl rfl rfl (by kernel_rfl) (by kernel_rfl) rfl ?_
        simp only [Nat.reduceAdd, List.take_succ_cons, List.take_zero, List.drop_succ_cons, List.drop_zero]
        intro wa ha
        have Ba := Lib.hid (B3.out.trans (Below.mono ha B3.out.size))
        have d0 := (Ba.out.cell (p := ⟨b1, o1 + j * 3, none⟩) hb1).trans P1.out
        have d1 := (Ba.out.cell (p := ⟨b1, o1 + j * 3 + 1, none⟩) hb1).trans P2.out
        have d2 := (Ba.out.cell (p := ⟨b1, o1 + j * 3 + 2, none⟩) hb1).trans P3.out
        have g1 := (Ba.out.cell (p := ⟨b2, o2 + k * 3 + 1, none⟩) hb2).trans Q1.out
        have g2 := (Ba.out.cell (p := ⟨b2, o2 + k * 3 + 2, none⟩) hb2).trans Q2.out
        have z1 : b1 < wa.heap.size := Nat.lt_of_lt_of_le hb1 Ba.out.size
        have z2 : b2 < wa.heap.size := Nat.lt_of_lt_of_le hb2 Ba.out.size
        repeat (go_big_quiet_step (first | (go_at_call 122; exact calls_bw (sLess_below _ _ _ _ _))))
        refine wpQuiet_nil ?_
        clear d0 d1 d2 g1 g2 z1 z2 ha Ba
        intro w5 h5
        have B5 := Lib.hid (B3.out.trans (Below.mono h5 B3.out.size))
        have W5 := Lib.hid (ownEdits_kept W3.out h5)
        clear h5
        go_simp
        simp only [Yld]
        refine ⟨trivial, (G1.out es _ _ W5.out B5.out.size (by omega)).mono ?_⟩
        rintro e w6 ⟨v6, rfl, hO6, hB6⟩
        have W6 := Lib.hid hO6
        have B6 := Lib.hid (B5.out.trans hB6)
        clear hO6 hB6
        refine ⟨_, rfl, ?_⟩
        simp only [pureRun, pureVal, Act.put, Act.eval, List.setIfInBounds_toArray, List.set_cons_succ, List.set_cons_zero]
        go_upto_region 9 with fail
        refine wp_region_store 17 (by kernel_rfl) rfl rfl rfl (by kernel_rfl) (by kernel_rfl) rfl ?_
        simp only [Nat.reduceAdd, List.take_succ_cons, List.take_zero, List.drop_succ_cons, List.drop_zero]
        intro wa ha
        have Ba := Lib.hid (B6.out.trans (Below.mono ha B6.out.size))
        have d0 := (Ba.out.cell (p := ⟨b1, o1 + j * 3, none⟩) hb1).trans P1.out
        have d1 := (Ba.out.cell (p := ⟨b1, o1 + j * 3 + 1, none⟩) hb1).trans P2.out
        have d2 := (Ba.out.cell (p := ⟨b1, o1 + j * 3 + 2, none⟩) hb1).trans P3.out
        have g1 := (Ba.out.cell (p := ⟨b2, o2 + k * 3 + 1, none⟩) hb2).trans Q1.out
        have g2 := (Ba.out.cell (p := ⟨b2, o2 + k * 3 + 2, none⟩) hb2).trans Q2.out
        have z1 : b1 < wa.heap.size := Nat.lt_of_lt_of_le hb1 Ba.out.size
        have z2 : b2 < wa.heap.size := Nat.lt_of_lt_of_le hb2 Ba.out.size
        repeat (go_big_quiet_step (first | (go_at_call 122; exact calls_bw (sLess_below _ _ _ _ _))))
        refine wpQuiet_nil ?_
        clear d0 d1 d2 g1 g2 z1 z2 ha Ba
        intro w7 h7
        have B7 := Lib.hid (B6.out.trans (Below.mono h7 B6.out.size))
        have W7 := Lib.hid (ownEdits_kept W6.out h7)
        clear h7
        go_simp
        simp only [Yld]
        refine ⟨trivial, (G2.out (es ++ r4) _ _ W7.out B7.out.size (by rw [List.length_append]; omega)).mono ?_⟩
        rintro e w8 ⟨v8, rfl, hO8, hB8⟩
        have W8 := Lib.hid hO8
        have B8 := Lib.hid (B7.out.trans hB8)
        clear hO8 hB8
        refine ⟨_, rfl, ?_⟩
        simp only [pureRun, pureVal, Act.put, Act.eval, List.setIfInBounds_toArray, List.set_cons_succ, List.set_cons_zero]
        clear hbw
        go_wp2
        exact ⟨⟨j + 1, hjl, by rw [Int.natCast_succ], by rw [NX.out, ← List.append_assoc]; exact W8.out, B8.out⟩, by (simp [intOf]) <;> omega⟩
    · have e : j = ps.length := by omega
      subst e
      have hd : decide ((ps.length : Int) < (ps.length : Int)) = false := by simp
      generalize wr = W6 at *
      go_wp2
      go_loopw [5, 8] (fun v i wr => ∃ j : Nat, j ≤ qs.length ∧ i = .int .i64 (j : Int) ∧ OwnEdits w.heap.size (eb2 ps qs j) v wr ∧ Below w.heap.size w wr) (fun _ i _ => qs.length - (intOf i).toNat)
      case atStart => exact ⟨0, Nat.zero_le _, rfl, OO.out, BB.out⟩
      case round =>
        obtain ⟨j, hj, rfl, hO, hB⟩ := hrel
        have OO := Lib.hid hO
        have BB := Lib.hid hB
        clear hO hB
        by_cases hjl : j < qs.length
        · have hd : decide ((j : Int) < (qs.length : Int)) = true := by simpa using hjl
          obtain ⟨⟨fs, u1, u2⟩, b1, o1, rfl, hb1, p0, p1, p2⟩ := H2.out j hjl
          have d0 := (BB.out.cell (p := ⟨b1, o1 + j * 3, none⟩) hb1).trans p0
          have z1 : b1 < wr.heap.size := Nat.lt_of_lt_of_le hb1 BB.out.size
          have i1 : (0 : Int) ≤ (j : Int) := by omega
          have i2 : (j : Int) < (qs.length : Int) := by omega
          have ln := eb2_len ps qs j
          have F := Lib.hid fun W h => F1.out (cdAt qs j).s W h
          have P1 := Lib.hid p0
          have P2 := Lib.hid p1
          have P3 := Lib.hid p2
          clear p0 p1 p2 fs u1 u2
          rcases K1.out (cdAt qs j).s with ⟨e1, e0, _⟩ | ⟨k, hk, e1, _, e0, _⟩
          · have NX := Lib.hid (eb2_no e0)
            rw [e1] at F
            clear e0 e1
            generalize eb2 ps qs j = es at *
            generalize cdAt qs j = c at *
            obtain ⟨s, xa, xb⟩ := c
            simp only at d0 P1 P2 P3 NX F
            go_wp2_with (go_at_call 120; refine (F.out _ (cardsIn_below H1.out BB.out)).mono ?_; rintro e w3 ⟨rfl, hB3⟩; have B3 := Lib.hid (BB.out.trans (Below.mono hB3 BB.out.size)); have W3 := Lib.hid (ownEdits_kept OO.out hB3); clear hB3 d0 z1; have d0 := (B3.out.cell (p := ⟨b1, o1 + j * 3, none⟩) hb1).trans P1.out; have d1 := (B3.out.cell (p := ⟨b1, o1 + j * 3 + 1, none⟩) hb1).trans P2.out; have d2 := (B3.out.cell (p := ⟨b1, o1 + j * 3 + 2, none⟩) hb1).trans P3.out; have z1 : b1 < w3.heap.size := Nat.lt_of_lt_of_le hb1 B3.out.size)
            have s3 := B3.out.size
            go_region_law (refine step_append_lies _ (by rfl) _ _ 66 (by rfl) w.heap.size 130 i0 (.agg #[.int .i8 0, .string ByteArray.empty, .int .i16 0, .int .u64 0, .int .u64 0]) 5 48 Try.underlying66 hi hz0 hz1 hz2 rfl (by decide) _ _ _ (by rfl) (World.ownsRow.drew (World.ownsRow.alloc W3.out _)) ⟨w3.heap.size, 0, none⟩ 1 1 [.int .i8 1, .string s, .int .i16 0, .int .u64 xa, .int .u64 xb] (by rfl) rfl (fun j u h => new5 w3 _ _ _ _ _ _ j u h) (fun x hx => by simp at hx; rcases hx with rfl | rfl | rfl | rfl | rfl <;> rfl) (by omega) (by unfold maxLen; omega) (by omega) (by simp; omega) _ rfl ?_; intro gg cap2 w5 hown hgrow _ _; have P := Lib.hid (ownEdits_push hown); have G := Lib.hid hgrow; clear hown hgrow)
            all_goals go_wp2
            all_goals
              refine ⟨⟨j + 1, hjl, by rw [Int.natCast_succ], by rw [NX.out]; exact P.out, ?_⟩, by (simp [intOf]) <;> omega⟩
              exact Below.grown (below_new B3.out (.cells #[.int .i8 1, .string s, .int .i16 0, .int .u64 xa, .int .u64 xb] 130)).drew G.out (by simp; omega) (fun k hk => ownEdits_lt OO.out k hk)
          · have NX := Lib.hid (eb2_yes e0)
            rw [e1] at F
            have dk : decide ((k : Int) < 0) = false := by simp
            clear e0 e1
            generalize eb2 ps qs j = es at *
            generalize cdAt qs j = c at *
            obtain ⟨s, xa, xb⟩ := c
            simp only at d0 NX F
            go_wp2_with (go_at_call 120; refine (F.out _ (cardsIn_below H1.out BB.out)).mono ?_; rintro e w3 ⟨rfl, hB3⟩; have B3 := Lib.hid (BB.out.trans (Below.mono hB3 BB.out.size)); have W3 := Lib.hid (ownEdits_kept OO.out hB3); clear hB3 d0 z1)
            exact ⟨⟨j + 1, hjl, by rw [Int.natCast_succ], by rw [NX.out]; exact W3.out, B3.out⟩, by (simp [intOf]) <;> omega⟩
        · have e : j = qs.length := by omega
          subst e
          have hd : decide ((qs.length : Int) < (qs.length : Int)) = false := by simp
          go_wp2
          go_ret
          exact ⟨_, rfl, OO.out, BB.out⟩

set_option maxRecDepth 100000 in
set_option maxHeartbeats 3200000 in
theorem sEb_any (a1 : Option Addr) (ps : List Cd) (c1 : Nat) (a2 : Option Addr) (qs : List Cd) (c2 : Nat) (w : World) (h1 : CardsIn w a1 ps) (h2 : CardsIn w a2 qs) :
    Calls Try.prog 34 #[.slice a1 ps.length c1, .slice a2 qs.length c2] w (EbR (ebL (deckOk ps && deckOk qs) ps qs) (ebC (deckOk ps && deckOk qs) ps qs) w) := by
  have H1 := Lib.hid h1
  have H2 := Lib.hid h2
  have V1 := Lib.hid fun W h => sDeckOk_any a1 ps c1 W h
  have V2 := Lib.hid fun W h => sDeckOk_any a2 qs c2 W h
  clear h1 h2
  have tok1 : True := trivial
  cases k1 : deckOk ps
  · rw [k1] at V1
    rw [Bool.false_and, (eb_no ps qs).1, (eb_no ps qs).2]
    clear k1
    go_enter Try.func34, Try.ntmps34
    go_wp2_with (go_at_call 60; refine (V1.out _ H1.out).mono ?_; rintro e w1 ⟨rfl, hB⟩; have b1 := Lib.hid hB; clear hB)
    go_returns
    exact ⟨_, rfl, ownEdits_made rfl b1.out.size, below_new b1.out _⟩
  rw [k1] at V1
  rw [Bool.true_and]
  cases k2 : deckOk qs
  · rw [k2] at V2
    rw [(eb_no ps qs).1, (eb_no ps qs).2]
    clear k1 k2
    go_enter Try.func34, Try.ntmps34
    go_wp2_with (first
      | (go_at_call 60; have _t := tok1; clear _t tok1; refine (V1.out _ H1.out).mono ?_; rintro e w1 ⟨rfl, hB⟩; have b1 := Lib.hid hB; clear hB)
      | (go_at_call 60; refine (V2.out _ (cardsIn_below H2.out b1.out)).mono ?_; rintro e w2 ⟨rfl, hB⟩; have b2 := Lib.hid (b1.out.trans (Below.mono hB b1.out.size)); clear hB))
    go_returns
    exact ⟨_, rfl, ownEdits_made rfl b2.out.size, below_new b2.out _⟩
  rw [k2] at V2
  have A := Lib.hid fun W h1 h2 => sBetween_any a1 ps c1 a2 qs c2 W h1 h2 k1 k2
  clear k1 k2
  by_cases hl : (eb2 ps qs qs.length).length ≤ 200
  · rw [(eb_yes hl).1, (eb_yes hl).2]
    generalize eb2 ps qs qs.length = es at *
    have dl : decide ((200 : Int) < (es.length : Int)) = false := by simp; omega
    go_enter Try.func34, Try.ntmps34
    go_wp2_with (first
      | (go_at_call 60; have _t := tok1; clear _t tok1; refine (V1.out _ H1.out).mono ?_; rintro e w1 ⟨rfl, hB⟩; have b1 := Lib.hid hB; clear hB)
      | (go_at_call 60; refine (V2.out _ (cardsIn_below H2.out b1.out)).mono ?_; rintro e w2 ⟨rfl, hB⟩; have b2 := Lib.hid (b1.out.trans (Below.mono hB b1.out.size)); clear hB)
      | (go_at_call 77; refine (A.out _ (cardsIn_below H1.out b2.out) (cardsIn_below H2.out b2.out)).mono ?_; rintro e w3 ⟨v, rfl, hO, hB⟩; obtain ⟨av, cv, rfl, _⟩ := ownEdits_in hO; have O3 := Lib.hid hO; have b3 := Lib.hid (b2.out.trans (Below.mono hB b2.out.size)); clear hO hB))
    go_returns
    exact ⟨_, rfl, ownEdits_weaken O3.out b2.out.size, b3.out⟩
  · rw [(eb_far hl).1, (eb_far hl).2]
    generalize eb2 ps qs qs.length = es at *
    have dl : decide ((200 : Int) < (es.length : Int)) = true := by simp; omega
    go_enter Try.func34, Try.ntmps34
    go_wp2_with (first
      | (go_at_call 60; have _t := tok1; clear _t tok1; refine (V1.out _ H1.out).mono ?_; rintro e w1 ⟨rfl, hB⟩; have b1 := Lib.hid hB; clear hB)
      | (go_at_call 60; refine (V2.out _ (cardsIn_below H2.out b1.out)).mono ?_; rintro e w2 ⟨rfl, hB⟩; have b2 := Lib.hid (b1.out.trans (Below.mono hB b1.out.size)); clear hB)
      | (go_at_call 77; refine (A.out _ (cardsIn_below H1.out b2.out) (cardsIn_below H2.out b2.out)).mono ?_; rintro e w3 ⟨v, rfl, hO, hB⟩; obtain ⟨av, cv, rfl, _⟩ := ownEdits_in hO; have b3 := Lib.hid (b2.out.trans (Below.mono hB b2.out.size)); clear hO hB))
    go_returns
    exact ⟨_, rfl, ownEdits_made rfl b3.out.size, below_new b3.out _⟩
end Go.Proofs.Ytanocllpmjhblaa
