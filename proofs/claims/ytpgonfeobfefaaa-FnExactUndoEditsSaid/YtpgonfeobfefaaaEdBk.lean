/- slices.Backward over edits: its word as an iterator. -/
import Derived.Test.YtpgonfeobfefaaaEdUn
import Derived.Test.YtpgonfeobfefaaaRngO
import Derived.RangeFuncBox
namespace Go.Proofs.Ytpgonfeobfefaaa
open Go.ChangeShapes Go.WideShapes Go.ChangeAt Go.RowKit
attribute [local go_sem] Oper.semAt_some

theorem cell_eqB {A B : World} {b o : Nat} (h : B.heap[b]? = A.heap[b]?) : B.cell? ⟨b, o, none⟩ = A.cell? ⟨b, o, none⟩ := by unfold World.cell?; simp only [h]
/-- What a round keeps: the iterator's box, and the edits. -/
def KpB (L bs : Nat) (ad : Option Addr) (A B : World) : Prop := A.heap.size ≤ B.heap.size ∧ B.heap[bs]? = A.heap[bs]? ∧ ∀ b o, ad = some ⟨b, o, none⟩ → b < L → B.heap[b]? = A.heap[b]?
theorem KpB.trans {L bs : Nat} {ad : Option Addr} {A B C : World} (h : KpB L bs ad A B) (k : KpB L bs ad B C) : KpB L bs ad A C := ⟨Nat.le_trans h.1 k.1, k.2.1.trans h.2.1, fun b o e l => (k.2.2 b o e l).trans (h.2.2 b o e l)⟩
theorem KpB.edits {L bs : Nat} {ad : Option Addr} {A B : World} {cs : List Ed} (h : KpB L bs ad A B) (hL : ∀ b o, ad = some ⟨b, o, none⟩ → 0 < cs.length → b < L) (hc : EditsIn A ad cs) : EditsIn B ad cs := fun i hi => by
  obtain ⟨hf, b, o, ha, hlt, h0, h1, h2, h3, h4⟩ := hc i hi
  have e := h.2.2 b o ha (hL b o ha (by omega))
  exact ⟨hf, b, o, ha, Nat.lt_of_lt_of_le hlt h.1, (cell_eqB e).trans h0, (cell_eqB e).trans h1, (cell_eqB e).trans h2, (cell_eqB e).trans h3, (cell_eqB e).trans h4⟩
/-- The places from the last one on. -/
def bkw (n r : Nat) : List Nat := (List.range r).map fun t => n - 1 - t
theorem bkw_next (n r : Nat) : bkw n (r + 1) = bkw n r ++ [n - 1 - r] := by unfold bkw; rw [List.range_succ, List.map_append]; rfl
theorem bkw_len (n r : Nat) : (bkw n r).length = r := by unfold bkw; simp
/-- What it tells of a place. -/
def bkE (cs : List Ed) (i : Nat) : Array Value := #[.int .i64 (i : Int), .agg #[.int .i8 (edAt cs i).k, .string (edAt cs i).s, .int .i16 (edAt cs i).h, .int .u64 (edAt cs i).a, .int .u64 (edAt cs i).b]]

theorem backward_any (ad : Option Addr) (n c : Nat) (w : World) :
    Calls Try.prog 52 #[.slice ad n c] w fun e w' => e = .returned (.func (.func 100) #[] #[.pointer (some ⟨w.heap.size, 0, none⟩)]) ∧ w'.cell? ⟨w.heap.size, 0, none⟩ = some (.slice ad n c) ∧ w'.heap.size = w.heap.size + 1 ∧ Below w.heap.size w w' := by
  have hmf : ∀ (fn : Fn) (first cap : Array Value) (w : World), (Instr.makeFunc fn first cap).run Try.prog w = .ok (.func fn first cap) w := fun _ _ _ _ => rfl
  go_enter Try.func52, Try.ntmps52
  go_wp2
  go_returns
  exact ⟨rfl, by simp, by simp, (by repeat' (first | (with_reducible exact Below.refl _ _) | (with_reducible assumption) | (with_reducible refine below_drewN ?_ _) | (with_reducible refine Below.drew ?_) | (with_reducible refine below_new ?_ _) | (with_reducible refine below_next ?_ (by with_reducible assumption)) | (with_reducible refine Below.setCell ?_ ?_ _) | go_size))⟩

set_option maxRecDepth 100000 in
set_option maxHeartbeats 2000000 in
theorem backward_by (bs : Nat) (ad : Option Addr) (cs : List Ed) (c : Nat) (nb : cs.length ≤ 1048576) (w : World) (l1 : bs < w.heap.size) (c1 : w.cell? ⟨bs, 0, none⟩ = some (.slice ad cs.length c)) (hM : EditsIn w ad cs) :
    SeqBy Try.prog 100 #[.pointer (some ⟨bs, 0, none⟩)] (bkE cs) (KpB w.heap.size bs ad) (fun A B => Below A.heap.size A B)
      (fun xs => xs = bkw cs.length cs.length) (fun _ => True)
      (fun pre i => ∃ r : Nat, r < cs.length ∧ pre = bkw cs.length r ∧ i = cs.length - 1 - r) (fun _ => True) w := by
  intro l J Jx W hW hJ hJx _ hY h0
  have C1 := (hW.cell (p := ⟨bs, 0, none⟩) l1).trans c1
  have L1 : bs < W.heap.size := Nat.lt_of_lt_of_le l1 hW.size
  have E1 := Lib.hid (editsIn_below hM hW)
  have HL := Lib.hid (show ∀ b o, ad = some ⟨b, o, none⟩ → 0 < cs.length → b < w.heap.size from fun b o e h => by obtain ⟨_, b', o', e', hlt, _⟩ := hM 0 h; rw [e] at e'; cases e'; exact hlt)
  have HY := Lib.hid hY
  have J0 := Lib.hid h0
  have d3 : IntKind.i64.wrap ((cs.length : Int) - 1) = (cs.length : Int) - 1 := IntWalk.i64_in _ (by omega)
  clear hW hM c1 l1 hY hJ h0
  refine callsIn_of_wp Try.func100 rfl trivial ?_ rfl
  simp only [Try.ntmps100, List.size_toArray, List.length_cons, List.length_nil, Nat.reduceAdd, Nat.reduceSub, Array.replicate_succ, Array.replicate_zero, List.push_toArray, List.append_toArray, List.nil_append, List.cons_append]
  gi_wp2
  gi_loopw [3] (fun i wr => ∃ r : Nat, r ≤ cs.length ∧ i = .int .i64 ((cs.length : Int) - 1 - (r : Int)) ∧ J (bkw cs.length r) wr ∧ (wr.cell? ⟨bs, 0, none⟩ = some (.slice ad cs.length c) ∧ bs < wr.heap.size) ∧ EditsIn wr ad cs) (fun i _ => (intOf i + 1).toNat)
  case atStart => exact ⟨0, Nat.zero_le _, by simp, J0.out, ⟨C1, L1⟩, E1.out⟩
  case round =>
    obtain ⟨r, hr, rfl, hJp, ⟨k2, y2⟩, hMk⟩ := hrel
    have JP := Lib.hid hJp
    have MK := Lib.hid hMk
    clear hJp hMk E1 J0 C1 L1 d3
    by_cases hrl : r < cs.length
    · obtain ⟨m, hm⟩ : ∃ m : Nat, cs.length - 1 - r = m := ⟨_, rfl⟩
      have hz : (cs.length : Int) - 1 - (r : Int) = (m : Int) := by omega
      have hz2' : (m : Int) - 1 = (cs.length : Int) - 1 - ((r + 1 : Nat) : Int) := by omega
      have hml : m < cs.length := by omega
      rw [hz]
      have hdd : decide (0 ≤ (m : Int)) = true := by simp
      obtain ⟨_, b1, o1, rfl, hb1, p0, p1, p2, p3, p4⟩ := MK.out m hml
      have i1 : (0 : Int) ≤ (m : Int) := by omega
      have i2 : (m : Int) < (cs.length : Int) := by omega
      have x1 : IntKind.i64.wrap ((m : Int) - 1) = (m : Int) - 1 := IntWalk.i64_in _ (by omega)
      have NX := Lib.hid (show bkw cs.length (r + 1) = bkw cs.length r ++ [m] by rw [bkw_next, hm])
      have AK := Lib.hid (show ∃ r' : Nat, r' < cs.length ∧ bkw cs.length r = bkw cs.length r' ∧ m = cs.length - 1 - r' from ⟨r, hrl, rfl, hm.symm⟩)
      obtain ⟨fn, tmps, assign, body, hy, hR⟩ := HY.out _ m wr JP.out AK.out
      unfold bkE at hy
      have hy2 : (Instr.yield l #[.int .i64 (m : Int), .agg #[.int .i8 (edAt cs m).k, .string (edAt cs m).s, .int .i16 (edAt cs m).h, .int .u64 (edAt cs m).a, .int .u64 (edAt cs m).b]]).run Try.prog wr = _ := hy
      clear hy HY AK hz
      gi_wp2
      refine ⟨rfl, hR.mono ?_⟩
      rintro e W2 (⟨rfl, hJ2, hk2⟩ | ⟨rfl, hJ2⟩)
      · have M2 := Lib.hid (hk2.edits HL.out MK.out)
        have q2 := (cell_eqB (o := 0) hk2.2.1).trans k2
        have z2 : bs < W2.heap.size := Nat.lt_of_lt_of_le y2 hk2.1
        have J2 := Lib.hid hJ2
        clear hk2 hJ2
        gi_wp2
        exact ⟨⟨r + 1, hrl, by rw [Int.natCast_succ], by rw [NX.out]; exact J2.out, ⟨q2, z2⟩, M2.out⟩, by (simp [intOf]) <;> omega⟩
      · have J2 := Lib.hid hJ2
        clear hJ2
        gi_wp2
        first | go_end0 | refine bodyPost_ret (results_none rfl _ _ _) rfl ?_
        exact ⟨⟨_, rfl⟩, .inr ⟨_, trivial, J2.out⟩⟩
    · have e : r = cs.length := by omega
      subst e
      have hdd : decide (0 ≤ (cs.length : Int) - 1 - (cs.length : Int)) = false := by simp; omega
      clear HY
      gi_wp2
      first | go_end0 | refine bodyPost_ret (results_none rfl _ _ _) rfl ?_
      exact ⟨⟨_, rfl⟩, .inl ⟨_, rfl, JP.out⟩⟩
end Go.Proofs.Ytpgonfeobfefaaa
