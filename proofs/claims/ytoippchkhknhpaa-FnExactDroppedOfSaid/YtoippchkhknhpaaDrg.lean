/- The iterator of the masks that have some holes: its word. -/
import Derived.Test.YtoippchkhknhpaaIdx
import Derived.Test.YtoippchkhknhpaaRngO
import Derived.Test.YtoippchkhknhpaaHole
import Derived.Test.YtoippchkhknhpaaBoxes
import Derived.Test.YtoippchkhknhpaaMayI
import Derived.RangeFuncBox
namespace Go.Proofs.Ytoippchkhknhpaa
open Go.ChangeShapes Go.WideShapes Go.ChangeAt Go.RowKit
attribute [local go_sem] Oper.semAt_some

theorem cell_eq {A B : World} {b o : Nat} (h : B.heap[b]? = A.heap[b]?) : B.cell? ⟨b, o, none⟩ = A.cell? ⟨b, o, none⟩ := by unfold World.cell?; simp only [h]
/-- What a round keeps: the iterator's two boxes, and the masks. -/
def KpD (L bm bh : Nat) (ad : Option Addr) (A B : World) : Prop := A.heap.size ≤ B.heap.size ∧ B.heap[bm]? = A.heap[bm]? ∧ B.heap[bh]? = A.heap[bh]? ∧ ∀ b o, ad = some ⟨b, o, none⟩ → b < L → B.heap[b]? = A.heap[b]?
theorem KpD.trans {L bm bh : Nat} {ad : Option Addr} {A B C : World} (h : KpD L bm bh ad A B) (k : KpD L bm bh ad B C) : KpD L bm bh ad A C := ⟨Nat.le_trans h.1 k.1, k.2.1.trans h.2.1, k.2.2.1.trans h.2.2.1, fun b o e l => (k.2.2.2 b o e l).trans (h.2.2.2 b o e l)⟩
theorem KpD.masks {L bm bh : Nat} {ad : Option Addr} {A B : World} {ms : List (Int × Int)} (h : KpD L bm bh ad A B) (hL : ∀ b o, ad = some ⟨b, o, none⟩ → 0 < ms.length → b < L) (hc : MasksIn A ad ms) : MasksIn B ad ms := fun i hi => by
  obtain ⟨b, o, ha, hlt, h0, h1⟩ := hc i hi
  have e := h.2.2.2 b o ha (hL b o ha (by omega))
  exact ⟨b, o, ha, Nat.lt_of_lt_of_le hlt h.1, (cell_eq e).trans h0, (cell_eq e).trans h1⟩

theorem dropping_any (ad : Option Addr) (n c : Nat) (x y : Int) (w : World) :
    Calls Try.prog 86 #[.slice ad n c, .agg #[.int .u64 x, .int .u64 y]] w fun e w' => e = .returned (.func (.func 117) #[] #[.pointer (some ⟨w.heap.size, 0, none⟩), .pointer (some ⟨w.heap.size + 1, 0, none⟩)]) ∧ w'.cell? ⟨w.heap.size, 0, none⟩ = some (.slice ad n c) ∧ (w'.cell? ⟨w.heap.size + 1, 0, none⟩ = some (.int .u64 x) ∧ w'.cell? ⟨w.heap.size + 1, 1, none⟩ = some (.int .u64 y)) ∧ w'.heap.size = w.heap.size + 2 ∧ Below w.heap.size w w' := by
  have hmf : ∀ (fn : Fn) (first cap : Array Value) (w : World), (Instr.makeFunc fn first cap).run Try.prog w = .ok (.func fn first cap) w := fun _ _ _ _ => rfl
  go_enter Try.func86, Try.ntmps86
  go_wp2
  go_returns
  exact ⟨rfl, (box2_0 ..).trans rfl, ⟨(box2_1 ..).trans rfl, (box2_1 ..).trans rfl⟩, by simp, (by repeat' (first | (with_reducible exact Below.refl _ _) | (with_reducible assumption) | (with_reducible refine below_drewN ?_ _) | (with_reducible refine Below.drew ?_) | (with_reducible refine below_new ?_ _) | (with_reducible refine below_next ?_ (by with_reducible assumption)) | (with_reducible refine Below.setCell ?_ ?_ _) | go_size))⟩

set_option maxRecDepth 100000 in
set_option maxHeartbeats 2000000 in
theorem dropping_by (bm bh : Nat) (ad : Option Addr) (ms : List (Int × Int)) (c : Nat) (x y : Int) (nb : ms.length ≤ 1048576) (w : World) (l1 : bm < w.heap.size) (l2 : bh < w.heap.size) (c1 : w.cell? ⟨bm, 0, none⟩ = some (.slice ad ms.length c)) (c2 : w.cell? ⟨bh, 0, none⟩ = some (.int .u64 x)) (c3 : w.cell? ⟨bh, 1, none⟩ = some (.int .u64 y)) (hM : MasksIn w ad ms) :
    SeqBy Try.prog 117 #[.pointer (some ⟨bm, 0, none⟩), .pointer (some ⟨bh, 0, none⟩)] (fun i : Int => #[.int .i64 i]) (KpD w.heap.size bm bh ad) (fun A B => Below A.heap.size A B)
      (fun xs => xs = idx (dropsAt x y ms) ms.length) (fun _ => True)
      (fun pre i => ∃ k : Nat, k < ms.length ∧ dropsAt x y ms k = true ∧ pre = idx (dropsAt x y ms) k ∧ i = (k : Int)) (fun _ => True) w := by
  intro l J Jx W hW hJ hJx _ hY h0
  have C1 := (hW.cell (p := ⟨bm, 0, none⟩) l1).trans c1
  have C2 := (hW.cell (p := ⟨bh, 0, none⟩) l2).trans c2
  have C3 := (hW.cell (p := ⟨bh, 1, none⟩) l2).trans c3
  have L2 : bh < W.heap.size := Nat.lt_of_lt_of_le l2 hW.size
  have E1 := Lib.hid (masksIn_below hM hW)
  have HL := Lib.hid (show ∀ b o, ad = some ⟨b, o, none⟩ → 0 < ms.length → b < w.heap.size from fun b o e h => by obtain ⟨b', o', e', hlt, _⟩ := hM 0 h; rw [e] at e'; cases e'; exact hlt)
  have HY := Lib.hid hY
  have HJ := Lib.hid hJ
  have J0 := Lib.hid h0
  have IW := Lib.hid fun m1 m2 W => iWithin_any x y m1 m2 W
  clear hW hM c1 c2 c3 l1 l2 hY hJ h0
  refine callsIn_of_wp Try.func117 rfl trivial ?_ rfl
  simp only [Try.ntmps117, List.size_toArray, List.length_cons, List.length_nil, Nat.reduceAdd, Nat.reduceSub, Array.replicate_succ, Array.replicate_zero, List.push_toArray, List.append_toArray, List.nil_append, List.cons_append]
  gi_wp2
  gi_loopw [8] (fun i wr => ∃ k : Nat, k ≤ ms.length ∧ i = .int .i64 k ∧ J (idx (dropsAt x y ms) k) wr ∧ (wr.cell? ⟨bh, 0, none⟩ = some (.int .u64 x) ∧ wr.cell? ⟨bh, 1, none⟩ = some (.int .u64 y) ∧ bh < wr.heap.size) ∧ MasksIn wr ad ms) (fun i _ => ms.length - (intOf i).toNat)
  case atStart => exact ⟨0, Nat.zero_le _, rfl, J0.out, ⟨C2, C3, L2⟩, E1.out⟩
  case round =>
    obtain ⟨k, hk, rfl, hJp, ⟨k2, k3, y2⟩, hMk⟩ := hrel
    have JP := Lib.hid hJp
    have MK := Lib.hid hMk
    clear hJp hMk E1 J0 C1 C2 C3 L2
    by_cases hkl : k < ms.length
    · have hdd : decide ((k : Int) < (ms.length : Int)) = true := by simpa using hkl
      obtain ⟨b1, o1, rfl, hb1, p0, p1⟩ := MK.out k hkl
      have i1 : (0 : Int) ≤ (k : Int) := by omega
      have i2 : (k : Int) < (ms.length : Int) := by omega
      have x1 : IntKind.i64.wrap ((k : Int) + 1) = (k : Int) + 1 := IntWalk.i64_in _ (by omega)
      have I := fun W => IW.out (ms.getD k (0, 0)).1 (ms.getD k (0, 0)).2 W
      change ∀ W : World, Calls _ _ _ W (fun e w' => e = .returned (.bool (dropsAt x y ms k)) ∧ Below W.heap.size W w') at I
      have YES := fun h => Lib.hid (idx_yes (p := dropsAt x y ms) (k := k) h)
      have NO := fun h => Lib.hid (idx_no (p := dropsAt x y ms) (k := k) h)
      have AS := fun h => Lib.hid (show ∃ k' : Nat, k' < ms.length ∧ dropsAt x y ms k' = true ∧ idx (dropsAt x y ms) k = idx (dropsAt x y ms) k' ∧ (k : Int) = (k' : Int) from ⟨k, hkl, h, rfl, rfl⟩)
      have yr : b1 < wr.heap.size := hb1
      generalize (ms.getD k (0, 0)).1 = m1 at *
      generalize (ms.getD k (0, 0)).2 = m2 at *
      cases hq : dropsAt x y ms k
      · have NN := NO hq
        rw [hq] at I
        have I := Lib.hid I
        clear YES NO AS hq HY
        gi_wp2_with (first | (refine ⟨trivial, rfl, ?_⟩; gi_at_call 59; refine (callsIn_wide.2 (I.out _)).mono ?_; rintro e w9 ⟨rfl, hB⟩; have D9 := Lib.hid (Ab.trans (ab_new wr _) hB); clear hB) | (refine ⟨fun _ hf => absurd hf (by simp), ?_⟩))
        all_goals exact ⟨⟨k + 1, hkl, by rw [Int.natCast_succ], by rw [NN.out]; exact HJ.out _ _ _ JP.out D9.out, ⟨(D9.out.cell (p := ⟨bh, 0, none⟩) y2).trans k2, (D9.out.cell (p := ⟨bh, 1, none⟩) y2).trans k3, Nat.lt_of_lt_of_le y2 D9.out.size⟩, masksIn_below MK.out D9.out⟩, by (simp [intOf]) <;> omega⟩
      · have YY := YES hq
        have AK := AS hq
        rw [hq] at I
        have I := Lib.hid I
        clear YES NO AS hq
        gi_wp2_with (refine ⟨trivial, rfl, ?_⟩; gi_at_call 59; refine (callsIn_wide.2 (I.out _)).mono ?_; rintro e w9 ⟨rfl, hB⟩; have D9 := Lib.hid (Ab.trans (ab_new wr _) hB); have J9 := HJ.out _ _ _ JP.out D9.out; obtain ⟨fn, tmps, assign, body, hy, hR⟩ := HY.out _ (k : Int) w9 J9 AK.out; have hy2 : (Instr.yield l #[.int .i64 (k : Int)]).run Try.prog w9 = _ := hy; clear hB hy J9)
        refine ⟨rfl, hR.mono ?_⟩
        rintro e W2 (⟨rfl, hJ2, hk2⟩ | ⟨rfl, hJ2⟩)
        · have M2 := Lib.hid (hk2.masks HL.out (masksIn_below MK.out D9.out))
          have q2 := (cell_eq (o := 0) hk2.2.2.1).trans ((D9.out.cell (p := ⟨bh, 0, none⟩) y2).trans k2)
          have q3 := (cell_eq (o := 1) hk2.2.2.1).trans ((D9.out.cell (p := ⟨bh, 1, none⟩) y2).trans k3)
          have z2 : bh < W2.heap.size := Nat.lt_of_lt_of_le (Nat.lt_of_lt_of_le y2 D9.out.size) hk2.1
          have J2 := Lib.hid hJ2
          clear hk2 hJ2
          gi_wp2
          exact ⟨⟨k + 1, hkl, by rw [Int.natCast_succ], by rw [YY.out]; exact J2.out, ⟨q2, q3, z2⟩, M2.out⟩, by (simp [intOf]) <;> omega⟩
        · have J2 := Lib.hid hJ2
          clear hJ2
          gi_wp2
          first | go_end0 | refine bodyPost_ret (results_none rfl _ _ _) rfl ?_
          exact ⟨⟨_, rfl⟩, .inr ⟨_, trivial, J2.out⟩⟩
    · have e : k = ms.length := by omega
      subst e
      have hdd : decide ((ms.length : Int) < (ms.length : Int)) = false := by simp
      clear HY
      gi_wp2
      first | go_end0 | refine bodyPost_ret (results_none rfl _ _ _) rfl ?_
      exact ⟨⟨_, rfl⟩, .inl ⟨_, rfl, JP.out⟩⟩
end Go.Proofs.Ytoippchkhknhpaa
