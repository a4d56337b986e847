/- Contracts: a text told piece by piece (strings.SplitSeq at one byte). -/
import Derived.Test.YtppjmngnjdeigaaDoorRng
import Derived.Test.YtppjmngnjdeigaaDoorSeqM
import Derived.Test.YtppjmngnjdeigaaDoorShelf
import Derived.Test.YtppjmngnjdeigaaDoorOth
namespace Go.Proofs.YtppjmngnjdeigaaDoor
open Go.ChangeShapes Go.WideShapes Go.ChangeAt Go.RowKit

theorem index1_any (s : ByteArray) (c : UInt8) (w : World) :
    Calls Tryd.prog 157 #[.string s, .string ⟨#[c]⟩] w fun e w' => e = .returned (.int .i64 (Lib.indexByte s.data.toList c)) ∧ w' = w :=
  Any.strings_Index_one Tryd.lays143 s c w

/-- What the call of strings.SplitSeq leaves: three boxes, and the closure over them. -/
def SeqBoxes (bs bp bz : Nat) (s : ByteArray) (c : UInt8) (w : World) : Prop :=
  bs < w.heap.size ∧ bp < w.heap.size ∧ bz < w.heap.size ∧ bs ≠ bp ∧ bs ≠ bz ∧ w.cell? ⟨bs, 0, none⟩ = some (.string s) ∧ w.frozen? ⟨bs, 0, none⟩ = false ∧ w.cell? ⟨bp, 0, none⟩ = some (.string ⟨#[c]⟩) ∧ w.cell? ⟨bz, 0, none⟩ = some (.int .i64 0)

/-- What a round keeps: the iterator's three boxes. -/
def KpS (bs bp bz : Nat) (A B : World) : Prop := A.heap.size ≤ B.heap.size ∧ B.heap[bs]? = A.heap[bs]? ∧ B.heap[bp]? = A.heap[bp]? ∧ B.heap[bz]? = A.heap[bz]?
theorem KpS.trans {bs bp bz : Nat} {A B C : World} (h : KpS bs bp bz A B) (k : KpS bs bp bz B C) : KpS bs bp bz A C := ⟨Nat.le_trans h.1 k.1, k.2.1.trans h.2.1, k.2.2.1.trans h.2.2.1, k.2.2.2.trans h.2.2.2⟩
theorem KpS.of {bs bp bz n : Nat} {A B : World} (h : Below n A B) (h1 : bs < n) (h2 : bp < n) (h3 : bz < n) : KpS bs bp bz A B := ⟨h.size, h.block _ h1, h.block _ h2, h.block _ h3⟩

set_option maxRecDepth 100000 in
set_option maxHeartbeats 2000000 in
theorem splitSeq_by (bs bp bz : Nat) (s : ByteArray) (c : UInt8) (hs : s.size ≤ maxLen) (w : World) (hw : SeqBoxes bs bp bz s c w) :
    SeqBy Tryd.prog 156 #[.pointer (some ⟨bp, 0, none⟩), .pointer (some ⟨bs, 0, none⟩), .pointer (some ⟨bz, 0, none⟩)] (fun p : ByteArray => #[.string p]) (KpS bs bp bz) (Oth bs) (fun xs => xs = pieces c s) (fun pre => pre <+: pieces c s) (fun pre x => pre ++ [x] <+: pieces c s) (fun _ => True) w := by
  intro l J Jx W hW hJ hJx _ hY h0
  obtain ⟨l1, l2, l3, n1, n2, c1, f1, c2, c3⟩ := hw
  have C1 := (hW.cell (p := ⟨bs, 0, none⟩) l1).trans c1
  have F1 := (hW.frozen (p := ⟨bs, 0, none⟩) l1).trans f1
  have C2 := (hW.cell (p := ⟨bp, 0, none⟩) l2).trans c2
  have C3 := (hW.cell (p := ⟨bz, 0, none⟩) l3).trans c3
  refine callsIn_of_wp Tryd.func156 rfl trivial ?_ rfl
  simp only [Tryd.ntmps156, List.size_toArray, List.length_cons, List.length_nil, Nat.reduceAdd, Nat.reduceSub, Array.replicate_succ, Array.replicate_zero, List.push_toArray, List.append_toArray, List.nil_append, List.cons_append]
  gi_wp2
  gi_loopw [7] (fun _ wr => ∃ (pre : List ByteArray) (t : ByteArray), pre ++ pieces c t = pieces c s ∧ t.size ≤ s.size ∧ J pre wr ∧ wr.cell? ⟨bs, 0, none⟩ = some (.string t) ∧ wr.frozen? ⟨bs, 0, none⟩ = false ∧ wr.cell? ⟨bp, 0, none⟩ = some (.string ⟨#[c]⟩) ∧ wr.cell? ⟨bz, 0, none⟩ = some (.int .i64 0)) (fun _ wr => strLeft wr bs)
  case atStart => exact ⟨[], s, rfl, Nat.le_refl _, h0, C1, F1, C2, C3⟩
  case round =>
    obtain ⟨pre, t, hp, ht, hJr, c1, f1, c2, c3⟩ := hrel
    have HJ := Lib.hid hJr
    rcases ib_spec t.data.toList c with ⟨hi, hn⟩ | ⟨k, hi, hk, hg, hn⟩
    · have V := Lib.hid (index1_any t c)
      rw [hi] at V
      obtain ⟨fn, tmps, assign, body, hy, hR⟩ := hY pre t wr hJr ⟨[], by rw [← hp, pieces_none hn, List.append_nil]⟩
      clear hJr hY
      gi_wp2_with (refine ⟨trivial, rfl, ?_⟩; gi_at_call 157; refine (callsIn_wide.2 (V.out _)).mono ?_; rintro e w9 ⟨rfl, rfl⟩)
      refine ⟨rfl, hR.mono ?_⟩
      rintro e W2 (⟨rfl, hJ2, hk2⟩ | ⟨rfl, hJ2⟩)
      · gi_wp2
        first | go_end0 | refine bodyPost_ret (results_none rfl _ _ _) rfl ?_
        exact ⟨⟨_, rfl⟩, .inl ⟨_, by rw [← hp, pieces_none hn], hJ2⟩⟩
      · gi_wp2
        first | go_end0 | refine bodyPost_ret (results_none rfl _ _ _) rfl ?_
        exact ⟨⟨_, rfl⟩, .inr ⟨_, ⟨[], by rw [← hp, pieces_none hn, List.append_nil]⟩, hJ2⟩⟩
    · have V := Lib.hid (index1_any t c)
      rw [hi] at V
      have hpa := pieces_at hg hn
      have kt : k < t.size := by simpa using hk
      unfold maxLen at hs
      have kn : decide ((k : Int) < 0) = false := by simp
      have kw : IntKind.i64.wrap ((k : Int) + 0) = (k : Int) := IntWalk.i64_in _ (by omega)
      have kw1 : IntKind.i64.wrap ((k : Int) + 1) = ((k + 1 : Nat) : Int) := by rw [Int.natCast_succ]; exact IntWalk.i64_in _ (by omega)
      obtain ⟨fn, tmps, assign, body, hy, hR⟩ := hY pre (t.extract 0 k) wr hJr ⟨pieces c (t.extract (k + 1) t.size), by rw [List.append_assoc, ← hp, hpa]; rfl⟩
      clear hJr hY
      gi_wp2_with (refine ⟨trivial, rfl, ?_⟩; gi_at_call 157; refine (callsIn_wide.2 (V.out _)).mono ?_; rintro e w9 ⟨rfl, rfl⟩)
      refine ⟨rfl, hR.mono ?_⟩
      rintro e W2 (⟨rfl, hJ2, hk2⟩ | ⟨rfl, hJ2⟩)
      · have d1 := (cell_same hk2.2.1).trans c1
        have d2 := (cell_same hk2.2.2.1).trans c2
        have d3 := (cell_same hk2.2.2.2).trans c3
        have g1 := (frozen_same hk2.2.1).trans f1
        have J3 := hJ _ _ _ hJ2 ((Oth.refl bs W2).set 0 (.string (t.extract (k + 1) t.size)))
        have e1 : (W2.setCell ⟨bs, 0, none⟩ (.string (t.extract (k + 1) t.size))).cell? ⟨bs, 0, none⟩ = some (.string (t.extract (k + 1) t.size)) := World.cell?_setCell_same' _ _ _ (by rw [d1]; rfl)
        have sz : (t.extract (k + 1) t.size).size = t.size - (k + 1) := by simp
        gi_wp2

        go_roundw
        case rel => exact ⟨_, _, by rw [List.append_assoc]; exact (congrArg (pre ++ ·) hpa.symm).trans hp, by omega, J3, e1, by rw [World.frozen?_setCell]; exact g1, (World.cell?_setCell_other _ _ _ _ (by intro hc; simp at hc <;> omega)).trans d2, (World.cell?_setCell_other _ _ _ _ (by intro hc; simp at hc <;> omega)).trans d3⟩
        case measure => rw [strLeft_eq e1, strLeft_eq c1]; omega
      · gi_wp2
        first | go_end0 | refine bodyPost_ret (results_none rfl _ _ _) rfl ?_
        exact ⟨⟨_, rfl⟩, .inr ⟨_, ⟨pieces c (t.extract (k + 1) t.size), by rw [List.append_assoc, ← hp, hpa]; rfl⟩, hJ2⟩⟩
end Go.Proofs.YtppjmngnjdeigaaDoor
