/- Contracts: a text told line by line (strings.Lines); a line without its end (strings.TrimSuffix). -/
import Derived.Test.YtppjmngnjdeigaaDoorSeqM
import Derived.Test.YtppjmngnjdeigaaDoorRdN
import Derived.Test.YtppjmngnjdeigaaDoorShlL
import Derived.Test.YtppjmngnjdeigaaDoorBoxes
import Derived.Test.YtppjmngnjdeigaaDoorFloat
namespace Go.Proofs.YtppjmngnjdeigaaDoor
open Go.ChangeShapes Go.WideShapes Go.ChangeAt Go.RowKit
attribute [local go_sem] Oper.semAt_some

/-- The lines of a text, each with its end; what stands ahead of the first one is told. -/
def lnB : List UInt8 → List UInt8 → List (List UInt8)
  | acc, [] => if acc = [] then [] else [acc]
  | acc, x :: xs => if x = 10 then (acc ++ [x]) :: lnB [] xs else lnB (acc ++ [x]) xs
def lns (s : ByteArray) : List ByteArray := (lnB [] s.data.toList).map mkS
theorem lnB_none : ∀ (l acc : List UInt8), (10 : UInt8) ∉ l → lnB acc l = if acc ++ l = [] then [] else [acc ++ l]
  | [], acc, _ => by rw [lnB, List.append_nil]
  | x :: xs, acc, h => by
    rw [lnB, if_neg (fun e => h (by rw [e]; exact List.mem_cons_self)), lnB_none xs _ (fun e => h (List.mem_cons_of_mem _ e)), List.append_assoc]; rfl
theorem lnB_at : ∀ (l acc : List UInt8) (i : Nat), l[i]? = some 10 → (10 : UInt8) ∉ l.take i → lnB acc l = (acc ++ l.take (i + 1)) :: lnB [] (l.drop (i + 1))
  | [], acc, i, h, _ => by simp at h
  | x :: xs, acc, 0, h, _ => by
    simp at h
    rw [lnB, if_pos h]; rfl
  | x :: xs, acc, i + 1, h, hn => by
    rw [lnB, if_neg (fun e => hn (by rw [List.take_succ_cons, e]; exact List.mem_cons_self)), lnB_at xs _ i (by simpa using h) (fun e => hn (by rw [List.take_succ_cons]; exact List.mem_cons_of_mem _ e)), List.append_assoc]; rfl
theorem lns_empty {t : ByteArray} (h : t.size = 0) : lns t = [] := by
  have : t.data.toList = [] := List.length_eq_zero_iff.1 (by show t.data.toList.length = 0; rw [Array.length_toList]; exact h)
  unfold lns
  rw [this]; rfl
theorem lns_none {t : ByteArray} (h0 : 0 < t.size) (h : (10 : UInt8) ∉ t.data.toList) : lns t = [t] := by
  unfold lns
  rw [lnB_none _ _ h, List.nil_append, if_neg, List.map_cons, mkS_data]; rfl
  intro e
  have : t.data.toList.length = t.size := Array.length_toList
  rw [e] at this
  simp at this
  omega
theorem lns_at {t : ByteArray} {k : Nat} (hk : t.data.toList[k]? = some 10) (hn : (10 : UInt8) ∉ t.data.toList.take k) : lns t = t.extract 0 (k + 1) :: lns (t.extract (k + 1) t.size) := by
  unfold lns
  rw [lnB_at _ _ k hk hn, List.nil_append, List.map_cons, Lib.extract_to_end]
  congr 1
  rw [Lib.extract_eq]; rfl
theorem ixByte_any (s : ByteArray) (w : World) :
    Calls Tryd.prog 82 #[.string s, .int .u8 10] w fun e w' => e = .returned (.int .i64 (Lib.indexByte s.data.toList 10)) ∧ w' = w :=
  Any.strings_IndexByte Tryd.lays137 s 10 w

set_option maxRecDepth 100000 in
set_option maxHeartbeats 2000000 in
theorem lines_by (bs : Nat) (s : ByteArray) (hs : s.size ≤ maxLen) (w : World) (h1 : bs < w.heap.size) (h2 : w.cell? ⟨bs, 0, none⟩ = some (.string s)) (h3 : w.frozen? ⟨bs, 0, none⟩ = false) :
    SeqBy Tryd.prog 81 #[.pointer (some ⟨bs, 0, none⟩)] (fun p : ByteArray => #[.string p]) (fun A B => A.heap.size ≤ B.heap.size ∧ B.heap[bs]? = A.heap[bs]?) (Oth bs) (fun xs => xs = lns s) (fun pre => pre <+: lns s) (fun pre x => pre ++ [x] <+: lns s) (fun _ => True) w := by
  intro l J Jx W hW hJ hJx _ hY h0
  have C1 := (hW.cell (p := ⟨bs, 0, none⟩) h1).trans h2
  have F1 := (hW.frozen (p := ⟨bs, 0, none⟩) h1).trans h3
  refine callsIn_of_wp Tryd.func81 rfl trivial ?_ rfl
  simp only [Tryd.ntmps81, List.size_toArray, List.length_cons, List.length_nil, Nat.reduceAdd, Nat.reduceSub, Array.replicate_succ, Array.replicate_zero, List.push_toArray, List.append_toArray, List.nil_append, List.cons_append]
  gi_wp2
  gi_loopw [3] (fun _ wr => ∃ (pre : List ByteArray) (t : ByteArray), pre ++ lns t = lns s ∧ t.size ≤ s.size ∧ J pre wr ∧ wr.cell? ⟨bs, 0, none⟩ = some (.string t) ∧ wr.frozen? ⟨bs, 0, none⟩ = false) (fun _ wr => strLeft wr bs)
  case atStart => exact ⟨[], s, rfl, Nat.le_refl _, h0, C1, F1⟩
  case round =>
    obtain ⟨pre, t, hp, ht, hJr, c1, f1⟩ := hrel
    by_cases h0 : t.size = 0
    · have d0 : decide ((0 : Int) < (t.size : Int)) = false := decide_eq_false (by omega)
      gi_wp2
      first | go_end0 | refine bodyPost_ret (results_none rfl _ _ _) rfl ?_
      exact ⟨⟨_, rfl⟩, .inl ⟨pre, by rw [← hp, lns_empty h0, List.append_nil], hJr⟩⟩
    · have d0 : decide ((0 : Int) < (t.size : Int)) = true := decide_eq_true (by omega)
      rcases ib_spec t.data.toList 10 with ⟨hi, hn⟩ | ⟨k, hi, hk, hg, hn⟩
      · have V := Lib.hid (ixByte_any t)
        rw [hi] at V
        have hl := lns_none (by omega) hn
        have e1 : (wr.setCell ⟨bs, 0, none⟩ (.string ⟨#[]⟩)).cell? ⟨bs, 0, none⟩ = some (.string ⟨#[]⟩) := World.cell?_setCell_same' _ _ _ (by rw [c1]; rfl)
        have g1 : (wr.setCell ⟨bs, 0, none⟩ (.string ⟨#[]⟩)).frozen? ⟨bs, 0, none⟩ = false := by rw [World.frozen?_setCell]; exact f1
        have J1 := hJ _ _ _ hJr ((Oth.refl bs wr).set 0 (.string ⟨#[]⟩))
        obtain ⟨fn, tmps, assign, body, hy, hR⟩ := hY pre t _ J1 ⟨[], by rw [← hp, hl, List.append_nil]⟩
        clear hJr hY
        gi_wp2_with (refine ⟨trivial, rfl, ?_⟩; gi_at_call 82; refine (callsIn_wide.2 (V.out _)).mono ?_; rintro e w9 ⟨rfl, rfl⟩)
        refine ⟨rfl, hR.mono ?_⟩
        rintro e W2 (⟨rfl, hJ2, hk2⟩ | ⟨rfl, hJ2⟩)
        · have c9 := (cell_same hk2.2).trans e1
          have f9 := (frozen_same hk2.2).trans g1
          gi_wp2
          go_roundw
          case rel => exact ⟨pre ++ [t], ⟨#[]⟩, by rw [← hp, hl, lns_empty (t := ⟨#[]⟩) rfl, List.append_nil], Nat.zero_le _, hJ2, c9, f9⟩
          case measure => rw [strLeft_eq c9, strLeft_eq c1]; show 0 < t.size; omega
        · gi_wp2
          first | go_end0 | refine bodyPost_ret (results_none rfl _ _ _) rfl ?_
          exact ⟨⟨_, rfl⟩, .inr ⟨_, ⟨[], by rw [← hp, hl, List.append_nil]⟩, hJ2⟩⟩
      · have V := Lib.hid (ixByte_any t)
        rw [hi] at V
        have hl := lns_at hg hn
        have kt : k < t.size := by simpa using hk
        unfold maxLen at hs
        have kn : decide ((0 : Int) ≤ (k : Int)) = true := by simp
        have kw1 : IntKind.i64.wrap ((k : Int) + 1) = ((k + 1 : Nat) : Int) := by rw [Int.natCast_succ]; exact IntWalk.i64_in _ (by omega)
        gi_wp2_with (refine ⟨trivial, rfl, ?_⟩; gi_at_call 82; refine (callsIn_wide.2 (V.out _)).mono ?_; rintro e w9 ⟨rfl, rfl⟩)
        refine wpIn_wide.2 ?_
        refine wp_region_last 9 (by kernel_rfl) rfl rfl (by kernel_rfl) (by kernel_rfl) rfl ?_
        simp only [List.take_succ_cons, List.take_zero]
        intro u1 h1
        have lb : bs < w9.heap.size := World.block_lt_of_cell? _ _ c1
        have c0 := (h1.cell (p := ⟨bs, 0, none⟩) lb).trans c1
        have s0 : bs < u1.heap.size := Nat.lt_of_lt_of_le lb h1.size
        have hbw := cell_bw
        repeat (go_big_quiet_step (fail))
        refine wpQuiet_nil ?_
        intro u3 h3
        have c3 := (h3.cell (p := ⟨bs, 0, none⟩) lb).trans c1
        have f3 := (h3.frozen (p := ⟨bs, 0, none⟩) lb).trans f1
        go_simp
        simp only [Yld]
        have J1 := hJ _ _ _ hJr ((Oth.of (g := bs) h3).set 0 (.string (t.extract (k + 1) t.size)))
        have e1 : (u3.setCell ⟨bs, 0, none⟩ (.string (t.extract (k + 1) t.size))).cell? ⟨bs, 0, none⟩ = some (.string (t.extract (k + 1) t.size)) := World.cell?_setCell_same' _ _ _ (by rw [c3]; rfl)
        have g1 : (u3.setCell ⟨bs, 0, none⟩ (.string (t.extract (k + 1) t.size))).frozen? ⟨bs, 0, none⟩ = false := by rw [World.frozen?_setCell]; exact f3
        obtain ⟨fn, tmps, assign, body, hy, hR⟩ := hY pre (t.extract 0 (k + 1)) _ J1 ⟨lns (t.extract (k + 1) t.size), by rw [List.append_assoc, ← hp, hl]; rfl⟩
        have sz : (t.extract (k + 1) t.size).size = t.size - (k + 1) := by simp
        have sq := strLeft_eq c1
        clear hJr hY c0 c3 f3 s0 hbw h1 c1
        generalize u3.setCell ⟨bs, 0, none⟩ (.string (t.extract (k + 1) t.size)) = u4 at *
        gi_wp2
        refine ⟨rfl, hR.mono ?_⟩
        rintro e W2 (⟨rfl, hJ2, hk2⟩ | ⟨rfl, hJ2⟩)
        · have c9 := (cell_same hk2.2).trans e1
          have f9 := (frozen_same hk2.2).trans g1
          gi_wp2
          go_roundw
          case rel => exact ⟨_, _, by rw [List.append_assoc]; exact (congrArg (pre ++ ·) hl.symm).trans hp, by omega, hJ2, c9, f9⟩
          case measure => rw [strLeft_eq c9, sq]; omega
        · gi_wp2
          first | go_end0 | refine bodyPost_ret (results_none rfl _ _ _) rfl ?_
          exact ⟨⟨_, rfl⟩, .inr ⟨_, ⟨lns (t.extract (k + 1) t.size), by rw [List.append_assoc, ← hp, hl]; rfl⟩, hJ2⟩⟩

theorem lines_any (s : ByteArray) (w : World) :
    Calls Tryd.prog 50 #[.string s] w fun e w' => e = .returned (.func (.func 81) #[] #[.pointer (some ⟨w.heap.size, 0, none⟩)]) ∧ w.alloc (.cells #[.string s] 9) = w' := by
  have hmf : ∀ (fn : Fn) (first cap : Array Value) (w : World), (Instr.makeFunc fn first cap).run Tryd.prog w = .ok (.func fn first cap) w := fun _ _ _ _ => rfl
  go_enter Tryd.func50, Tryd.ntmps50
  go_wp2
  go_returns
  exact ⟨rfl, rfl⟩
/-- A line without its end. -/
def trimL (l : List UInt8) : List UInt8 := Lib.trimSuffix l [10]
def trimB (s : ByteArray) : ByteArray := mkS (trimL s.data.toList)
theorem trim_any (s : ByteArray) (hs : s.size ≤ maxLen) (w : World) :
    Calls Tryd.prog 51 #[.string s, .string ⟨#[10]⟩] w fun e w' => e = .returned (.string (trimB s)) ∧ w' = w :=
  Any.strings_TrimSuffix Tryd.lays102 s ⟨#[10]⟩ w (by unfold maxLen at hs; omega)
theorem trimL_free {l : List UInt8} (h : (10 : UInt8) ∉ l) : trimL l = l := by
  unfold trimL Lib.trimSuffix
  split
  · rename_i hq
    exfalso
    apply h
    exact (List.isSuffixOf_iff_suffix.1 hq).subset (by simp)
  · rfl
theorem trimL_end (l : List UInt8) : trimL (l ++ [10]) = l := by
  unfold trimL Lib.trimSuffix
  split
  · simp
  · rename_i hq
    exfalso
    apply hq
    exact List.isSuffixOf_iff_suffix.2 (List.suffix_append l [10])
/-- The lines and the pieces: the same, but that a text that ends with a line's end has a piece more, an empty one. -/
theorem lines_pieces : ∀ (l acc : List UInt8), (10 : UInt8) ∉ acc → ∃ z, (spl 10 acc l).getLast? = some z ∧ ((z = [] ∧ spl 10 acc l = (lnB acc l).map trimL ++ [[]]) ∨ (z ≠ [] ∧ spl 10 acc l = (lnB acc l).map trimL))
  | [], acc, h => by
    by_cases e : acc = []
    · subst e
      exact ⟨[], rfl, .inl ⟨rfl, rfl⟩⟩
    · refine ⟨acc, rfl, .inr ⟨e, ?_⟩⟩
      rw [spl, lnB, if_neg e, List.map_cons, trimL_free h]; rfl
  | x :: xs, acc, h => by
    by_cases e : x = 10
    · subst e
      obtain ⟨z, hz, hh⟩ := lines_pieces xs [] (by simp)
      have hne := spl_ne 10 xs []
      refine ⟨z, ?_, ?_⟩
      · rw [spl, if_pos rfl, List.getLast?_cons_of_ne_nil hne, hz]
      · rw [spl, if_pos rfl, lnB, if_pos rfl, List.map_cons, trimL_end]
        rcases hh with ⟨h1, h2⟩ | ⟨h1, h2⟩
        · exact .inl ⟨h1, by rw [h2]; rfl⟩
        · exact .inr ⟨h1, by rw [h2]⟩
    · obtain ⟨z, hz, hh⟩ := lines_pieces xs (acc ++ [x]) (by
        intro hm
        rcases List.mem_append.1 hm with hm | hm
        · exact h hm
        · exact e (List.mem_singleton.1 hm).symm)
      refine ⟨z, by rw [spl, if_neg e, hz], ?_⟩
      rw [spl, if_neg e, lnB, if_neg e]
      exact hh
end Go.Proofs.YtppjmngnjdeigaaDoor
