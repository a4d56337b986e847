/- Contracts: is a text a name of an entry, the program's. -/
import Derived.Test.YtppjmngnjdeigaaDoorMadeOf
namespace Go.Proofs.YtppjmngnjdeigaaDoor
open Go.ChangeShapes Go.WideShapes Go.ChangeAt Go.RowKit
attribute [local go_sem] Oper.semAt_some

def wordOk (p : ByteArray) : Bool := !p.toList.isEmpty && allIn plainSet.data.toList p
def ename (s : ByteArray) : Bool := decide (s.size ≤ 24) && (pieces 32 s).all wordOk
theorem ename_long {s : ByteArray} (h : ¬ s.size ≤ 24) : ename s = false := by unfold ename; simp [h]
theorem ename_all {s : ByteArray} (h : s.size ≤ 24) (h2 : (pieces 32 s).all wordOk = true) : ename s = true := by unfold ename; rw [h2]; simp [h]
theorem ename_bad {s : ByteArray} {pre : List ByteArray} (h : pre <+: pieces 32 s) (h2 : pre.all wordOk = false) : ename s = false := by
  unfold ename
  rw [Bool.and_eq_false_iff]
  refine .inr ?_
  obtain ⟨x, hx, hf⟩ := List.all_eq_false.1 h2
  exact List.all_eq_false.2 ⟨x, h.subset hx, hf⟩

set_option maxRecDepth 100000 in
set_option maxHeartbeats 2000000 in
theorem iEName_any (s : ByteArray) (hs : s.size ≤ maxLen) (w : World) :
    Calls Tryd.prog 110 #[.string s] w fun e w' => e = .returned (.bool (ename s)) ∧ Below w.heap.size w w' := by
  by_cases h : s.size ≤ 24
  · have hd : decide ((24 : Int) < (s.size : Int)) = false := by simp; omega
    have V := Lib.hid fun W => splitSeq_any s 32 W
    refine (callsIn_wide (n := 0)).1 (callsIn_of_wp_marks Tryd.func110 rfl trivial ?_ rfl)
    simp only [Tryd.ntmps110, List.size_toArray, List.length_cons, List.length_nil, Nat.reduceAdd, Nat.reduceSub, Array.replicate_succ, Array.replicate_zero, List.push_toArray, List.append_toArray, List.nil_append, List.cons_append]
    refine wpIn_wide.2 ?_
    go_wp2_with (go_at_call 134; refine (V.out _).mono ?_; rintro e w1 ⟨rfl, hS, hB⟩; have SS := Lib.hid hS; have BB := Lib.hid hB; clear hS hB)
    have c0 : w1.cell? ⟨w.heap.size, 0, none⟩ = some (.bool false) := (BB.out.cell (p := ⟨w.heap.size, 0, none⟩) (by simp)).trans (by simp)
    have f0 : w1.frozen? ⟨w.heap.size, 0, none⟩ = false := (BB.out.frozen (p := ⟨w.heap.size, 0, none⟩) (by simp)).trans (by simp)
    have g0 : w.heap.size + 4 ≤ w1.heap.size := by have := SS.out.2.2.1; simp at this; omega
    have B0 : Below w.heap.size w w1 := (below_new (Below.refl _ _) _).trans (BB.out.mono (by simp))
    have hq := splitSeq_by _ _ _ s 32 hs w1 SS.out
    have hfit := fun x (hx : x ∈ pieces 32 s) => Nat.le_trans (pieces_fit 32 s x hx) hs
    simp only [World.size_alloc] at hq
    refine wp_range rfl (enters_of Tryd.func156 (by kernel_rfl) rfl) hq (fun _ => rfl) KpS.trans (fun A B hAB => KpS.of hAB (by omega) (by omega) (by omega)) (fun A B hAB k hk hk2 => hAB.block k (by omega) hk2)
      (fun pre W => pre.all wordOk = true ∧ W.cell? ⟨w.heap.size, 0, none⟩ = some (.bool false) ∧ W.frozen? ⟨w.heap.size, 0, none⟩ = false ∧ w1.heap.size ≤ W.heap.size ∧ Below w.heap.size w W)
      (fun c pre W => (c = .ret ∧ pre.all wordOk = false) ∧ W.cell? ⟨w.heap.size, 0, none⟩ = some (.bool false) ∧ w1.heap.size ≤ W.heap.size ∧ Below w.heap.size w W)
      ?i1 ?i2 ?i3 ?i4 (fun _ _ _ => trivial) ⟨rfl, c0, f0, Nat.le_refl _, B0⟩
      (fun x => { tmps := #[.string s, undef, .pointer (some ⟨w.heap.size, 0, none⟩), .string x, .string s, .int .i64 s.size, .bool false, .string s, .func (.func 156) #[] #[.pointer (some ⟨w.heap.size + 1 + 1, 0, none⟩), .pointer (some ⟨w.heap.size + 1, 0, none⟩), .pointer (some ⟨w.heap.size + 1 + 2, 0, none⟩)], .string x, undef, undef, undef, undef, undef, undef, undef], defers := [] }) ?assign ?body ?done ?stop
    case i1 =>
      rintro pre A B ⟨h1, h2, h3, h4, h5⟩ hs
      exact ⟨h1, (cell_same (hs.block _ (by omega) (by omega))).trans h2, (frozen_same (hs.block _ (by omega) (by omega))).trans h3, Nat.le_trans h4 hs.size, h5.trans (Below.mono (hs.below (by omega)) (by omega))⟩
    case i2 =>
      rintro c pre A B ⟨h1, h2, h4, h5⟩ hs
      exact ⟨h1, (cell_same (hs.block _ (by omega) (by omega))).trans h2, Nat.le_trans h4 hs.size, h5.trans (Below.mono (hs.below (by omega)) (by omega))⟩
    case i3 =>
      rintro pre A B ⟨h1, h2, h3, h4, h5⟩ hb
      exact ⟨h1, (hb.cell (p := ⟨w.heap.size, 0, none⟩) (by simp; omega)).trans h2, (hb.frozen (p := ⟨w.heap.size, 0, none⟩) (by simp; omega)).trans h3, Nat.le_trans h4 hb.size, h5.trans (hb.mono (by omega))⟩
    case i4 =>
      rintro c pre A B ⟨h1, h2, h4, h5⟩ hb
      exact ⟨h1, (hb.cell (p := ⟨w.heap.size, 0, none⟩) (by simp; omega)).trans h2, Nat.le_trans h4 hb.size, h5.trans (hb.mono (by omega))⟩
    case assign =>
      intro l x W K hK
      gi_wp2
      exact hK
    case body =>
      rintro l pre x W ⟨h1, h2, h3, h4, h5⟩ hask hlt
      have hx := hfit x (hask.subset (by simp))
      have M := Lib.hid fun W => madeOf_any x plainSet hx (by decide) (by decide) W
      have hw : (pre ++ [x]).all wordOk = (!x.toList.isEmpty && allIn plainSet.data.toList x) := by
        rw [List.all_append, h1, List.all_cons, List.all_nil, Bool.true_and, Bool.and_true]; rfl
      have HW := Lib.hid hw
      clear hw hfit hq SS BB V hask hx
      unfold plainSet at M
      cases he : x.toList.isEmpty
      · cases hm : allIn plainSet.data.toList x
        · have hp : (pre ++ [x]).all wordOk = false := by rw [HW.out, he, hm]; rfl
          unfold plainSet at hm
          rw [hm] at M
          gi_wp2_with (refine ⟨trivial, rfl, ?_⟩; gi_at_call 135; refine (CallsIn.inRound l (callsIn_wide.2 (M.out _))).mono ?_; rintro e w2 ⟨rfl, hB2⟩; have B2 := Lib.hid hB2; have m2 := (hB2.cell (p := ⟨w.heap.size, 0, none⟩) (by simp; omega)).trans h2; have z2 := (hB2.frozen (p := ⟨w.heap.size, 0, none⟩) (by simp; omega)).trans h3; clear hB2)
          have s2 := B2.out.size
          exact ⟨(Kept.of B2.out hlt).trans (Kept.set w2 0 _ (by omega)), ⟨rfl, hp⟩, World.cell?_setCell_same' _ _ _ (by rw [m2]; rfl), by simp [World.setCell]; omega, (h5.trans (B2.out.mono h5.size)).setCell (p := ⟨w.heap.size, 0, none⟩) (Nat.le_refl _) _⟩
        · have hp : (pre ++ [x]).all wordOk = true := by rw [HW.out, he, hm]; rfl
          unfold plainSet at hm
          rw [hm] at M
          gi_wp2_with (refine ⟨trivial, rfl, ?_⟩; gi_at_call 135; refine (CallsIn.inRound l (callsIn_wide.2 (M.out _))).mono ?_; rintro e w2 ⟨rfl, hB2⟩; have B2 := Lib.hid hB2; have m2 := (hB2.cell (p := ⟨w.heap.size, 0, none⟩) (by simp; omega)).trans h2; have z2 := (hB2.frozen (p := ⟨w.heap.size, 0, none⟩) (by simp; omega)).trans h3; clear hB2)
          have s2 := B2.out.size
          exact ⟨Kept.of B2.out hlt, KpS.of B2.out (by omega) (by omega) (by omega), hp, m2, z2, by omega, h5.trans (B2.out.mono h5.size)⟩
      · have hp : (pre ++ [x]).all wordOk = false := by rw [HW.out, he]; rfl
        gi_wp2
        refine ⟨trivial, ?_⟩
        gi_wp2
        exact ⟨Kept.set W 0 _ (by omega), ⟨rfl, hp⟩, World.cell?_setCell_same' _ _ _ (by rw [h2]; rfl), by simp [World.setCell]; omega, h5.setCell (p := ⟨w.heap.size, 0, none⟩) (Nat.le_refl _) _⟩
    case done =>
      rintro xs W rfl ⟨h1, h2, h3, h4, h5⟩ hK
      go_wp2
      have k2 : (W.setCell ⟨w.heap.size, 0, none⟩ (.bool true)).heap[w1.heap.size]? = some (.deferred (some [])) := (Below.heap_setCell _ _ _ _ (by simp; omega)).trans hK
      refine ⟨by simp, .inl ⟨_, _, rfl, run_takeDeferred k2, ?_⟩⟩
      have c5 : ((W.setCell ⟨w.heap.size, 0, none⟩ (.bool true)).putObj w1.heap.size (.deferred none)).cell? ⟨w.heap.size, 0, none⟩ = some (.bool true) := (cell_same (World.putObj_heap_other (by omega))).trans (World.cell?_setCell_same' _ _ _ (by rw [h2]; rfl))
      refine ⟨.bool true, ?_, by rw [ename_all h h1], (h5.setCell (p := ⟨w.heap.size, 0, none⟩) (Nat.le_refl _) _).trans (below_put (by omega))⟩
      simp [results, Tryd.results110, go_sem, c5]
    case stop =>
      rintro c pre W hpre ⟨⟨rfl, h1⟩, h2, h4, h5⟩ hK
      go_wp2
      refine ⟨by simp, .inl ⟨_, _, rfl, run_takeDeferred hK, ?_⟩⟩
      have c5 : (W.putObj w1.heap.size (.deferred none)).cell? ⟨w.heap.size, 0, none⟩ = some (.bool false) := (cell_same (World.putObj_heap_other (by omega))).trans h2
      refine ⟨.bool false, ?_, by rw [ename_bad hpre h1], h5.trans (below_put (by omega))⟩
      simp [results, Tryd.results110, go_sem, c5]
  · have hd : decide ((24 : Int) < (s.size : Int)) = true := by simp; omega
    go_enter Tryd.func110, Tryd.ntmps110
    go_wp2
    refine bodyPost_ret (by simp [results, Tryd.results110, go_sem]; try rfl) rfl ?_
    exact ⟨by rw [ename_long h], (by repeat' (first | (with_reducible exact Below.refl _ _) | (with_reducible assumption) | (with_reducible refine below_drewN ?_ _) | (with_reducible refine Below.drew ?_) | (with_reducible refine below_new ?_ _) | (with_reducible refine below_next ?_ (by with_reducible assumption)) | (with_reducible refine Below.setCell ?_ ?_ _) | go_size))⟩
end Go.Proofs.YtppjmngnjdeigaaDoor
