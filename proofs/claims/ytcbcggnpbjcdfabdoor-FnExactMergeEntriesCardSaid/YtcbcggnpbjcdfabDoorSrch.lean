/- Contracts: a search in a catalogue that recovers what panics with an entry that is none. -/
import Derived.Test.YtcbcggnpbjcdfabDoorCatV
import Derived.Defers
import Derived.Recover
import Derived.Laws.Pointers
namespace Go.Proofs.YtcbcggnpbjcdfabDoor
open Go.ChangeShapes Go.WideShapes Go.ChangeAt Go.RowKit

/-- A panic with an entry that is none. -/
def Missing (x : Int) : Ending := .panicked [{ v := .iface 136 (.int .i64 x), recovered := false }]

theorem catch_idle_i (p : Addr) (w : World) :
    CallsD Tryd.prog 143 #[.pointer (some p)] .returning w fun e u' w' => e = .returned (.tuple #[]) ∧ u' = .returning ∧ w' = w := by
  have ta : ∀ w : World, (Instr.typeAssert .nilIface 20 133 true).run Tryd.prog w = .ok (.tuple #[.nilIface, .bool false]) w := fun _ => by kernel_rfl
  refine callsD_of_wpS Tryd.func143 rfl fun c₀ cs hu => ?_
  apply wpS_seq
  apply wpS_region
  simp [wpOpsS, go_sem, recoverD, hu, Tryd.ntmps143, Exit.thenS, ta]
  simp only [Array.replicate_succ, Array.replicate_zero, List.push_toArray, List.append_toArray, List.nil_append, List.cons_append, List.setIfInBounds_toArray, List.set_cons_succ, List.set_cons_zero]
  refine wpS_of_wp ?_
  go_wp2
  cases c₀
  simp_all [bodyPostS, results, Tryd.results143]
theorem catch_missing_i (p : Addr) (x y : Int) (w : World) (hc : w.cell? p = some (.int .i64 y)) (hz : w.frozen? p = false) :
    CallsD Tryd.prog 143 #[.pointer (some p)] (.panicking [{ v := .iface 136 (.int .i64 x), recovered := false }]) w fun e u' w' =>
      e = .returned (.tuple #[]) ∧ u' = .panicking [{ v := .iface 136 (.int .i64 x), recovered := true }] ∧ w' = w.setCell p (.int .i64 2) := by
  have ta : ∀ w : World, (Instr.typeAssert (.iface 136 (.int .i64 x)) 20 133 true).run Tryd.prog w = .ok (.tuple #[.iface 136 (.int .i64 x), .bool true]) w := fun _ => by kernel_rfl
  refine callsD_of_wpS Tryd.func143 rfl fun c₀ cs hu => ?_
  apply wpS_seq
  apply wpS_region
  simp [wpOpsS, go_sem, recoverD, hu, Tryd.ntmps143, Exit.thenS, ta]
  simp only [Array.replicate_succ, Array.replicate_zero, List.push_toArray, List.append_toArray, List.nil_append, List.cons_append, List.setIfInBounds_toArray, List.set_cons_succ, List.set_cons_zero]
  refine wpS_of_wp ?_
  go_wp2_with (go_invoke; go_simp; go_at_call 205; go_in)
  cases c₀
  simp_all [bodyPostS, results, Tryd.results143]

set_option maxHeartbeats 1600000 in
theorem search_bad_i (ad : Option Addr) (cs : List Et) (c : Nat) (fv : Value) (w : World) (hc : EntsIn w ad cs) (hv : catOk cs = false) :
    Calls Tryd.prog 98 #[.slice ad cs.length c, fv] w fun e w' => e = .returned (.tuple #[.int .i64 0, .int .i64 1]) ∧ Below w.heap.size w w' := by
  have b0 := Lib.hid (below_new (Below.refl w.heap.size w) (.cells #[.int .i64 0] 2))
  have V := iCat_any ad cs c _ (entsIn_below hc b0.out)
  rw [hv] at V
  have V := Lib.hid V
  clear hc hv
  go_enter_defers Tryd.func98, Tryd.ntmps98
  go_wp2_with (go_at_call 49; refine V.out.mono ?_; rintro e w1 ⟨rfl, hB⟩; have b1 := Lib.hid (b0.out.trans (Below.mono hB b0.out.size)); have k0 : w1.cell? ⟨w.heap.size, 0, none⟩ = some (.int .i64 0) := (hB.cell (p := ⟨w.heap.size, 0, none⟩) (by simp)).trans (by simp); have f0 : w1.frozen? ⟨w.heap.size, 0, none⟩ = false := (hB.frozen (p := ⟨w.heap.size, 0, none⟩) (by simp)).trans (by simp); clear hB)
  have e1 : (w1.setCell ⟨w.heap.size, 0, none⟩ (.int .i64 1)).cell? ⟨w.heap.size, 0, none⟩ = some (.int .i64 1) := World.cell?_setCell_same' _ _ _ (by rw [k0]; rfl)
  exact ⟨.tuple #[.int .i64 0, .int .i64 1], by simp [results, Tryd.results98, go_sem, e1], rfl, b1.out.setCell (p := ⟨w.heap.size, 0, none⟩) (Nat.le_refl _) _⟩

set_option maxHeartbeats 1600000 in
theorem search_missing_i (ad : Option Addr) (cs : List Et) (c g : Nat) (lb : Array Value) (x : Int) (w : World) (hc : EntsIn w ad cs) (hv : catOk cs = true) (eg : ∀ args w, (callFunc g args).run Tryd.prog w = .ok (.enter g args) w)
    (hf : ∀ W, Below w.heap.size w W → EntsIn W ad cs → Calls Tryd.prog g (#[.slice ad cs.length c] ++ lb) W fun e w' => e = Missing x ∧ Below W.heap.size W w') :
    Calls Tryd.prog 98 #[.slice ad cs.length c, .func (.func g) #[] lb] w fun e w' => e = .returned (.tuple #[.int .i64 0, .int .i64 2]) ∧ Below w.heap.size w w' := by
  have hmf : ∀ (fn : Fn) (first cap : Array Value) (w : World), (Instr.makeFunc fn first cap).run Tryd.prog w = .ok (.func fn first cap) w := fun _ _ _ _ => rfl
  have b0 := Lib.hid (below_new (Below.refl w.heap.size w) (.cells #[.int .i64 0] 2))
  have V := iCat_any ad cs c _ (entsIn_below hc b0.out)
  rw [hv] at V
  have V := Lib.hid V
  have C := Lib.hid hc
  have HF := Lib.hid hf
  clear hc hv hf
  unfold Missing at HF
  go_enter_defers Tryd.func98, Tryd.ntmps98
  go_wp2_with (first
    | (go_at_call 49; refine V.out.mono ?_; rintro e w1 ⟨rfl, hB⟩; have b1 := Lib.hid (b0.out.trans (Below.mono hB b0.out.size)); have k0 : w1.cell? ⟨w.heap.size, 0, none⟩ = some (.int .i64 0) := (hB.cell (p := ⟨w.heap.size, 0, none⟩) (by simp)).trans (by simp); have f0 : w1.frozen? ⟨w.heap.size, 0, none⟩ = false := (hB.frozen (p := ⟨w.heap.size, 0, none⟩) (by simp)).trans (by simp); have s1 := hB.size; simp at s1; clear hB)
    | (go_at_fn g; refine (HF.out _ b1.out (entsIn_below C.out b1.out)).mono ?_; rintro e w2 ⟨rfl, hB⟩; have b2 := Lib.hid (b1.out.trans (Below.mono hB b1.out.size)); have k2 := (hB.cell (p := ⟨w.heap.size, 0, none⟩) (by simp; omega)).trans k0; have f2 := (hB.frozen (p := ⟨w.heap.size, 0, none⟩) (by simp; omega)).trans f0; clear hB))
  have e1 : (w2.setCell ⟨w.heap.size, 0, none⟩ (.int .i64 2)).cell? ⟨w.heap.size, 0, none⟩ = some (.int .i64 2) := World.cell?_setCell_same' _ _ _ (by rw [k2]; rfl)
  refine leaves_cons (f := 143) (args := #[.pointer (some ⟨w.heap.size, 0, none⟩)]) (by simp) (by simp [go_sem]) ?_
  refine (catch_missing_i ⟨w.heap.size, 0, none⟩ x 0 w2 k2 f2).mono ?_
  rintro e u' w3 ⟨rfl, rfl, rfl⟩
  exact ⟨.tuple #[.int .i64 0, .int .i64 2], by simp [results, Tryd.results98, go_sem, e1], rfl, b2.out.setCell (p := ⟨w.heap.size, 0, none⟩) (Nat.le_refl _) _⟩

set_option maxHeartbeats 1600000 in
theorem search_ok_i (ad : Option Addr) (cs : List Et) (c g : Nat) (lb : Array Value) (w : World) (hc : EntsIn w ad cs) (hv : catOk cs = true) (eg : ∀ args w, (callFunc g args).run Tryd.prog w = .ok (.enter g args) w)
    (Q : Value → Int → World → Prop) (hQs : ∀ v n W u, Q v n W → Q v n (W.setCell ⟨w.heap.size, 0, none⟩ u))
    (hf : ∀ W, Below w.heap.size w W → w.heap.size < W.heap.size → EntsIn W ad cs → Calls Tryd.prog g (#[.slice ad cs.length c] ++ lb) W fun e w' => ∃ v n, e = .returned (.tuple #[v, .int .i64 n]) ∧ Q v n w' ∧ Below W.heap.size W w') :
    Calls Tryd.prog 98 #[.slice ad cs.length c, .func (.func g) #[] lb] w fun e w' => ∃ v n, e = .returned (.tuple #[v, .int .i64 n]) ∧ Q v n w' ∧ Below w.heap.size w w' := by
  have hmf : ∀ (fn : Fn) (first cap : Array Value) (w : World), (Instr.makeFunc fn first cap).run Tryd.prog w = .ok (.func fn first cap) w := fun _ _ _ _ => rfl
  have b0 := Lib.hid (below_new (Below.refl w.heap.size w) (.cells #[.int .i64 0] 2))
  have V := iCat_any ad cs c _ (entsIn_below hc b0.out)
  rw [hv] at V
  have V := Lib.hid V
  have C := Lib.hid hc
  have HF := Lib.hid hf
  have QS := Lib.hid hQs
  clear hc hv hf hQs
  go_enter_defers Tryd.func98, Tryd.ntmps98
  go_wp2_with (first
    | (go_at_call 49; refine V.out.mono ?_; rintro e w1 ⟨rfl, hB⟩; have b1 := Lib.hid (b0.out.trans (Below.mono hB b0.out.size)); have k0 : w1.cell? ⟨w.heap.size, 0, none⟩ = some (.int .i64 0) := (hB.cell (p := ⟨w.heap.size, 0, none⟩) (by simp)).trans (by simp); have f0 : w1.frozen? ⟨w.heap.size, 0, none⟩ = false := (hB.frozen (p := ⟨w.heap.size, 0, none⟩) (by simp)).trans (by simp); have s1 := hB.size; simp at s1; clear hB)
    | (go_at_fn g; refine (HF.out _ b1.out (by omega) (entsIn_below C.out b1.out)).mono ?_; rintro e w2 ⟨v, n, rfl, hq, hB⟩; have b2 := Lib.hid (b1.out.trans (Below.mono hB b1.out.size)); have QQ := Lib.hid hq; have k2 := (hB.cell (p := ⟨w.heap.size, 0, none⟩) (by simp; omega)).trans k0; have f2 := (hB.frozen (p := ⟨w.heap.size, 0, none⟩) (by simp; omega)).trans f0; clear hB hq))
  have e1 : (w2.setCell ⟨w.heap.size, 0, none⟩ (.int .i64 n)).cell? ⟨w.heap.size, 0, none⟩ = some (.int .i64 n) := World.cell?_setCell_same' _ _ _ (by rw [k2]; rfl)
  refine leaves_cons (f := 143) (args := #[.pointer (some ⟨w.heap.size, 0, none⟩)]) (by simp) (by simp [go_sem]) ?_
  refine (catch_idle_i ⟨w.heap.size, 0, none⟩ _).mono ?_
  rintro e u' w3 ⟨rfl, rfl, rfl⟩
  exact ⟨.tuple #[v, .int .i64 n], by simp [results, Tryd.results98, go_sem, e1], v, n, rfl, QS.out v n w2 _ QQ.out, b2.out.setCell (p := ⟨w.heap.size, 0, none⟩) (Nat.le_refl _) _⟩

theorem catch_idle_s (p : Addr) (w : World) :
    CallsD Tryd.prog 144 #[.pointer (some p)] .returning w fun e u' w' => e = .returned (.tuple #[]) ∧ u' = .returning ∧ w' = w := by
  have ta : ∀ w : World, (Instr.typeAssert .nilIface 20 133 true).run Tryd.prog w = .ok (.tuple #[.nilIface, .bool false]) w := fun _ => by kernel_rfl
  refine callsD_of_wpS Tryd.func144 rfl fun c₀ cs hu => ?_
  apply wpS_seq
  apply wpS_region
  simp [wpOpsS, go_sem, recoverD, hu, Tryd.ntmps144, Exit.thenS, ta]
  simp only [Array.replicate_succ, Array.replicate_zero, List.push_toArray, List.append_toArray, List.nil_append, List.cons_append, List.setIfInBounds_toArray, List.set_cons_succ, List.set_cons_zero]
  refine wpS_of_wp ?_
  go_wp2
  cases c₀
  simp_all [bodyPostS, results, Tryd.results144]
theorem catch_missing_s (p : Addr) (x y : Int) (w : World) (hc : w.cell? p = some (.int .i64 y)) (hz : w.frozen? p = false) :
    CallsD Tryd.prog 144 #[.pointer (some p)] (.panicking [{ v := .iface 136 (.int .i64 x), recovered := false }]) w fun e u' w' =>
      e = .returned (.tuple #[]) ∧ u' = .panicking [{ v := .iface 136 (.int .i64 x), recovered := true }] ∧ w' = w.setCell p (.int .i64 2) := by
  have ta : ∀ w : World, (Instr.typeAssert (.iface 136 (.int .i64 x)) 20 133 true).run Tryd.prog w = .ok (.tuple #[.iface 136 (.int .i64 x), .bool true]) w := fun _ => by kernel_rfl
  refine callsD_of_wpS Tryd.func144 rfl fun c₀ cs hu => ?_
  apply wpS_seq
  apply wpS_region
  simp [wpOpsS, go_sem, recoverD, hu, Tryd.ntmps144, Exit.thenS, ta]
  simp only [Array.replicate_succ, Array.replicate_zero, List.push_toArray, List.append_toArray, List.nil_append, List.cons_append, List.setIfInBounds_toArray, List.set_cons_succ, List.set_cons_zero]
  refine wpS_of_wp ?_
  go_wp2_with (go_invoke; go_simp; go_at_call 205; go_in)
  cases c₀
  simp_all [bodyPostS, results, Tryd.results144]

set_option maxHeartbeats 1600000 in
theorem search_bad_s (ad : Option Addr) (cs : List Et) (c : Nat) (fv : Value) (w : World) (hc : EntsIn w ad cs) (hv : catOk cs = false) :
    Calls Tryd.prog 102 #[.slice ad cs.length c, fv] w fun e w' => e = .returned (.tuple #[.slice none 0 0, .int .i64 1]) ∧ Below w.heap.size w w' := by
  have b0 := Lib.hid (below_new (Below.refl w.heap.size w) (.cells #[.int .i64 0] 2))
  have V := iCat_any ad cs c _ (entsIn_below hc b0.out)
  rw [hv] at V
  have V := Lib.hid V
  clear hc hv
  go_enter_defers Tryd.func102, Tryd.ntmps102
  go_wp2_with (go_at_call 49; refine V.out.mono ?_; rintro e w1 ⟨rfl, hB⟩; have b1 := Lib.hid (b0.out.trans (Below.mono hB b0.out.size)); have k0 : w1.cell? ⟨w.heap.size, 0, none⟩ = some (.int .i64 0) := (hB.cell (p := ⟨w.heap.size, 0, none⟩) (by simp)).trans (by simp); have f0 : w1.frozen? ⟨w.heap.size, 0, none⟩ = false := (hB.frozen (p := ⟨w.heap.size, 0, none⟩) (by simp)).trans (by simp); clear hB)
  have e1 : (w1.setCell ⟨w.heap.size, 0, none⟩ (.int .i64 1)).cell? ⟨w.heap.size, 0, none⟩ = some (.int .i64 1) := World.cell?_setCell_same' _ _ _ (by rw [k0]; rfl)
  exact ⟨.tuple #[.slice none 0 0, .int .i64 1], by simp [results, Tryd.results102, go_sem, e1], rfl, b1.out.setCell (p := ⟨w.heap.size, 0, none⟩) (Nat.le_refl _) _⟩

set_option maxHeartbeats 1600000 in
theorem search_missing_s (ad : Option Addr) (cs : List Et) (c g : Nat) (lb : Array Value) (x : Int) (w : World) (hc : EntsIn w ad cs) (hv : catOk cs = true) (eg : ∀ args w, (callFunc g args).run Tryd.prog w = .ok (.enter g args) w)
    (hf : ∀ W, Below w.heap.size w W → EntsIn W ad cs → Calls Tryd.prog g (#[.slice ad cs.length c] ++ lb) W fun e w' => e = Missing x ∧ Below W.heap.size W w') :
    Calls Tryd.prog 102 #[.slice ad cs.length c, .func (.func g) #[] lb] w fun e w' => e = .returned (.tuple #[.slice none 0 0, .int .i64 2]) ∧ Below w.heap.size w w' := by
  have hmf : ∀ (fn : Fn) (first cap : Array Value) (w : World), (Instr.makeFunc fn first cap).run Tryd.prog w = .ok (.func fn first cap) w := fun _ _ _ _ => rfl
  have b0 := Lib.hid (below_new (Below.refl w.heap.size w) (.cells #[.int .i64 0] 2))
  have V := iCat_any ad cs c _ (entsIn_below hc b0.out)
  rw [hv] at V
  have V := Lib.hid V
  have C := Lib.hid hc
  have HF := Lib.hid hf
  clear hc hv hf
  unfold Missing at HF
  go_enter_defers Tryd.func102, Tryd.ntmps102
  go_wp2_with (first
    | (go_at_call 49; refine V.out.mono ?_; rintro e w1 ⟨rfl, hB⟩; have b1 := Lib.hid (b0.out.trans (Below.mono hB b0.out.size)); have k0 : w1.cell? ⟨w.heap.size, 0, none⟩ = some (.int .i64 0) := (hB.cell (p := ⟨w.heap.size, 0, none⟩) (by simp)).trans (by simp); have f0 : w1.frozen? ⟨w.heap.size, 0, none⟩ = false := (hB.frozen (p := ⟨w.heap.size, 0, none⟩) (by simp)).trans (by simp); have s1 := hB.size; simp at s1; clear hB)
    | (go_at_fn g; refine (HF.out _ b1.out (entsIn_below C.out b1.out)).mono ?_; rintro e w2 ⟨rfl, hB⟩; have b2 := Lib.hid (b1.out.trans (Below.mono hB b1.out.size)); have k2 := (hB.cell (p := ⟨w.heap.size, 0, none⟩) (by simp; omega)).trans k0; have f2 := (hB.frozen (p := ⟨w.heap.size, 0, none⟩) (by simp; omega)).trans f0; clear hB))
  have e1 : (w2.setCell ⟨w.heap.size, 0, none⟩ (.int .i64 2)).cell? ⟨w.heap.size, 0, none⟩ = some (.int .i64 2) := World.cell?_setCell_same' _ _ _ (by rw [k2]; rfl)
  refine leaves_cons (f := 144) (args := #[.pointer (some ⟨w.heap.size, 0, none⟩)]) (by simp) (by simp [go_sem]) ?_
  refine (catch_missing_s ⟨w.heap.size, 0, none⟩ x 0 w2 k2 f2).mono ?_
  rintro e u' w3 ⟨rfl, rfl, rfl⟩
  exact ⟨.tuple #[.slice none 0 0, .int .i64 2], by simp [results, Tryd.results102, go_sem, e1], rfl, b2.out.setCell (p := ⟨w.heap.size, 0, none⟩) (Nat.le_refl _) _⟩

set_option maxHeartbeats 1600000 in
theorem search_ok_s (ad : Option Addr) (cs : List Et) (c g : Nat) (lb : Array Value) (w : World) (hc : EntsIn w ad cs) (hv : catOk cs = true) (eg : ∀ args w, (callFunc g args).run Tryd.prog w = .ok (.enter g args) w)
    (Q : Value → Int → World → Prop) (hQs : ∀ v n W u, Q v n W → Q v n (W.setCell ⟨w.heap.size, 0, none⟩ u))
    (hf : ∀ W, Below w.heap.size w W → w.heap.size < W.heap.size → EntsIn W ad cs → Calls Tryd.prog g (#[.slice ad cs.length c] ++ lb) W fun e w' => ∃ v n, e = .returned (.tuple #[v, .int .i64 n]) ∧ Q v n w' ∧ Below W.heap.size W w') :
    Calls Tryd.prog 102 #[.slice ad cs.length c, .func (.func g) #[] lb] w fun e w' => ∃ v n, e = .returned (.tuple #[v, .int .i64 n]) ∧ Q v n w' ∧ Below w.heap.size w w' := by
  have hmf : ∀ (fn : Fn) (first cap : Array Value) (w : World), (Instr.makeFunc fn first cap).run Tryd.prog w = .ok (.func fn first cap) w := fun _ _ _ _ => rfl
  have b0 := Lib.hid (below_new (Below.refl w.heap.size w) (.cells #[.int .i64 0] 2))
  have V := iCat_any ad cs c _ (entsIn_below hc b0.out)
  rw [hv] at V
  have V := Lib.hid V
  have C := Lib.hid hc
  have HF := Lib.hid hf
  have QS := Lib.hid hQs
  clear hc hv hf hQs
  go_enter_defers Tryd.func102, Tryd.ntmps102
  go_wp2_with (first
    | (go_at_call 49; refine V.out.mono ?_; rintro e w1 ⟨rfl, hB⟩; have b1 := Lib.hid (b0.out.trans (Below.mono hB b0.out.size)); have k0 : w1.cell? ⟨w.heap.size, 0, none⟩ = some (.int .i64 0) := (hB.cell (p := ⟨w.heap.size, 0, none⟩) (by simp)).trans (by simp); have f0 : w1.frozen? ⟨w.heap.size, 0, none⟩ = false := (hB.frozen (p := ⟨w.heap.size, 0, none⟩) (by simp)).trans (by simp); have s1 := hB.size; simp at s1; clear hB)
    | (go_at_fn g; refine (HF.out _ b1.out (by omega) (entsIn_below C.out b1.out)).mono ?_; rintro e w2 ⟨v, n, rfl, hq, hB⟩; have b2 := Lib.hid (b1.out.trans (Below.mono hB b1.out.size)); have QQ := Lib.hid hq; have k2 := (hB.cell (p := ⟨w.heap.size, 0, none⟩) (by simp; omega)).trans k0; have f2 := (hB.frozen (p := ⟨w.heap.size, 0, none⟩) (by simp; omega)).trans f0; clear hB hq))
  have e1 : (w2.setCell ⟨w.heap.size, 0, none⟩ (.int .i64 n)).cell? ⟨w.heap.size, 0, none⟩ = some (.int .i64 n) := World.cell?_setCell_same' _ _ _ (by rw [k2]; rfl)
  refine leaves_cons (f := 144) (args := #[.pointer (some ⟨w.heap.size, 0, none⟩)]) (by simp) (by simp [go_sem]) ?_
  refine (catch_idle_s ⟨w.heap.size, 0, none⟩ _).mono ?_
  rintro e u' w3 ⟨rfl, rfl, rfl⟩
  exact ⟨.tuple #[v, .int .i64 n], by simp [results, Tryd.results102, go_sem, e1], v, n, rfl, QS.out v n w2 _ QQ.out, b2.out.setCell (p := ⟨w.heap.size, 0, none⟩) (Nat.le_refl _) _⟩

theorem catch_idle_e (p : Addr) (w : World) :
    CallsD Tryd.prog 119 #[.pointer (some p)] .returning w fun e u' w' => e = .returned (.tuple #[]) ∧ u' = .returning ∧ w' = w := by
  have ta : ∀ w : World, (Instr.typeAssert .nilIface 20 133 true).run Tryd.prog w = .ok (.tuple #[.nilIface, .bool false]) w := fun _ => by kernel_rfl
  refine callsD_of_wpS Tryd.func119 rfl fun c₀ cs hu => ?_
  apply wpS_seq
  apply wpS_region
  simp [wpOpsS, go_sem, recoverD, hu, Tryd.ntmps119, Exit.thenS, ta]
  simp only [Array.replicate_succ, Array.replicate_zero, List.push_toArray, List.append_toArray, List.nil_append, List.cons_append, List.setIfInBounds_toArray, List.set_cons_succ, List.set_cons_zero]
  refine wpS_of_wp ?_
  go_wp2
  cases c₀
  simp_all [bodyPostS, results, Tryd.results119]
theorem catch_missing_e (p : Addr) (x y : Int) (w : World) (hc : w.cell? p = some (.int .i64 y)) (hz : w.frozen? p = false) :
    CallsD Tryd.prog 119 #[.pointer (some p)] (.panicking [{ v := .iface 136 (.int .i64 x), recovered := false }]) w fun e u' w' =>
      e = .returned (.tuple #[]) ∧ u' = .panicking [{ v := .iface 136 (.int .i64 x), recovered := true }] ∧ w' = w.setCell p (.int .i64 2) := by
  have ta : ∀ w : World, (Instr.typeAssert (.iface 136 (.int .i64 x)) 20 133 true).run Tryd.prog w = .ok (.tuple #[.iface 136 (.int .i64 x), .bool true]) w := fun _ => by kernel_rfl
  refine callsD_of_wpS Tryd.func119 rfl fun c₀ cs hu => ?_
  apply wpS_seq
  apply wpS_region
  simp [wpOpsS, go_sem, recoverD, hu, Tryd.ntmps119, Exit.thenS, ta]
  simp only [Array.replicate_succ, Array.replicate_zero, List.push_toArray, List.append_toArray, List.nil_append, List.cons_append, List.setIfInBounds_toArray, List.set_cons_succ, List.set_cons_zero]
  refine wpS_of_wp ?_
  go_wp2_with (go_invoke; go_simp; go_at_call 205; go_in)
  cases c₀
  simp_all [bodyPostS, results, Tryd.results119]

set_option maxHeartbeats 1600000 in
theorem search_bad_e (ad : Option Addr) (cs : List Et) (c : Nat) (fv : Value) (w : World) (hc : EntsIn w ad cs) (hv : catOk cs = false) :
    Calls Tryd.prog 62 #[.slice ad cs.length c, fv] w fun e w' => e = .returned (.tuple #[.slice none 0 0, .int .i64 1]) ∧ Below w.heap.size w w' := by
  have b0 := Lib.hid (below_new (Below.refl w.heap.size w) (.cells #[.int .i64 0] 2))
  have V := iCat_any ad cs c _ (entsIn_below hc b0.out)
  rw [hv] at V
  have V := Lib.hid V
  clear hc hv
  go_enter_defers Tryd.func62, Tryd.ntmps62
  go_wp2_with (go_at_call 49; refine V.out.mono ?_; rintro e w1 ⟨rfl, hB⟩; have b1 := Lib.hid (b0.out.trans (Below.mono hB b0.out.size)); have k0 : w1.cell? ⟨w.heap.size, 0, none⟩ = some (.int .i64 0) := (hB.cell (p := ⟨w.heap.size, 0, none⟩) (by simp)).trans (by simp); have f0 : w1.frozen? ⟨w.heap.size, 0, none⟩ = false := (hB.frozen (p := ⟨w.heap.size, 0, none⟩) (by simp)).trans (by simp); clear hB)
  have e1 : (w1.setCell ⟨w.heap.size, 0, none⟩ (.int .i64 1)).cell? ⟨w.heap.size, 0, none⟩ = some (.int .i64 1) := World.cell?_setCell_same' _ _ _ (by rw [k0]; rfl)
  exact ⟨.tuple #[.slice none 0 0, .int .i64 1], by simp [results, Tryd.results62, go_sem, e1], rfl, b1.out.setCell (p := ⟨w.heap.size, 0, none⟩) (Nat.le_refl _) _⟩

set_option maxHeartbeats 1600000 in
theorem search_missing_e (ad : Option Addr) (cs : List Et) (c g : Nat) (lb : Array Value) (x : Int) (w : World) (hc : EntsIn w ad cs) (hv : catOk cs = true) (eg : ∀ args w, (callFunc g args).run Tryd.prog w = .ok (.enter g args) w)
    (hf : ∀ W, Below w.heap.size w W → EntsIn W ad cs → Calls Tryd.prog g (#[.slice ad cs.length c] ++ lb) W fun e w' => e = Missing x ∧ Below W.heap.size W w') :
    Calls Tryd.prog 62 #[.slice ad cs.length c, .func (.func g) #[] lb] w fun e w' => e = .returned (.tuple #[.slice none 0 0, .int .i64 2]) ∧ Below w.heap.size w w' := by
  have hmf : ∀ (fn : Fn) (first cap : Array Value) (w : World), (Instr.makeFunc fn first cap).run Tryd.prog w = .ok (.func fn first cap) w := fun _ _ _ _ => rfl
  have b0 := Lib.hid (below_new (Below.refl w.heap.size w) (.cells #[.int .i64 0] 2))
  have V := iCat_any ad cs c _ (entsIn_below hc b0.out)
  rw [hv] at V
  have V := Lib.hid V
  have C := Lib.hid hc
  have HF := Lib.hid hf
  clear hc hv hf
  unfold Missing at HF
  go_enter_defers Tryd.func62, Tryd.ntmps62
  go_wp2_with (first
    | (go_at_call 49; refine V.out.mono ?_; rintro e w1 ⟨rfl, hB⟩; have b1 := Lib.hid (b0.out.trans (Below.mono hB b0.out.size)); have k0 : w1.cell? ⟨w.heap.size, 0, none⟩ = some (.int .i64 0) := (hB.cell (p := ⟨w.heap.size, 0, none⟩) (by simp)).trans (by simp); have f0 : w1.frozen? ⟨w.heap.size, 0, none⟩ = false := (hB.frozen (p := ⟨w.heap.size, 0, none⟩) (by simp)).trans (by simp); have s1 := hB.size; simp at s1; clear hB)
    | (go_at_fn g; refine (HF.out _ b1.out (entsIn_below C.out b1.out)).mono ?_; rintro e w2 ⟨rfl, hB⟩; have b2 := Lib.hid (b1.out.trans (Below.mono hB b1.out.size)); have k2 := (hB.cell (p := ⟨w.heap.size, 0, none⟩) (by simp; omega)).trans k0; have f2 := (hB.frozen (p := ⟨w.heap.size, 0, none⟩) (by simp; omega)).trans f0; clear hB))
  have e1 : (w2.setCell ⟨w.heap.size, 0, none⟩ (.int .i64 2)).cell? ⟨w.heap.size, 0, none⟩ = some (.int .i64 2) := World.cell?_setCell_same' _ _ _ (by rw [k2]; rfl)
  refine leaves_cons (f := 119) (args := #[.pointer (some ⟨w.heap.size, 0, none⟩)]) (by simp) (by simp [go_sem]) ?_
  refine (catch_missing_e ⟨w.heap.size, 0, none⟩ x 0 w2 k2 f2).mono ?_
  rintro e u' w3 ⟨rfl, rfl, rfl⟩
  exact ⟨.tuple #[.slice none 0 0, .int .i64 2], by simp [results, Tryd.results62, go_sem, e1], rfl, b2.out.setCell (p := ⟨w.heap.size, 0, none⟩) (Nat.le_refl _) _⟩

set_option maxHeartbeats 1600000 in
theorem search_ok_e (ad : Option Addr) (cs : List Et) (c g : Nat) (lb : Array Value) (w : World) (hc : EntsIn w ad cs) (hv : catOk cs = true) (eg : ∀ args w, (callFunc g args).run Tryd.prog w = .ok (.enter g args) w)
    (Q : Value → Int → World → Prop) (hQs : ∀ v n W u, Q v n W → Q v n (W.setCell ⟨w.heap.size, 0, none⟩ u))
    (hf : ∀ W, Below w.heap.size w W → w.heap.size < W.heap.size → EntsIn W ad cs → Calls Tryd.prog g (#[.slice ad cs.length c] ++ lb) W fun e w' => ∃ v n, e = .returned (.tuple #[v, .int .i64 n]) ∧ Q v n w' ∧ Below W.heap.size W w') :
    Calls Tryd.prog 62 #[.slice ad cs.length c, .func (.func g) #[] lb] w fun e w' => ∃ v n, e = .returned (.tuple #[v, .int .i64 n]) ∧ Q v n w' ∧ Below w.heap.size w w' := by
  have hmf : ∀ (fn : Fn) (first cap : Array Value) (w : World), (Instr.makeFunc fn first cap).run Tryd.prog w = .ok (.func fn first cap) w := fun _ _ _ _ => rfl
  have b0 := Lib.hid (below_new (Below.refl w.heap.size w) (.cells #[.int .i64 0] 2))
  have V := iCat_any ad cs c _ (entsIn_below hc b0.out)
  rw [hv] at V
  have V := Lib.hid V
  have C := Lib.hid hc
  have HF := Lib.hid hf
  have QS := Lib.hid hQs
  clear hc hv hf hQs
  go_enter_defers Tryd.func62, Tryd.ntmps62
  go_wp2_with (first
    | (go_at_call 49; refine V.out.mono ?_; rintro e w1 ⟨rfl, hB⟩; have b1 := Lib.hid (b0.out.trans (Below.mono hB b0.out.size)); have k0 : w1.cell? ⟨w.heap.size, 0, none⟩ = some (.int .i64 0) := (hB.cell (p := ⟨w.heap.size, 0, none⟩) (by simp)).trans (by simp); have f0 : w1.frozen? ⟨w.heap.size, 0, none⟩ = false := (hB.frozen (p := ⟨w.heap.size, 0, none⟩) (by simp)).trans (by simp); have s1 := hB.size; simp at s1; clear hB)
    | (go_at_fn g; refine (HF.out _ b1.out (by omega) (entsIn_below C.out b1.out)).mono ?_; rintro e w2 ⟨v, n, rfl, hq, hB⟩; have b2 := Lib.hid (b1.out.trans (Below.mono hB b1.out.size)); have QQ := Lib.hid hq; have k2 := (hB.cell (p := ⟨w.heap.size, 0, none⟩) (by simp; omega)).trans k0; have f2 := (hB.frozen (p := ⟨w.heap.size, 0, none⟩) (by simp; omega)).trans f0; clear hB hq))
  have e1 : (w2.setCell ⟨w.heap.size, 0, none⟩ (.int .i64 n)).cell? ⟨w.heap.size, 0, none⟩ = some (.int .i64 n) := World.cell?_setCell_same' _ _ _ (by rw [k2]; rfl)
  refine leaves_cons (f := 119) (args := #[.pointer (some ⟨w.heap.size, 0, none⟩)]) (by simp) (by simp [go_sem]) ?_
  refine (catch_idle_e ⟨w.heap.size, 0, none⟩ _).mono ?_
  rintro e u' w3 ⟨rfl, rfl, rfl⟩
  exact ⟨.tuple #[v, .int .i64 n], by simp [results, Tryd.results62, go_sem, e1], v, n, rfl, QS.out v n w2 _ QQ.out, b2.out.setCell (p := ⟨w.heap.size, 0, none⟩) (Nat.le_refl _) _⟩

end Go.Proofs.YtcbcggnpbjcdfabDoor
