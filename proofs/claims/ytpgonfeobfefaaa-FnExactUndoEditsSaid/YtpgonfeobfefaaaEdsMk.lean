/- Edits of the call's own: written into (markEditS), and read again (heldEditS). -/
import Derived.Test.YtpgonfeobfefaaaEdsOwn
import Derived.Deep.DeepCutAuto
namespace Go.Proofs.Ytpgonfeobfefaaa
open Go.ChangeShapes Go.WideShapes Go.ChangeAt Go.RowKit

def w8 (q : Nat) : Int := IntKind.i8.wrap (q : Int)
def w16 (q : Nat) : Int := IntKind.i16.wrap ((q : Int) + 1 + 1)
/-- The edit that is written with the number q. -/
def mkEd (q : Nat) : Ed := ⟨w8 q, mtext (q + 1), w16 q, (q : Int) + 1 + 1 + 1, (q : Int) + 1 + 1 + 1 + 1⟩
/-- The first j edits are marked, from k on. -/
def EdMarked (k j : Nat) (cs : List Ed) : Prop := ∀ l, l < j → edAt cs l = mkEd (k + 5 * l)
theorem edMarked_next {k j : Nat} {cs : List Ed} (h : EdMarked k j cs) (hj : j < cs.length) : EdMarked k (j + 1) (cs.set j (mkEd (k + 5 * j))) := by
  intro l hl
  unfold edAt
  rw [List.getD, List.getElem?_set]
  by_cases e : j = l
  · subst e; simp [hj]
  · rw [if_neg e]; exact h l (by omega)
theorem markText_1 (q : Nat) (h : q + 1 ≤ 4000000) (w : World) : Calls Try.prog 55 #[.int .i64 ((q : Int) + 1)] w fun e w' => e = .returned (.string (mtext (q + 1))) ∧ Below w.heap.size w w' := by
  have := markText_is (q + 1) h w
  rwa [Int.natCast_succ] at this

set_option maxRecDepth 100000 in
set_option maxHeartbeats 3200000 in
theorem markEditsOwn_any (B : Nat) (cs : List Ed) (v : Value) (k : Nat) (w : World) (h : OwnEdits B cs v w) (hk : k + 5 * cs.length ≤ 4000000) :
    Calls Try.prog 13 #[v, .int .i64 (k : Int)] w fun e w' => e = .returned (.int .i64 ((k + 5 * cs.length : Nat) : Int)) ∧ (∃ ds, ds.length = cs.length ∧ EdMarked k ds.length ds ∧ OwnEdits B ds v w') ∧ Below B w w' := by
  obtain ⟨h1, h2⟩ := h
  rcases h2 with ⟨rfl, hz⟩ | ⟨g, cap, cur, rfl, hb, hg, hcap, hmax, hsz, htk⟩
  · have e : cs = [] := List.length_eq_zero_iff.1 hz
    subst e
    go_enter Try.func13, Try.ntmps13
    go_wp2
    refine wp_loop_rounds 1 ?_
    rw [rounds_succ]; go_wp2
    go_ret
    exact ⟨rfl, ⟨[], rfl, fun l hl => absurd hl (Nat.not_lt_zero _), ⟨rfl, .inl ⟨rfl, rfl⟩⟩⟩, Below.refl _ _⟩
  · have O : OwnEdits B cs (.slice (some ⟨g, 0, none⟩) cs.length cap) w := ⟨h1, .inr ⟨g, cap, cur, rfl, hb, hg, hcap, hmax, hsz, htk⟩⟩
    have hgB := Lib.hid hb
    have OW := Lib.hid O
    clear h1 hg hcap hsz htk hmax cur O
    obtain ⟨n, hn⟩ : ∃ n, cs.length = n := ⟨_, rfl⟩
    rw [hn] at hk ⊢
    have NN := Lib.hid hn
    clear hn
    go_enter Try.func13, Try.ntmps13
    go_wp2
    go_loopw [1, 5] (fun q i wr => ∃ (j q0 : Nat) (ds : List Ed), j ≤ n ∧ i = .int .i64 j ∧ q = .int .i64 (q0 : Int) ∧ q0 = k + 5 * j ∧ ds.length = n ∧ EdMarked k j ds ∧ OwnEdits B ds (.slice (some ⟨g, 0, none⟩) ds.length cap) wr ∧ Below B w wr) (fun _ i _ => n - (intOf i).toNat)
    case atStart => exact ⟨0, k, cs, Nat.zero_le _, rfl, rfl, by omega, NN.out, fun l hl => absurd hl (Nat.not_lt_zero _), OW.out, Below.refl _ _⟩
    case round =>
      obtain ⟨j, q0, ds, hj, rfl, rfl, hq, hds, hM, hO, hB⟩ := hrel
      have Q := Lib.hid hq
      have DS := Lib.hid hds
      have MM := Lib.hid hM
      have OO := Lib.hid hO
      have BB := Lib.hid hB
      have gl : g < wr.heap.size := (World.ownsRow.lt hO g rfl).2
      by_cases hkl : j < n
      · have hd : decide ((j : Int) < (n : Int)) = true := by simpa using hkl
        have qb : q0 + 1 ≤ 4000000 := by omega
        have i1 : (0 : Int) ≤ (j : Int) := by omega
        have i2 : (j : Int) < (n : Int) := by omega
        have hjd : j < ds.length := by omega
        have g3 := fled_get ds j hjd
        have r0 := (World.ownsRow.cellAt hO (j * 5) (by omega)).trans g3.1
        have r1 := (World.ownsRow.cellAt hO (j * 5 + 1) (by omega)).trans g3.2.1
        have r2 := (World.ownsRow.cellAt hO (j * 5 + 2) (by omega)).trans g3.2.2.1
        have r3 := (World.ownsRow.cellAt hO (j * 5 + 3) (by omega)).trans g3.2.2.2.1
        have r4 := (World.ownsRow.cellAt hO (j * 5 + 4) (by omega)).trans g3.2.2.2.2
        have fz := fun j => World.ownsRow.frozenAt hO j
        have FZ := Lib.hid fz
        have R1 := Lib.hid r1
        have R2 := Lib.hid r2
        have R3 := Lib.hid r3
        have R4 := Lib.hid r4
        have RR1 := Lib.hid g3.2.1
        have RR2 := Lib.hid g3.2.2.1
        have RR3 := Lib.hid g3.2.2.2.1
        have RR4 := Lib.hid g3.2.2.2.2
        have JD := Lib.hid hjd
        have K := Lib.hid fun W => markText_1 q0 qb W
        have NX := Lib.hid (edMarked_next hM hjd)
        have ST := Lib.hid (fled_set ds j (mkEd (k + 5 * j)))
        have QM := Lib.hid (show mkEd (k + 5 * j) = ⟨w8 q0, mtext (q0 + 1), w16 q0, (q0 : Int) + 1 + 1 + 1, (q0 : Int) + 1 + 1 + 1 + 1⟩ by rw [← hq]; rfl)
        have x1 : IntKind.i64.wrap ((q0 : Int) + 1) = (q0 : Int) + 1 := IntWalk.i64_in _ (by omega)
        have x2 : IntKind.i64.wrap ((q0 : Int) + 1 + 1) = (q0 : Int) + 1 + 1 := IntWalk.i64_in _ (by omega)
        have x3 : IntKind.i64.wrap ((q0 : Int) + 1 + 1 + 1) = (q0 : Int) + 1 + 1 + 1 := IntWalk.i64_in _ (by omega)
        have x6 : IntKind.i64.wrap ((q0 : Int) + 1 + 1 + 1 + 1) = (q0 : Int) + 1 + 1 + 1 + 1 := IntWalk.i64_in _ (by omega)
        have x7 : IntKind.i64.wrap ((q0 : Int) + 1 + 1 + 1 + 1 + 1) = (q0 : Int) + 1 + 1 + 1 + 1 + 1 := IntWalk.i64_in _ (by omega)
        have x4 : IntKind.u64.wrap ((q0 : Int) + 1 + 1 + 1) = (q0 : Int) + 1 + 1 + 1 := IntWalk.u64_in _ (by omega)
        have x5 : IntKind.u64.wrap ((q0 : Int) + 1 + 1 + 1 + 1) = (q0 : Int) + 1 + 1 + 1 + 1 := IntWalk.u64_in _ (by omega)
        have x8 : IntKind.i8.wrap (q0 : Int) = w8 q0 := rfl
        have x9 : IntKind.i16.wrap ((q0 : Int) + 1 + 1) = w16 q0 := rfl
        clear hq hds hM hO hB r1 r2 r3 r4 g3 hjd
        generalize mtext (q0 + 1) = s at *
        generalize w8 q0 = t8 at *
        generalize w16 q0 = t16 at *
        go_wp2_with (go_at_call 55; refine (K.out _).mono ?_; rintro e w2 ⟨rfl, hB⟩; go_loud (have O2 := Lib.hid (owned_below (World.ownsRow.stored OO.out (j * 5) (.int .i8 t8)).1 hB)); go_loud (have B2 := Lib.hid ((BB.out.setCell (p := ⟨g, j * 5, none⟩) hgB.out (.int .i8 t8)).trans (Below.mono hB (by rw [World.size_setCell]; exact Nat.le_trans hgB.out (Nat.le_of_lt gl))))); go_loud (have t1 := (World.ownsRow.cellAt O2.out (j * 5 + 1) (by have := JD.out; omega)).trans ((List.getElem?_set_ne (by omega)).trans RR1.out)); go_loud (have t2 := (World.ownsRow.cellAt O2.out (j * 5 + 2) (by have := JD.out; omega)).trans ((List.getElem?_set_ne (by omega)).trans RR2.out)); go_loud (have t3 := (World.ownsRow.cellAt O2.out (j * 5 + 3) (by have := JD.out; omega)).trans ((List.getElem?_set_ne (by omega)).trans RR3.out)); go_loud (have t4 := (World.ownsRow.cellAt O2.out (j * 5 + 4) (by have := JD.out; omega)).trans ((List.getElem?_set_ne (by omega)).trans RR4.out)); go_loud (have fz2 := fun j => World.ownsRow.frozenAt O2.out j); have g2 : g < w2.heap.size := (World.ownsRow.lt O2.out g rfl).2; clear hB)
        refine wp_loop_rounds 3 ?_
        rw [rounds_succ]; go_wp2
        rw [rounds_succ]; go_wp2
        rw [rounds_succ]; go_wp2
        have s1 := (World.ownsRow.stored O2.out (j * 5 + 1) (.string s)).1
        have s2 := (World.ownsRow.stored s1 (j * 5 + 2) (.int .i16 t16)).1
        have s3 := (World.ownsRow.stored s2 (j * 5 + 3) (.int .u64 ((q0 : Int) + 1 + 1 + 1))).1
        have s4 := (World.ownsRow.stored s3 (j * 5 + 4) (.int .u64 ((q0 : Int) + 1 + 1 + 1 + 1))).1
        have st := ST.out
        have nx := NX.out
        rw [QM.out] at st nx
        simp only at st
        rw [st] at s4
        refine ⟨⟨j + 1, q0 + 5, _, hkl, by rw [Int.natCast_succ], by rw [show ((q0 + 5 : Nat) : Int) = (q0 : Int) + 1 + 1 + 1 + 1 + 1 by omega], by have := Q.out; omega, by rw [List.length_set]; exact DS.out, nx, ?_, ((((B2.out.setCell hgB.out _).setCell hgB.out _).setCell hgB.out _).setCell hgB.out _)⟩, by (simp [intOf]) <;> omega⟩
        unfold OwnEdits
        rw [List.length_set]
        exact s4
      · have e : j = n := by omega
        subst e
        have hd : decide ((j : Int) < (j : Int)) = false := by simp
        clear hds hM hO hB
        have hq2 := hq
        subst hq2
        clear hq
        go_wp2
        go_ret
        exact ⟨rfl, ⟨ds, DS.out, by rw [DS.out]; exact MM.out, by have := OO.out; rw [DS.out] at this; exact this⟩, BB.out⟩
end Go.Proofs.Ytpgonfeobfefaaa
