/- Several texts in one, as a claim has at most 60 files: EdsMk EdMa SzC2 SzE2. -/
import Derived.Test.YtpgonfeobfefaaaDoorEdsOwn
import Derived.Deep.DeepCutAuto
import Derived.Test.YtpgonfeobfefaaaDoorDeck
import Derived.Test.YtpgonfeobfefaaaDoorOth
import Derived.Test.YtpgonfeobfefaaaDoorEds2
namespace Go.Proofs.YtpgonfeobfefaaaDoor
open Go.ChangeShapes Go.WideShapes Go.ChangeAt Go.RowKit

def w8 (q : Nat) : Int := IntKind.i8.wrap (q : Int)
def w16 (q : Nat) : Int := IntKind.i16.wrap ((q : Int) + 1 + 1)
/-- The edit that is written with the number q. -/
def mkEd (q : Nat) : Ed := ⟨w8 q, mtext (q + 1), w16 q, (q : Int) + 1 + 1 + 1, (q : Int) + 1 + 1 + 1 + 1⟩
/-- The first j edits are marked, from k on. -/
def EdMarked (k j : Nat) (cs : List Ed) : Prop := ∀ l, l < j → edAt cs l = mkEd (k + 5 * l)
theorem edMarked_next {k j : Nat} {cs : List Ed} (h : EdMarked k j cs) (hj : j < cs.length) : EdMarked k (j + 1) (cs.set j (mkEd (k + 5 * j))) := by
  intro l hl
  unfold edAt
  rw [List.getD, List.getElem?_set]
  by_cases e : j = l
  · subst e; simp [hj]
  · rw [if_neg e]; exact h l (by omega)
theorem markText_1 (q : Nat) (h : q + 1 ≤ 4000000) (w : World) : Calls Tryd.prog 43 #[.int .i64 ((q : Int) + 1)] w fun e w' => e = .returned (.string (mtext (q + 1))) ∧ Below w.heap.size w w' := by
  have := markText_is (q + 1) h w
  rwa [Int.natCast_succ] at this

set_option maxRecDepth 100000 in
set_option maxHeartbeats 3200000 in
theorem markEditsOwn_any (B : Nat) (cs : List Ed) (v : Value) (k : Nat) (w : World) (h : OwnEdits B cs v w) (hk : k + 5 * cs.length ≤ 4000000) :
    Calls Tryd.prog 24 #[v, .int .i64 (k : Int)] w fun e w' => e = .returned (.int .i64 ((k + 5 * cs.length : Nat) : Int)) ∧ (∃ ds, ds.length = cs.length ∧ EdMarked k ds.length ds ∧ OwnEdits B ds v w') ∧ Below B w w' := by
  obtain ⟨h1, h2⟩ := h
  rcases h2 with ⟨rfl, hz⟩ | ⟨g, cap, cur, rfl, hb, hg, hcap, hmax, hsz, htk⟩
  · have e : cs = [] := List.length_eq_zero_iff.1 hz
    subst e
    go_enter Tryd.func24, Tryd.ntmps24
    go_wp2
    refine wp_loop_rounds 1 ?_
    rw [rounds_succ]; go_wp2
    go_ret
    exact ⟨rfl, ⟨[], rfl, fun l hl => absurd hl (Nat.not_lt_zero _), ⟨rfl, .inl ⟨rfl, rfl⟩⟩⟩, Below.refl _ _⟩
  · have O : OwnEdits B cs (.slice (some ⟨g, 0, none⟩) cs.length cap) w := ⟨h1, .inr ⟨g, cap, cur, rfl, hb, hg, hcap, hmax, hsz, htk⟩⟩
    have hgB := Lib.hid hb
    have OW := Lib.hid O
    clear h1 hg hcap hsz htk hmax cur O
    obtain ⟨n, hn⟩ : ∃ n, cs.length = n := ⟨_, rfl⟩
    rw [hn] at hk ⊢
    have NN := Lib.hid hn
    clear hn
    go_enter Tryd.func24, Tryd.ntmps24
    go_wp2
    go_loopw [1, 5] (fun q i wr => ∃ (j q0 : Nat) (ds : List Ed), j ≤ n ∧ i = .int .i64 j ∧ q = .int .i64 (q0 : Int) ∧ q0 = k + 5 * j ∧ ds.length = n ∧ EdMarked k j ds ∧ OwnEdits B ds (.slice (some ⟨g, 0, none⟩) ds.length cap) wr ∧ Below B w wr) (fun _ i _ => n - (intOf i).toNat)
    case atStart => exact ⟨0, k, cs, Nat.zero_le _, rfl, rfl, by omega, NN.out, fun l hl => absurd hl (Nat.not_lt_zero _), OW.out, Below.refl _ _⟩
    case round =>
      obtain ⟨j, q0, ds, hj, rfl, rfl, hq, hds, hM, hO, hB⟩ := hrel
      have Q := Lib.hid hq
      have DS := Lib.hid hds
      have MM := Lib.hid hM
      have OO := Lib.hid hO
      have BB := Lib.hid hB
      have gl : g < wr.heap.size := (World.ownsRow.lt hO g rfl).2
      by_cases hkl : j < n
      · have hd : decide ((j : Int) < (n : Int)) = true := by simpa using hkl
        have qb : q0 + 1 ≤ 4000000 := by omega
        have i1 : (0 : Int) ≤ (j : Int) := by omega
        have i2 : (j : Int) < (n : Int) := by omega
        have hjd : j < ds.length := by omega
        have g3 := fled_get ds j hjd
        have r0 := (World.ownsRow.cellAt hO (j * 5) (by omega)).trans g3.1
        have r1 := (World.ownsRow.cellAt hO (j * 5 + 1) (by omega)).trans g3.2.1
        have r2 := (World.ownsRow.cellAt hO (j * 5 + 2) (by omega)).trans g3.2.2.1
        have r3 := (World.ownsRow.cellAt hO (j * 5 + 3) (by omega)).trans g3.2.2.2.1
        have r4 := (World.ownsRow.cellAt hO (j * 5 + 4) (by omega)).trans g3.2.2.2.2
        have fz := fun j => World.ownsRow.frozenAt hO j
        have FZ := Lib.hid fz
        have R1 := Lib.hid r1
        have R2 := Lib.hid r2
        have R3 := Lib.hid r3
        have R4 := Lib.hid r4
        have RR1 := Lib.hid g3.2.1
        have RR2 := Lib.hid g3.2.2.1
        have RR3 := Lib.hid g3.2.2.2.1
        have RR4 := Lib.hid g3.2.2.2.2
        have JD := Lib.hid hjd
        have K := Lib.hid fun W => markText_1 q0 qb W
        have NX := Lib.hid (edMarked_next hM hjd)
        have ST := Lib.hid (fled_set ds j (mkEd (k + 5 * j)))
        have QM := Lib.hid (show mkEd (k + 5 * j) = ⟨w8 q0, mtext (q0 + 1), w16 q0, (q0 : Int) + 1 + 1 + 1, (q0 : Int) + 1 + 1 + 1 + 1⟩ by rw [← hq]; rfl)
        have x1 : IntKind.i64.wrap ((q0 : Int) + 1) = (q0 : Int) + 1 := IntWalk.i64_in _ (by omega)
        have x2 : IntKind.i64.wrap ((q0 : Int) + 1 + 1) = (q0 : Int) + 1 + 1 := IntWalk.i64_in _ (by omega)
        have x3 : IntKind.i64.wrap ((q0 : Int) + 1 + 1 + 1) = (q0 : Int) + 1 + 1 + 1 := IntWalk.i64_in _ (by omega)
        have x6 : IntKind.i64.wrap ((q0 : Int) + 1 + 1 + 1 + 1) = (q0 : Int) + 1 + 1 + 1 + 1 := IntWalk.i64_in _ (by omega)
        have x7 : IntKind.i64.wrap ((q0 : Int) + 1 + 1 + 1 + 1 + 1) = (q0 : Int) + 1 + 1 + 1 + 1 + 1 := IntWalk.i64_in _ (by omega)
        have x4 : IntKind.u64.wrap ((q0 : Int) + 1 + 1 + 1) = (q0 : Int) + 1 + 1 + 1 := IntWalk.u64_in _ (by omega)
        have x5 : IntKind.u64.wrap ((q0 : Int) + 1 + 1 + 1 + 1) = (q0 : Int) + 1 + 1 + 1 + 1 := IntWalk.u64_in _ (by omega)
        have x8 : IntKind.i8.wrap (q0 : Int) = w8 q0 := rfl
        have x9 : IntKind.i16.wrap ((q0 : Int) + 1 + 1) = w16 q0 := rfl
        clear hq hds hM hO hB r1 r2 r3 r4 g3 hjd
        generalize mtext (q0 + 1) = s at *
        generalize w8 q0 = t8 at *
        generalize w16 q0 = t16 at *
        go_wp2_with (go_at_call 43; refine (K.out _).mono ?_; rintro e w2 ⟨rfl, hB⟩; go_loud (have O2 := Lib.hid (owned_below (World.ownsRow.stored OO.out (j * 5) (.int .i8 t8)).1 hB)); go_loud (have B2 := Lib.hid ((BB.out.setCell (p := ⟨g, j * 5, none⟩) hgB.out (.int .i8 t8)).trans (Below.mono hB (by rw [World.size_setCell]; exact Nat.le_trans hgB.out (Nat.le_of_lt gl))))); go_loud (have t1 := (World.ownsRow.cellAt O2.out (j * 5 + 1) (by have := JD.out; omega)).trans ((List.getElem?_set_ne (by omega)).trans RR1.out)); go_loud (have t2 := (World.ownsRow.cellAt O2.out (j * 5 + 2) (by have := JD.out; omega)).trans ((List.getElem?_set_ne (by omega)).trans RR2.out)); go_loud (have t3 := (World.ownsRow.cellAt O2.out (j * 5 + 3) (by have := JD.out; omega)).trans ((List.getElem?_set_ne (by omega)).trans RR3.out)); go_loud (have t4 := (World.ownsRow.cellAt O2.out (j * 5 + 4) (by have := JD.out; omega)).trans ((List.getElem?_set_ne (by omega)).trans RR4.out)); go_loud (have fz2 := fun j => World.ownsRow.frozenAt O2.out j); have g2 : g < w2.heap.size := (World.ownsRow.lt O2.out g rfl).2; clear hB)
        refine wp_loop_rounds 3 ?_
        rw [rounds_succ]; go_wp2
        rw [rounds_succ]; go_wp2
        rw [rounds_succ]; go_wp2
        have s1 := (World.ownsRow.stored O2.out (j * 5 + 1) (.string s)).1
        have s2 := (World.ownsRow.stored s1 (j * 5 + 2) (.int .i16 t16)).1
        have s3 := (World.ownsRow.stored s2 (j * 5 + 3) (.int .u64 ((q0 : Int) + 1 + 1 + 1))).1
        have s4 := (World.ownsRow.stored s3 (j * 5 + 4) (.int .u64 ((q0 : Int) + 1 + 1 + 1 + 1))).1
        have st := ST.out
        have nx := NX.out
        rw [QM.out] at st nx
        simp only at st
        rw [st] at s4
        refine ⟨⟨j + 1, q0 + 5, _, hkl, by rw [Int.natCast_succ], by rw [show ((q0 + 5 : Nat) : Int) = (q0 : Int) + 1 + 1 + 1 + 1 + 1 by omega], by have := Q.out; omega, by rw [List.length_set]; exact DS.out, nx, ?_, ((((B2.out.setCell hgB.out _).setCell hgB.out _).setCell hgB.out _).setCell hgB.out _)⟩, by (simp [intOf]) <;> omega⟩
        unfold OwnEdits
        rw [List.length_set]
        exact s4
      · have e : j = n := by omega
        subst e
        have hd : decide ((j : Int) < (j : Int)) = false := by simp
        clear hds hM hO hB
        have hq2 := hq
        subst hq2
        clear hq
        go_wp2
        go_ret
        exact ⟨rfl, ⟨ds, DS.out, by rw [DS.out]; exact MM.out, by have := OO.out; rw [DS.out] at this; exact this⟩, BB.out⟩
end Go.Proofs.YtpgonfeobfefaaaDoor

namespace Go.Proofs.YtpgonfeobfefaaaDoor
open Go.ChangeShapes Go.WideShapes Go.ChangeAt Go.RowKit

set_option maxRecDepth 100000 in
set_option maxHeartbeats 800000 in
theorem markText6_any (k : Nat) (k1 : k ≤ 6000000) (w : World) :
    Calls Tryd.prog 43 #[.int .i64 (k : Int)] w fun e w' => (∃ s : ByteArray, e = .returned (.string s)) ∧ Below w.heap.size w w' := by
  by_cases hk : 0 < k
  · have d1 : decide ((k : Int) ≤ 0) = false := by simp; omega
    go_enter Tryd.func43, Tryd.ntmps43
    go_wp2
    go_loopw [0, 3] (fun q o wr => ∃ (n : Nat) (s : ByteArray), q = .int .i64 (n : Int) ∧ o = .string s ∧ s.size + n ≤ 6000000 ∧ Below w.heap.size w wr) (fun q _ _ => (intOf q).toNat)
    case atStart => exact ⟨k, ByteArray.empty, rfl, rfl, by simpa using k1, Below.refl _ _⟩
    case round =>
      obtain ⟨n, s, rfl, rfl, hn, hB⟩ := hrel
      have BB := Lib.hid hB
      have HN := Lib.hid hn
      clear d1 hB
      by_cases hnz : 0 < n
      · have d2 : decide (0 < (n : Int)) = true := by simp; omega
        obtain ⟨u, hu⟩ : ∃ u : UInt8, (u.toNat : Int) = 48 + (n : Int) % 10 := ⟨UInt8.ofNat (48 + n % 10), by rw [UInt8.toNat_ofNat']; omega⟩
        have v1 : (n : Int).tmod 10 = (n : Int) % 10 := Int.tmod_eq_emod_of_nonneg (by omega)
        have v2 : IntKind.i64.wrap ((n : Int) % 10) = (n : Int) % 10 := IntWalk.i64_in _ (by omega)
        have v3 : IntKind.i64.wrap (48 + (n : Int) % 10) = 48 + (n : Int) % 10 := IntWalk.i64_in _ (by omega)
        have v4 : IntKind.u8.wrap (48 + (n : Int) % 10) = (u.toNat : Int) := by rw [hu]; exact IntWalk.u8_in _ ⟨by omega, by omega⟩
        obtain ⟨m, hm⟩ : ∃ m : Nat, m = n / 10 := ⟨_, rfl⟩
        have v7 : (n : Int) / 10 = (m : Int) := by omega
        have v5 : (n : Int).tdiv 10 = (m : Int) := by rw [Int.tdiv_eq_ediv_of_nonneg (by omega)]; omega
        have v6 : IntKind.i64.wrap (m : Int) = (m : Int) := IntWalk.i64_in _ (by omega)
        have MM := Lib.hid (show m < n by omega)
        have cv := conv_one wr u
        have sz : (ByteArray.mk #[u]).size = 1 := rfl
        have sl : ¬ 9223372036854775807 < 1 + s.size := by have := HN.out; omega
        clear hu hn k1 hk hm
        go_wp2
        exact ⟨⟨m, _, rfl, rfl, by have := HN.out; have := MM.out; rw [ByteArray.size_append, sz]; omega, below_new BB.out _⟩, by have := MM.out; (simp [intOf]) <;> omega⟩
      · have d2 : decide (0 < (n : Int)) = false := by simp; omega
        have sl : ¬ 9223372036854775807 < 1 + s.size := by have := HN.out; omega
        go_wp2
        go_ret
        exact ⟨⟨_, rfl⟩, BB.out⟩
  · have d1 : decide ((k : Int) ≤ 0) = true := by simp; omega
    go_enter Tryd.func43, Tryd.ntmps43
    go_wp2
    go_ret
    exact ⟨⟨_, rfl⟩, Below.refl _ _⟩
theorem markText6_1 (q : Nat) (h : q + 1 ≤ 6000000) (w : World) : Calls Tryd.prog 43 #[.int .i64 ((q : Int) + 1)] w fun e w' => (∃ s : ByteArray, e = .returned (.string s)) ∧ Below w.heap.size w w' := by
  have := markText6_any (q + 1) h w
  rwa [Int.natCast_succ] at this

set_option maxRecDepth 100000 in
set_option maxHeartbeats 3200000 in
theorem markEdits_any (n g k c : Nat) (w : World) (hW0 : Wb w g (n * 5)) (hg : g < w.heap.size) (hk : k + 5 * n ≤ 6000000) :
    Calls Tryd.prog 24 #[.slice (some ⟨g, 0, none⟩) n c, .int .i64 (k : Int)] w fun e w' => e = .returned (.int .i64 ((k + 5 * n : Nat) : Int)) ∧ Oth g w w' := by
  have W0 := Lib.hid hW0
  clear hW0
  go_enter Tryd.func24, Tryd.ntmps24
  go_wp2
  go_loopw [1, 5] (fun q i wr => ∃ j q0 : Nat, j ≤ n ∧ i = .int .i64 j ∧ q = .int .i64 (q0 : Int) ∧ q0 = k + 5 * j ∧ Wb wr g (n * 5) ∧ Oth g w wr) (fun _ i _ => n - (intOf i).toNat)
  case atStart => exact ⟨0, k, Nat.zero_le _, rfl, rfl, by omega, W0.out, Oth.refl _ _⟩
  case round =>
    obtain ⟨j, q0, hj, rfl, rfl, hq, hW, hO⟩ := hrel
    have Q := Lib.hid hq
    have WW := Lib.hid hW
    have OO := Lib.hid hO
    have gl : g < wr.heap.size := Nat.lt_of_lt_of_le hg hO.size
    by_cases hkl : j < n
    · have hd : decide ((j : Int) < (n : Int)) = true := by simpa using hkl
      have qb : q0 + 1 ≤ 6000000 := by omega
      have i1 : (0 : Int) ≤ (j : Int) := by omega
      have i2 : (j : Int) < (n : Int) := by omega
      obtain ⟨y0, r0⟩ := hW.1 (j * 5) (by omega)
      have f0 := hW.2 (j * 5) (by omega)
      have W1 := hW.set (j * 5) (by omega) (.int .i8 (IntKind.i8.wrap (q0 : Int)))
      obtain ⟨y1, r1⟩ := W1.1 (j * 5 + 1) (by omega)
      obtain ⟨y2, r2⟩ := W1.1 (j * 5 + 2) (by omega)
      obtain ⟨y3, r3⟩ := W1.1 (j * 5 + 3) (by omega)
      obtain ⟨y4, r4⟩ := W1.1 (j * 5 + 4) (by omega)
      have WX := Lib.hid W1
      have R1 := Lib.hid r1
      have R2 := Lib.hid r2
      have R3 := Lib.hid r3
      have R4 := Lib.hid r4
      have K := Lib.hid fun W => markText6_1 q0 qb W
      have x1 : IntKind.i64.wrap ((q0 : Int) + 1) = (q0 : Int) + 1 := IntWalk.i64_in _ (by omega)
      have x2 : IntKind.i64.wrap ((q0 : Int) + 1 + 1) = (q0 : Int) + 1 + 1 := IntWalk.i64_in _ (by omega)
      have x3 : IntKind.i64.wrap ((q0 : Int) + 1 + 1 + 1) = (q0 : Int) + 1 + 1 + 1 := IntWalk.i64_in _ (by omega)
      have x6 : IntKind.i64.wrap ((q0 : Int) + 1 + 1 + 1 + 1) = (q0 : Int) + 1 + 1 + 1 + 1 := IntWalk.i64_in _ (by omega)
      have x7 : IntKind.i64.wrap ((q0 : Int) + 1 + 1 + 1 + 1 + 1) = (q0 : Int) + 1 + 1 + 1 + 1 + 1 := IntWalk.i64_in _ (by omega)
      have x4 : IntKind.u64.wrap ((q0 : Int) + 1 + 1 + 1) = (q0 : Int) + 1 + 1 + 1 := IntWalk.u64_in _ (by omega)
      have x5 : IntKind.u64.wrap ((q0 : Int) + 1 + 1 + 1 + 1) = (q0 : Int) + 1 + 1 + 1 + 1 := IntWalk.u64_in _ (by omega)
      have G1 := Lib.hid (show g < (wr.setCell ⟨g, j * 5, none⟩ (.int .i8 (IntKind.i8.wrap (q0 : Int)))).heap.size by rw [World.size_setCell]; exact gl)
      clear hq hW hO r1 r2 r3 r4 W1
      go_wp2_with (go_at_call 43; refine (K.out _).mono ?_; rintro e w2 ⟨⟨s, rfl⟩, hB⟩; have t1 := (hB.cell (p := ⟨g, j * 5 + 1, none⟩) G1.out).trans R1.out; have t2 := (hB.cell (p := ⟨g, j * 5 + 2, none⟩) G1.out).trans R2.out; have t3 := (hB.cell (p := ⟨g, j * 5 + 3, none⟩) G1.out).trans R3.out; have t4 := (hB.cell (p := ⟨g, j * 5 + 4, none⟩) G1.out).trans R4.out; have u1 := (hB.frozen (p := ⟨g, j * 5 + 1, none⟩) G1.out).trans (WX.out.2 _ (by omega)); have u2 := (hB.frozen (p := ⟨g, j * 5 + 2, none⟩) G1.out).trans (WX.out.2 _ (by omega)); have u3 := (hB.frozen (p := ⟨g, j * 5 + 3, none⟩) G1.out).trans (WX.out.2 _ (by omega)); have u4 := (hB.frozen (p := ⟨g, j * 5 + 4, none⟩) G1.out).trans (WX.out.2 _ (by omega)); have W2 := Lib.hid (WX.out.below hB G1.out); have O2 := Lib.hid ((OO.out.set (j * 5) (.int .i8 (IntKind.i8.wrap (q0 : Int)))).trans (Oth.of hB)); clear hB)
      refine wp_loop_rounds 3 ?_
      rw [rounds_succ]; go_wp2
      rw [rounds_succ]; go_wp2
      rw [rounds_succ]; go_wp2
      exact ⟨⟨j + 1, q0 + 5, hkl, by rw [Int.natCast_succ], by rw [show ((q0 + 5 : Nat) : Int) = (q0 : Int) + 1 + 1 + 1 + 1 + 1 by omega], by have := Q.out; omega, (((W2.out.set _ (by omega) _).set _ (by omega) _).set _ (by omega) _).set _ (by omega) _, (((O2.out.set _ _).set _ _).set _ _).set _ _⟩, by (simp [intOf]) <;> omega⟩
    · have e : j = n := by omega
      subst e
      have hd : decide ((j : Int) < (j : Int)) = false := by simp
      clear hW hO
      have hq2 := hq
      subst hq2
      clear hq
      go_wp2
      go_ret
      exact ⟨rfl, OO.out⟩
end Go.Proofs.YtpgonfeobfefaaaDoor

namespace Go.Proofs.YtpgonfeobfefaaaDoor
open Go.ChangeShapes Go.WideShapes Go.ChangeAt Go.RowKit

set_option maxHeartbeats 1600000 in
theorem szCardS2_any (ad : Option Addr) (cs : List Cd) (c : Nat) (l : Int) (w : World) (hc : CardsIn w ad cs) (l0 : 0 ≤ l) (l1 : l ≤ 1048576) (hn : cs.length ≤ 9223372036854775807) :
    Calls Tryd.prog 8 #[.slice ad cs.length c, .int .i64 l] w (fun e w' => ∃ z : Int, e = .returned (.int .i64 z) ∧ -1 ≤ z ∧ z ≤ 1048576 ∧ (0 ≤ z → cs.length ≤ 1048576 ∧ z + (cs.length : Int) ≤ l) ∧ Below w.heap.size w w') := by
  have C := Lib.hid hc
  clear hc
  have d1 : IntKind.i64.wrap (l - (cs.length : Int)) = l - (cs.length : Int) := IntWalk.i64_in _ (by omega)
  have HN := Lib.hid hn
  clear hn
  by_cases h : l - (cs.length : Int) < 0
  · have d2 : decide (l - (cs.length : Int) < 0) = true := by simp; omega
    go_enter Tryd.func8, Tryd.ntmps8
    go_wp2
    go_ret
    exact ⟨-1, rfl, by omega, by omega, by omega, (by repeat' (first | (with_reducible exact Below.refl _ _) | (with_reducible assumption) | (with_reducible refine below_drewN ?_ _) | (with_reducible refine Below.drew ?_) | (with_reducible refine below_new ?_ _) | (with_reducible refine below_next ?_ (by with_reducible assumption)) | (with_reducible refine Below.setCell ?_ ?_ _) | go_size))⟩
  · have d2 : decide (l - (cs.length : Int) < 0) = false := by simp; omega
    have hk : cs.length ≤ 1048576 := by omega
    go_enter Tryd.func8, Tryd.ntmps8
    go_wp2
    go_loopw [1, 5] (fun q i wr => ∃ (j : Nat) (m : Int), j ≤ cs.length ∧ i = .int .i64 j ∧ q = .int .i64 m ∧ 0 ≤ m ∧ m ≤ l - (cs.length : Int) ∧ Below w.heap.size w wr) (fun _ i _ => cs.length - (intOf i).toNat)
    case atStart => exact ⟨0, _, Nat.zero_le _, rfl, rfl, by omega, by omega, Below.refl _ _⟩
    case round =>
      obtain ⟨j, m, hj, rfl, rfl, m0, m1, hB⟩ := hrel
      have BB := Lib.hid hB
      clear d1 d2
      by_cases hjl : j < cs.length
      · have hd : decide ((j : Int) < (cs.length : Int)) = true := by simpa using hjl
        obtain ⟨⟨f0, _, _⟩, b1, o1, rfl, hb1, q0, q1, q2⟩ := C.out j hjl
        have e0 := (hB.cell (p := ⟨b1, o1 + j * 3, none⟩) hb1).trans q0
        have e1 := (hB.cell (p := ⟨b1, o1 + j * 3 + 1, none⟩) hb1).trans q1
        have e2 := (hB.cell (p := ⟨b1, o1 + j * 3 + 2, none⟩) hb1).trans q2
        have i1 : (0 : Int) ≤ (j : Int) := by omega
        have i2 : (j : Int) < (cs.length : Int) := by omega
        generalize cdAt cs j = x at *
        obtain ⟨s, a, b⟩ := x
        simp only at f0 e0 e1 e2
        have K := Lib.hid fun W => szCard_any s a b m f0 m0 (by omega) W
        clear hB q0 q1 q2
        by_cases hz : m - (s.size : Int) < 0
        · rw [szc_no hz] at K
          clear hz
          go_wp2_with (go_at_call 29; refine (K.out _).mono ?_; rintro e w2 ⟨rfl, hB2⟩; have B2 := Lib.hid hB2; clear hB2)
          go_ret
          exact ⟨-1, rfl, by omega, by omega, by omega, below_next BB.out B2.out⟩
        · rw [szc_yes hz] at K
          have y0 : 0 ≤ m - (s.size : Int) := by omega
          have y1 : m - (s.size : Int) ≤ l - (cs.length : Int) := by omega
          have y2 : decide (m - (s.size : Int) < 0) = false := by simp; omega
          clear hz
          generalize m - (s.size : Int) = m2 at *
          go_wp2_with (go_at_call 29; refine (K.out _).mono ?_; rintro e w2 ⟨rfl, hB2⟩; have B2 := Lib.hid hB2; clear hB2)
          exact ⟨⟨j + 1, m2, hjl, by rw [Int.natCast_succ], rfl, y0, y1, below_next BB.out B2.out⟩, by (simp [intOf]) <;> omega⟩
      · have e : j = cs.length := by omega
        subst e
        have hd : decide ((cs.length : Int) < (cs.length : Int)) = false := by simp
        clear hB
        go_wp2
        go_ret
        exact ⟨m, rfl, by omega, by omega, fun _ => ⟨hk, by omega⟩, BB.out⟩

end Go.Proofs.YtpgonfeobfefaaaDoor

namespace Go.Proofs.YtpgonfeobfefaaaDoor
open Go.ChangeShapes Go.WideShapes Go.ChangeAt Go.RowKit

set_option maxHeartbeats 1600000 in
theorem szEditS2_any (ad : Option Addr) (cs : List Ed) (c : Nat) (l : Int) (w : World) (hc : EditsIn w ad cs) (l0 : 0 ≤ l) (l1 : l ≤ 1048576) (hn : cs.length ≤ 9223372036854775807) :
    Calls Tryd.prog 19 #[.slice ad cs.length c, .int .i64 l] w (fun e w' => ∃ z : Int, e = .returned (.int .i64 z) ∧ -1 ≤ z ∧ z ≤ 1048576 ∧ (0 ≤ z → (cs.length : Int) ≤ l) ∧ Below w.heap.size w w') := by
  have C := Lib.hid hc
  clear hc
  have d1 : IntKind.i64.wrap (l - (cs.length : Int)) = l - (cs.length : Int) := IntWalk.i64_in _ (by omega)
  have HN := Lib.hid hn
  clear hn
  by_cases h : l - (cs.length : Int) < 0
  · have d2 : decide (l - (cs.length : Int) < 0) = true := by simp; omega
    go_enter Tryd.func19, Tryd.ntmps19
    go_wp2
    go_ret
    exact ⟨-1, rfl, by omega, by omega, by omega, (by repeat' (first | (with_reducible exact Below.refl _ _) | (with_reducible assumption) | (with_reducible refine below_drewN ?_ _) | (with_reducible refine Below.drew ?_) | (with_reducible refine below_new ?_ _) | (with_reducible refine below_next ?_ (by with_reducible assumption)) | (with_reducible refine Below.setCell ?_ ?_ _) | go_size))⟩
  · have d2 : decide (l - (cs.length : Int) < 0) = false := by simp; omega
    have hk : (cs.length : Int) ≤ l := by omega
    go_enter Tryd.func19, Tryd.ntmps19
    go_wp2
    go_loopw [1, 5] (fun q i wr => ∃ (j : Nat) (m : Int), j ≤ cs.length ∧ i = .int .i64 j ∧ q = .int .i64 m ∧ 0 ≤ m ∧ m ≤ 1048576 ∧ Below w.heap.size w wr) (fun _ i _ => cs.length - (intOf i).toNat)
    case atStart => exact ⟨0, _, Nat.zero_le _, rfl, rfl, by omega, by omega, Below.refl _ _⟩
    case round =>
      obtain ⟨j, m, hj, rfl, rfl, m0, m1, hB⟩ := hrel
      have BB := Lib.hid hB
      clear d1 d2
      by_cases hjl : j < cs.length
      · have hd : decide ((j : Int) < (cs.length : Int)) = true := by simpa using hjl
        obtain ⟨hft, b1, o1, rfl, hb1, q0, q1, q2, q3, q4⟩ := C.out j hjl
        have e0 := (hB.cell (p := ⟨b1, o1 + j * 5, none⟩) hb1).trans q0
        have e1 := (hB.cell (p := ⟨b1, o1 + j * 5 + 1, none⟩) hb1).trans q1
        have e2 := (hB.cell (p := ⟨b1, o1 + j * 5 + 2, none⟩) hb1).trans q2
        have e3 := (hB.cell (p := ⟨b1, o1 + j * 5 + 3, none⟩) hb1).trans q3
        have e4 := (hB.cell (p := ⟨b1, o1 + j * 5 + 4, none⟩) hb1).trans q4
        have f0 := hft.2.1
        have i1 : (0 : Int) ≤ (j : Int) := by omega
        have i2 : (j : Int) < (cs.length : Int) := by omega
        generalize edAt cs j = x at *
        obtain ⟨k, s, h, a, b⟩ := x
        simp only at f0 e0 e1 e2 e3 e4
        have K := Lib.hid fun W => szEdit_any k s h a b m f0 m0 m1 W
        clear hB q0 q1 q2 q3 q4 hft
        by_cases hz : m - (s.size : Int) < 0
        · rw [edz_no hz] at K
          clear hz
          go_wp2_with (go_at_call 9; refine (K.out _).mono ?_; rintro e w2 ⟨rfl, hB2⟩; have B2 := Lib.hid hB2; clear hB2)
          go_ret
          exact ⟨-1, rfl, by omega, by omega, by omega, below_next BB.out B2.out⟩
        · rw [edz_yes hz] at K
          have y0 : 0 ≤ m - (s.size : Int) := by omega
          have y1 : m - (s.size : Int) ≤ 1048576 := by omega
          have y2 : decide (m - (s.size : Int) < 0) = false := by simp; omega
          clear hz
          generalize m - (s.size : Int) = m2 at *
          go_wp2_with (go_at_call 9; refine (K.out _).mono ?_; rintro e w2 ⟨rfl, hB2⟩; have B2 := Lib.hid hB2; clear hB2)
          exact ⟨⟨j + 1, m2, hjl, by rw [Int.natCast_succ], rfl, y0, y1, below_next BB.out B2.out⟩, by (simp [intOf]) <;> omega⟩
      · have e : j = cs.length := by omega
        subst e
        have hd : decide ((cs.length : Int) < (cs.length : Int)) = false := by simp
        clear hB
        go_wp2
        go_ret
        exact ⟨m, rfl, by omega, m1, fun _ => hk, BB.out⟩

end Go.Proofs.YtpgonfeobfefaaaDoor
