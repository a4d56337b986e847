/- Decks of the call's own: they are written into (markCardS) and read again (heldCardS). -/
import Derived.Test.YtppjmngnjdeigaaDoorEMark
import Derived.Test.YtppjmngnjdeigaaDoorEnt3
import Derived.Deep.DeepCutAuto
namespace Go.Proofs.YtppjmngnjdeigaaDoor
open Go.ChangeShapes Go.WideShapes Go.ChangeAt Go.RowKit

/-- The digits of a number, ahead of a text. -/
def emdig (k : Nat) (s : ByteArray) : ByteArray := if _h : k = 0 then s else emdig (k / 10) (⟨#[UInt8.ofNat (48 + k % 10)]⟩ ++ s)
termination_by k
theorem emdig_zero (s : ByteArray) : emdig 0 s = s := by unfold emdig; simp
theorem emdig_next {k : Nat} (s : ByteArray) (h : 0 < k) : emdig k s = emdig (k / 10) (⟨#[UInt8.ofNat (48 + k % 10)]⟩ ++ s) := by rw [emdig]; simp; omega
/-- The text that is the mark with a number. -/
def emtext (k : Nat) : ByteArray := if k = 0 then ⟨#[109, 48]⟩ else ⟨#[109]⟩ ++ emdig k ByteArray.empty

set_option maxRecDepth 100000 in
set_option maxHeartbeats 800000 in
theorem emarkText_is (k : Nat) (k1 : k ≤ 4000000) (w : World) :
    Calls Tryd.prog 56 #[.int .i64 (k : Int)] w fun e w' => e = .returned (.string (emtext k)) ∧ Below w.heap.size w w' := by
  by_cases hk : 0 < k
  · have d1 : decide ((k : Int) ≤ 0) = false := by simp; omega
    have T := Lib.hid (show emtext k = ⟨#[109]⟩ ++ emdig k ByteArray.empty from if_neg (by omega))
    go_enter Tryd.func56, Tryd.ntmps56
    go_wp2
    go_loopw [0, 3] (fun q o wr => ∃ (n : Nat) (s : ByteArray), q = .int .i64 (n : Int) ∧ o = .string s ∧ emdig n s = emdig k ByteArray.empty ∧ s.size + n ≤ 4000000 ∧ Below w.heap.size w wr) (fun q _ _ => (intOf q).toNat)
    case atStart => exact ⟨k, ByteArray.empty, rfl, rfl, rfl, by simpa using k1, Below.refl _ _⟩
    case round =>
      obtain ⟨n, s, rfl, rfl, hs, hn, hB⟩ := hrel
      have BB := Lib.hid hB
      have HN := Lib.hid hn
      clear d1 hB
      by_cases hnz : 0 < n
      · have d2 : decide (0 < (n : Int)) = true := by simp; omega
        have SS := Lib.hid ((emdig_next s hnz).symm.trans hs)
        clear hs
        obtain ⟨u, hu, hu2⟩ : ∃ u : UInt8, (u.toNat : Int) = 48 + (n : Int) % 10 ∧ UInt8.ofNat (48 + n % 10) = u := ⟨UInt8.ofNat (48 + n % 10), by rw [UInt8.toNat_ofNat']; omega, rfl⟩
        rw [hu2] at SS
        have v1 : (n : Int).tmod 10 = (n : Int) % 10 := Int.tmod_eq_emod_of_nonneg (by omega)
        have v2 : IntKind.i64.wrap ((n : Int) % 10) = (n : Int) % 10 := IntWalk.i64_in _ (by omega)
        have v3 : IntKind.i64.wrap (48 + (n : Int) % 10) = 48 + (n : Int) % 10 := IntWalk.i64_in _ (by omega)
        have v4 : IntKind.u8.wrap (48 + (n : Int) % 10) = (u.toNat : Int) := by rw [hu]; exact IntWalk.u8_in _ ⟨by omega, by omega⟩
        obtain ⟨m, hm⟩ : ∃ m : Nat, n / 10 = m := ⟨_, rfl⟩
        rw [hm] at SS
        have v7 : (n : Int) / 10 = (m : Int) := by omega
        have v5 : (n : Int).tdiv 10 = (m : Int) := by rw [Int.tdiv_eq_ediv_of_nonneg (by omega)]; omega
        have v6 : IntKind.i64.wrap (m : Int) = (m : Int) := IntWalk.i64_in _ (by omega)
        have MM := Lib.hid (show m < n by omega)
        have cv := conv_one wr u
        have sz : (ByteArray.mk #[u]).size = 1 := rfl
        have sl : ¬ 9223372036854775807 < 1 + s.size := by have := HN.out; omega
        clear hu hu2 hn k1 hk hm
        go_wp2
        exact ⟨⟨m, _, rfl, rfl, SS.out, by have := HN.out; have := MM.out; rw [ByteArray.size_append, sz]; omega, below_new BB.out _⟩, by have := MM.out; (simp [intOf]) <;> omega⟩
      · have hn0 : n = 0 := by omega
        subst hn0
        rw [emdig_zero] at hs
        have SS := Lib.hid hs
        clear hs
        have sl : ¬ 9223372036854775807 < 1 + s.size := by have := HN.out; omega
        go_wp2
        go_ret
        exact ⟨by rw [T.out, ← SS.out]; rfl, BB.out⟩
  · have hk0 : k = 0 := by omega
    subst hk0
    have T : emtext 0 = ⟨#[109, 48]⟩ := rfl
    rw [T]
    go_enter Tryd.func56, Tryd.ntmps56
    go_wp2
    go_ret
    exact ⟨rfl, Below.refl _ _⟩

/-- Cards as cells. -/
def flatE : List Et → List Value
  | [] => []
  | c :: cs => .string c.s :: .int .i64 c.a :: .int .i64 c.b :: flatE cs
theorem flatE_len : ∀ cs : List Et, (flatE cs).length = cs.length * 3
  | [] => rfl
  | c :: cs => by simp only [flatE, List.length_cons, flatE_len cs]; omega
theorem flatE_app : ∀ (cs ds : List Et), flatE (cs ++ ds) = flatE cs ++ flatE ds
  | [], _ => rfl
  | c :: cs, ds => by simp only [flatE, List.cons_append, flatE_app cs ds]
theorem etAt_succ (c : Et) (cs : List Et) (i : Nat) : etAt (c :: cs) (i + 1) = etAt cs i := rfl
theorem flatE_get : ∀ (cs : List Et) (i : Nat), i < cs.length → (flatE cs)[i * 3]? = some (.string (etAt cs i).s) ∧ (flatE cs)[i * 3 + 1]? = some (.int .i64 (etAt cs i).a) ∧ (flatE cs)[i * 3 + 2]? = some (.int .i64 (etAt cs i).b)
  | [], i, h => absurd h (Nat.not_lt_zero _)
  | c :: cs, 0, _ => ⟨rfl, rfl, rfl⟩
  | c :: cs, i + 1, h => by
    have := flatE_get cs i (by simpa using h)
    rw [show (i + 1) * 3 = i * 3 + 1 + 1 + 1 by omega]
    exact this
theorem flatE_set : ∀ (cs : List Et) (i : Nat) (c : Et), (((flatE cs).set (i * 3) (.string c.s)).set (i * 3 + 1) (.int .i64 c.a)).set (i * 3 + 2) (.int .i64 c.b) = flatE (cs.set i c)
  | [], i, c => rfl
  | d :: cs, 0, c => rfl
  | d :: cs, i + 1, c => by
    rw [show (i + 1) * 3 = i * 3 + 1 + 1 + 1 by omega]
    have := flatE_set cs i c
    simp only [flatE, List.set_cons_succ, this]
/-- Cards of the call's own. -/
def OwnEnts (B : Nat) (cs : List Et) (v : Value) (w : World) : Prop := w.ownsRow B 81 3 v cs.length (flatE cs)
/-- The cells of cards. -/
def CellsE (w : World) (a : Option Addr) (cs : List Et) : Prop := ∀ i, i < cs.length → ∃ b off, a = some ⟨b, off, none⟩ ∧ b < w.heap.size ∧ w.cell? ⟨b, off + i * 3, none⟩ = some (.string (etAt cs i).s) ∧ w.cell? ⟨b, off + i * 3 + 1, none⟩ = some (.int .i64 (etAt cs i).a) ∧ w.cell? ⟨b, off + i * 3 + 2, none⟩ = some (.int .i64 (etAt cs i).b)
theorem ownEnts_in {B : Nat} {cs : List Et} {v : Value} {w : World} (h : OwnEnts B cs v w) : ∃ a c, v = .slice a cs.length c ∧ CellsE w a cs := by
  have h0 := h
  obtain ⟨_, h2⟩ := h
  rcases h2 with ⟨rfl, hn⟩ | ⟨g, cap, cur, rfl, hb, hg, _⟩
  · exact ⟨none, 0, by rw [hn], fun i hi => by omega⟩
  · refine ⟨_, cap, rfl, fun i hi => ⟨g, 0, rfl, (Array.getElem?_eq_some_iff.1 hg).1, ?_, ?_, ?_⟩⟩
    · rw [Nat.zero_add, World.ownsRow.cellAt h0 _ (by omega)]; exact (flatE_get cs i hi).1
    · rw [Nat.zero_add, World.ownsRow.cellAt h0 _ (by omega)]; exact (flatE_get cs i hi).2.1
    · rw [Nat.zero_add, World.ownsRow.cellAt h0 _ (by omega)]; exact (flatE_get cs i hi).2.2
theorem cellsE_below {w w' : World} {a : Option Addr} {cs : List Et} (h : CellsE w a cs) (hb : Below w.heap.size w w') : CellsE w' a cs := fun i hi => by
  obtain ⟨b, off, ha, hlt, h0, h1, h2⟩ := h i hi
  exact ⟨b, off, ha, Nat.lt_of_lt_of_le hlt hb.size, (hb.cell hlt).trans h0, (hb.cell hlt).trans h1, (hb.cell hlt).trans h2⟩
theorem entsIn_of {w : World} {a : Option Addr} {cs : List Et} (h : CellsE w a cs) (hf : ∀ i, i < cs.length → (etAt cs i).fits) : EntsIn w a cs := fun i hi => ⟨hf i hi, h i hi⟩
theorem ownEnts_kept {B : Nat} {cs : List Et} {v : Value} {w w' : World} (h : OwnEnts B cs v w) (hb : Below w.heap.size w w') : OwnEnts B cs v w' := ownsRow_belowE h hb
theorem ownEnts_weaken {B B' : Nat} {cs : List Et} {v : Value} {w : World} (h : OwnEnts B cs v w) (hb : B' ≤ B) : OwnEnts B' cs v w := by
  obtain ⟨h1, h2⟩ := h
  refine ⟨h1, ?_⟩
  rcases h2 with hn | ⟨g, cap, cur, rfl, hB, rest⟩
  · exact .inl hn
  · exact .inr ⟨g, cap, cur, rfl, Nat.le_trans hb hB, rest⟩
theorem ownEnts_oth {B g : Nat} {cs : List Et} {v : Value} {w w' : World} (h : OwnEnts B cs v w) (hb : Oth g w w') (hg : g < B) : OwnEnts B cs v w' := by
  obtain ⟨h1, h2⟩ := h
  refine ⟨h1, ?_⟩
  rcases h2 with hn | ⟨b, cap, cur, rfl, hB, hh, rest⟩
  · exact .inl hn
  · exact .inr ⟨b, cap, cur, rfl, hB, (hb.block b (by omega) (Array.getElem?_eq_some_iff.1 hh).1).trans hh, rest⟩

/-- The card that is written with the number q. -/
def mkE (q : Nat) : Et := ⟨emtext q, (q : Int) + 1, (q : Int) + 1 + 1⟩
/-- The first j cards are marked, from k on. -/
def EMarked (k j : Nat) (cs : List Et) : Prop := ∀ l, l < j → etAt cs l = mkE (k + 3 * l)
theorem emarked_next {k j : Nat} {cs : List Et} (h : EMarked k j cs) (hj : j < cs.length) : EMarked k (j + 1) (cs.set j (mkE (k + 3 * j))) := by
  intro l hl
  unfold etAt
  rw [List.getD, List.getElem?_set]
  by_cases e : j = l
  · subst e; simp [hj]
  · rw [if_neg e]; exact h l (by omega)

set_option maxRecDepth 100000 in
set_option maxHeartbeats 3200000 in
theorem markEntsOwn_any (B : Nat) (cs : List Et) (v : Value) (k : Nat) (w : World) (h : OwnEnts B cs v w) (hk : k + 3 * cs.length ≤ 4000000) :
    Calls Tryd.prog 22 #[v, .int .i64 (k : Int)] w fun e w' => e = .returned (.int .i64 ((k + 3 * cs.length : Nat) : Int)) ∧ (∃ ds, ds.length = cs.length ∧ EMarked k ds.length ds ∧ OwnEnts B ds v w') ∧ Below B w w' := by
  obtain ⟨h1, h2⟩ := h
  rcases h2 with ⟨rfl, hz⟩ | ⟨g, cap, cur, rfl, hb, hg, hcap, hmax, hsz, htk⟩
  · have e : cs = [] := List.length_eq_zero_iff.1 hz
    subst e
    go_enter Tryd.func22, Tryd.ntmps22
    go_wp2
    refine wp_loop_rounds 1 ?_
    rw [rounds_succ]; go_wp2
    go_ret
    exact ⟨rfl, ⟨[], rfl, fun l hl => absurd hl (Nat.not_lt_zero _), ⟨rfl, .inl ⟨rfl, rfl⟩⟩⟩, Below.refl _ _⟩
  · have O : OwnEnts B cs (.slice (some ⟨g, 0, none⟩) cs.length cap) w := ⟨h1, .inr ⟨g, cap, cur, rfl, hb, hg, hcap, hmax, hsz, htk⟩⟩
    have hgB := Lib.hid hb
    have OW := Lib.hid O
    clear h1 hg hcap hsz htk hmax cur O
    obtain ⟨n, hn⟩ : ∃ n, cs.length = n := ⟨_, rfl⟩
    rw [hn] at hk ⊢
    have NN := Lib.hid hn
    clear hn
    go_enter Tryd.func22, Tryd.ntmps22
    go_wp2
    go_loopw [1, 5] (fun q i wr => ∃ (j q0 : Nat) (ds : List Et), j ≤ n ∧ i = .int .i64 j ∧ q = .int .i64 (q0 : Int) ∧ q0 = k + 3 * j ∧ ds.length = n ∧ EMarked k j ds ∧ OwnEnts B ds (.slice (some ⟨g, 0, none⟩) ds.length cap) wr ∧ Below B w wr) (fun _ i _ => n - (intOf i).toNat)
    case atStart => exact ⟨0, k, cs, Nat.zero_le _, rfl, rfl, by omega, NN.out, fun l hl => absurd hl (Nat.not_lt_zero _), OW.out, Below.refl _ _⟩
    case round =>
      obtain ⟨j, q0, ds, hj, rfl, rfl, hq, hds, hM, hO, hB⟩ := hrel
      have Q := Lib.hid hq
      have DS := Lib.hid hds
      have MM := Lib.hid hM
      have OO := Lib.hid hO
      have BB := Lib.hid hB
      have gl : g < wr.heap.size := (World.ownsRow.lt hO g rfl).2
      by_cases hkl : j < n
      · have hd : decide ((j : Int) < (n : Int)) = true := by simpa using hkl
        have qb : q0 ≤ 4000000 := by omega
        have i1 : (0 : Int) ≤ (j : Int) := by omega
        have i2 : (j : Int) < (n : Int) := by omega
        have hjd : j < ds.length := by omega
        have g3 := flatE_get ds j hjd
        have r0 := (World.ownsRow.cellAt hO (j * 3) (by omega)).trans g3.1
        have r1 := (World.ownsRow.cellAt hO (j * 3 + 1) (by omega)).trans g3.2.1
        have r2 := (World.ownsRow.cellAt hO (j * 3 + 2) (by omega)).trans g3.2.2
        have FZ := Lib.hid (fun j => World.ownsRow.frozenAt hO j)
        have R0 := Lib.hid r0
        have R1 := Lib.hid r1
        have R2 := Lib.hid r2
        have JD := Lib.hid hjd
        have K := Lib.hid fun W => emarkText_is q0 qb W
        have NX := Lib.hid (emarked_next hM hjd)
        have ST := Lib.hid (flatE_set ds j (mkE (k + 3 * j)))
        have QM := Lib.hid (show mkE (k + 3 * j) = ⟨emtext q0, (q0 : Int) + 1, (q0 : Int) + 1 + 1⟩ by rw [← hq]; rfl)
        have x1 : IntKind.i64.wrap ((q0 : Int) + 1) = (q0 : Int) + 1 := IntWalk.i64_in _ (by omega)
        have x2 : IntKind.i64.wrap ((q0 : Int) + 1 + 1) = (q0 : Int) + 1 + 1 := IntWalk.i64_in _ (by omega)
        have x3 : IntKind.i64.wrap ((q0 : Int) + 1 + 1 + 1) = (q0 : Int) + 1 + 1 + 1 := IntWalk.i64_in _ (by omega)
        have x4 : IntKind.u64.wrap ((q0 : Int) + 1) = (q0 : Int) + 1 := IntWalk.u64_in _ (by omega)
        have x5 : IntKind.u64.wrap ((q0 : Int) + 1 + 1) = (q0 : Int) + 1 + 1 := IntWalk.u64_in _ (by omega)
        clear hq hds hM hO hB r0 r1 r2 g3 hjd
        generalize emtext q0 = s at *
        go_wp2_with (go_at_call 56; refine (K.out _).mono ?_; rintro e w2 ⟨rfl, hB⟩; have t0 := (hB.cell (p := ⟨g, j * 3, none⟩) gl).trans R0.out; have t1 := (hB.cell (p := ⟨g, j * 3 + 1, none⟩) gl).trans R1.out; have t2 := (hB.cell (p := ⟨g, j * 3 + 2, none⟩) gl).trans R2.out; have u : ∀ j, w2.frozen? ⟨g, j, none⟩ = false := (fun j => (hB.frozen (p := ⟨g, j, none⟩) gl).trans (FZ.out j)); have O2 := Lib.hid (ownEnts_kept OO.out hB); have B2 := Lib.hid (BB.out.trans (Below.mono hB (Nat.le_of_lt (Nat.lt_of_le_of_lt hgB.out gl)))); clear hB)
        have s0 := World.ownsRow.stored O2.out (j * 3) (.string s)
        have s1 := s0.1.stored (j * 3 + 1) (.int .i64 ((q0 : Int) + 1))
        have s2 := s1.1.stored (j * 3 + 2) (.int .i64 ((q0 : Int) + 1 + 1))
        have o := s2.1
        have st := ST.out
        rw [QM.out] at st
        simp only at st
        rw [st, ← QM.out] at o
        refine ⟨⟨j + 1, q0 + 3, ds.set j (mkE (k + 3 * j)), hkl, by rw [Int.natCast_succ], by congr 1, by have := Q.out; omega, by rw [List.length_set]; exact DS.out, NX.out, ?_, ((B2.out.setCell hgB.out _).setCell hgB.out _).setCell hgB.out _⟩, by (simp [intOf]) <;> omega⟩
        unfold OwnEnts
        rw [List.length_set]
        exact o
      · have e : j = n := by omega
        subst e
        have hd : decide ((j : Int) < (j : Int)) = false := by simp
        clear hds hM hO hB
        have hq2 := hq
        subst hq2
        clear hq
        go_wp2
        go_ret
        exact ⟨rfl, ⟨ds, DS.out, by rw [DS.out]; exact MM.out, by have := OO.out; rw [DS.out] at this; exact this⟩, BB.out⟩
end Go.Proofs.YtppjmngnjdeigaaDoor
