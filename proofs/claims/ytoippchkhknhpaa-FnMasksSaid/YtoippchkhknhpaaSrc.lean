/- The model's source of choices: it reads some bytes, and writes its own box alone. -/
import Derived.Test.YtoippchkhknhpaaOth
import Derived.Test.YtoippchkhknhpaaQuiet
import Derived.Test.YtoippchkhknhpaaBit
namespace Go.Proofs.Ytoippchkhknhpaa
open Go.ChangeShapes Go.WideShapes Go.ChangeAt Go.RowKit

/-- Some bytes lie in memory. -/
def BytesIn (w : World) (a : Option Addr) (zs : List Int) : Prop := ∀ i, i < zs.length → ∃ b off, a = some ⟨b, off, none⟩ ∧ b < w.heap.size ∧ w.cell? ⟨b, off + i, none⟩ = some (.int .u8 (zs.getD i 0)) ∧ 0 ≤ zs.getD i 0 ∧ zs.getD i 0 ≤ 255

/-- A source lies in block g, of which k bytes at most have been taken. -/
structure Src (w : World) (g : Nat) (a : Option Addr) (zs : List Int) (cap k : Nat) : Prop where
  lt : g < w.heap.size
  c0 : w.cell? ⟨g, 0, none⟩ = some (.slice a zs.length cap)
  c1 : ∃ t : Nat, t ≤ k ∧ w.cell? ⟨g, 1, none⟩ = some (.int .i64 t)
  c2 : ∃ s : Int, U64 s ∧ w.cell? ⟨g, 2, none⟩ = some (.int .u64 s)
  f : ∀ j, j < 3 → w.frozen? ⟨g, j, none⟩ = false
  row : ∀ i, i < zs.length → ∃ b off, a = some ⟨b, off, none⟩ ∧ b ≠ g ∧ b < w.heap.size ∧ w.cell? ⟨b, off + i, none⟩ = some (.int .u8 (zs.getD i 0)) ∧ 0 ≤ zs.getD i 0 ∧ zs.getD i 0 ≤ 255

theorem Src.bytes {w : World} {g : Nat} {a : Option Addr} {zs : List Int} {cap k : Nat} (h : Src w g a zs cap k) : BytesIn w a zs := fun i hi => by
  obtain ⟨b, off, ha, _, hb, hc⟩ := h.row i hi
  exact ⟨b, off, ha, hb, hc⟩
theorem Src.more {w : World} {g : Nat} {a : Option Addr} {zs : List Int} {cap k m : Nat} (h : Src w g a zs cap k) (hm : k ≤ m) : Src w g a zs cap m := by
  obtain ⟨lt, c0, ⟨t, ht, c1⟩, c2, f, row⟩ := h
  exact ⟨lt, c0, ⟨t, by omega, c1⟩, c2, f, row⟩
theorem Src.oth {w w' : World} {g g' : Nat} {a : Option Addr} {zs : List Int} {cap k : Nat} (h : Src w g a zs cap k) (o : Oth g' w w') (hg : g ≠ g') (hr : ∀ i, i < zs.length → ∀ b off, a = some ⟨b, off, none⟩ → b ≠ g') : Src w' g a zs cap k := by
  obtain ⟨lt, c0, ⟨t, ht, c1⟩, ⟨s, hs, c2⟩, f, row⟩ := h
  have C : ∀ b j, b ≠ g' → b < w.heap.size → w'.cell? ⟨b, j, none⟩ = w.cell? ⟨b, j, none⟩ := fun b j hb hl => by unfold World.cell?; simp only [o.block b hb hl]
  have F : ∀ j, w'.frozen? ⟨g, j, none⟩ = w.frozen? ⟨g, j, none⟩ := fun j => by unfold World.frozen?; simp only [o.block g hg lt]
  refine ⟨Nat.lt_of_lt_of_le lt o.size, (C _ _ hg lt).trans c0, ⟨t, ht, (C _ _ hg lt).trans c1⟩, ⟨s, hs, (C _ _ hg lt).trans c2⟩, fun j hj => (F j).trans (f j hj), fun i hi => ?_⟩
  obtain ⟨b, off, ha, hne, hb, hc, hz⟩ := row i hi
  exact ⟨b, off, ha, hne, Nat.lt_of_lt_of_le hb o.size, (C _ _ (hr i hi b off ha) hb).trans hc, hz⟩

theorem u64_wrap (x : Int) : U64 (IntKind.u64.wrap x) := by
  have : IntKind.u64.wrap x = x % 18446744073709551616 := by simp [IntKind.wrap, IntKind.signed, IntKind.bits]
  unfold U64; rw [this]; omega
theorem src_next {w : World} {g : Nat} {a : Option Addr} {zs : List Int} {cap k t : Nat} {s' : Int} (n m : Nat) (h : Src w g a zs cap k) (ht : t ≤ k) (hs : U64 s') :
    Src ((((w.drewN n).setCell ⟨g, 1, none⟩ (.int .i64 ((t : Int) + 1))).setCell ⟨g, 2, none⟩ (.int .u64 s')).drewN m) g a zs cap (k + 1) ∧
      Oth g w ((((w.drewN n).setCell ⟨g, 1, none⟩ (.int .i64 ((t : Int) + 1))).setCell ⟨g, 2, none⟩ (.int .u64 s')).drewN m) := by
  obtain ⟨lt, c0, ⟨t0, ht0, c1⟩, ⟨s, hs0, c2⟩, f, row⟩ := h
  have OO : Oth g w ((((w.drewN n).setCell ⟨g, 1, none⟩ (.int .i64 ((t : Int) + 1))).setCell ⟨g, 2, none⟩ (.int .u64 s')).drewN m) := by
    have o : Oth g w (w.drewN n) := ⟨rfl, rfl, rfl, Nat.le_refl _, fun _ _ _ => rfl⟩
    have o2 := (o.set 1 (.int .i64 ((t : Int) + 1))).set 2 (.int .u64 s')
    exact ⟨o2.os, o2.tape, o2.output, o2.size, o2.block⟩
  have d1 : (w.drewN n).cell? ⟨g, 1, none⟩ = some (.int .i64 t0) := by simpa using c1
  have d2 : (w.drewN n).cell? ⟨g, 2, none⟩ = some (.int .u64 s) := by simpa using c2
  have e1 : ((w.drewN n).setCell ⟨g, 1, none⟩ (.int .i64 ((t : Int) + 1))).cell? ⟨g, 1, none⟩ = some (.int .i64 ((t : Int) + 1)) := World.cell?_setCell_same' _ _ _ (by rw [d1]; rfl)
  have e2 : ((w.drewN n).setCell ⟨g, 1, none⟩ (.int .i64 ((t : Int) + 1))).cell? ⟨g, 2, none⟩ = some (.int .u64 s) := (World.cell?_setCell_other _ _ _ _ (by simp)).trans d2
  refine ⟨⟨by simpa using lt, ?_, ⟨t + 1, by omega, ?_⟩, ⟨s', hs, ?_⟩, fun j hj => by simpa using f j hj, fun i hi => ?_⟩, OO⟩
  · rw [World.cell?_drewN]; exact (World.cell?_setCell_other _ _ _ _ (by simp)).trans ((World.cell?_setCell_other _ _ _ _ (by simp)).trans (by simpa using c0))
  · rw [World.cell?_drewN]; exact (World.cell?_setCell_other _ _ _ _ (by simp)).trans (by rw [e1]; simp)
  · rw [World.cell?_drewN]; exact World.cell?_setCell_same' _ _ _ (by rw [e2]; rfl)
  · obtain ⟨b, off, ha, hne, hb, hc, hz⟩ := row i hi
    refine ⟨b, off, ha, hne, by simpa using hb, ?_, hz⟩
    rw [← hc]; unfold World.cell?; simp only [OO.block b hne hb]
theorem byte_in (x : Int) : 0 ≤ wrap64 (bits .and .u64 (IntKind.u64.wrap x / 1099511627776) 255) ∧ wrap64 (bits .and .u64 (IntKind.u64.wrap x / 1099511627776) 255) ≤ 255 := by
  obtain ⟨h0, h1⟩ := u64_wrap x
  generalize IntKind.u64.wrap x = y at *
  obtain ⟨n, hn⟩ := Int.eq_ofNat_of_zero_le (show 0 ≤ y / 1099511627776 from by omega)
  rw [hn, show (255 : Int) = ((255 : Nat) : Int) from rfl, Go.u64_and_nat n 255 (by omega) (by omega)]
  have : n &&& 255 ≤ 255 := Nat.and_le_right
  have e : wrap64 ((n &&& 255 : Nat) : Int) = ((n &&& 255 : Nat) : Int) := by unfold wrap64; omega
  rw [e]; omega

set_option maxHeartbeats 1600000 in
theorem next_any (g : Nat) (a : Option Addr) (zs : List Int) (cap k : Nat) (w : World) (h : Src w g a zs cap k) (hk : k < 1000000) :
    Calls Try.prog 139 #[.pointer (some ⟨g, 0, none⟩)] w fun e w' => ∃ v : Int, e = .returned (.int .i64 v) ∧ 0 ≤ v ∧ v ≤ 255 ∧ Src w' g a zs cap (k + 1) ∧ Oth g w w' := by
  have H := Lib.hid h
  obtain ⟨lt, c0, ⟨t, ht, c1⟩, ⟨s, hs, c2⟩, f, row⟩ := h
  have f1 := f 1 (by omega)
  have f2 := f 2 (by omega)
  have R := Lib.hid row
  have S := Lib.hid hs
  clear f row hs
  have i0 : (0 : Int) ≤ (t : Int) := by omega
  by_cases htl : t < zs.length
  · have hd : decide ((t : Int) < (zs.length : Int)) = true := by simpa using htl
    have hd2 : decide ((t : Int) + 1 ≤ (zs.length : Int)) = true := by simp; omega
    have i1 : (t : Int) < (zs.length : Int) := by omega
    obtain ⟨b, off, rfl, hne, hb, hc, z0, z1⟩ := R.out t htl
    generalize zs.getD t 0 = z at *
    go_enter Try.func139, Try.ntmps139
    go_wp2
    go_quiet (fail)
    go_wp2
    go_quiet (fail)
    go_wp2
    go_quiet (fail)
    go_wp2
    refine bodyPost_ret (by simp [results, Try.results139, go_sem]; try rfl) rfl ?_
    obtain ⟨q1, q2⟩ := src_next _ _ H.out ht (u64_wrap _)
    exact ⟨z, rfl, z0, z1, q1, q2⟩
  · have hd : decide ((t : Int) < (zs.length : Int)) = false := by simp; omega
    have hd2 : decide ((t : Int) + 1 ≤ (zs.length : Int)) = false := by simp; omega
    go_enter Try.func139, Try.ntmps139
    go_wp2
    go_quiet (fail)
    go_wp2
    go_quiet (fail)
    go_wp2
    refine bodyPost_ret (by simp [results, Try.results139, go_sem]; try rfl) rfl ?_
    obtain ⟨q1, q2⟩ := src_next _ _ H.out ht (u64_wrap _)
    obtain ⟨y0, y1⟩ := byte_in (IntKind.u64.wrap (IntKind.u64.wrap (s * 6364136223846793005)) + 1442695040888963407)
    exact ⟨_, rfl, y0, y1, q1, q2⟩

set_option maxHeartbeats 1600000 in
theorem pick_any (n : Int) (hn : 1 < n) (hn2 : n ≤ 200) (g : Nat) (a : Option Addr) (zs : List Int) (cap k : Nat) (w : World) (h : Src w g a zs cap k) (hk : k < 1000000) :
    Calls Try.prog 129 #[.pointer (some ⟨g, 0, none⟩), .int .i64 n] w fun e w' => ∃ v : Int, e = .returned (.int .i64 v) ∧ 0 ≤ v ∧ v < n ∧ Src w' g a zs cap (k + 1) ∧ Oth g w w' := by
  have H := Lib.hid (next_any g a zs cap k w h hk)
  clear h
  have k1 : decide (n ≤ 1) = false := by simp; omega
  have k2 : decide (200 < n) = false := by simp; omega
  have k3 : (n == 0) = false := by simp; omega
  go_enter Try.func129, Try.ntmps129
  go_wp2_with (go_at_call 139; refine H.out.mono ?_; rintro e w1 ⟨v, rfl, v0, v1, S1, O1⟩)
  refine bodyPost_ret (by simp [results, Try.results129, go_sem]; try rfl) rfl ?_
  exact ⟨_, rfl, Int.emod_nonneg _ (by omega), Int.emod_lt_of_pos _ (by omega), S1, O1⟩
theorem Src.below {w w' : World} {g : Nat} {a : Option Addr} {zs : List Int} {cap k : Nat} (h : Src w g a zs cap k) (hb : Below w.heap.size w w') : Src w' g a zs cap k := by
  obtain ⟨lt, c0, ⟨t, ht, c1⟩, ⟨s, hs, c2⟩, f, row⟩ := h
  refine ⟨Nat.lt_of_lt_of_le lt hb.size, (hb.cell lt).trans c0, ⟨t, ht, (hb.cell lt).trans c1⟩, ⟨s, hs, (hb.cell lt).trans c2⟩, fun j hj => (hb.frozen lt).trans (f j hj), fun i hi => ?_⟩
  obtain ⟨b, off, ha, hne, hb2, hc, hz⟩ := row i hi
  exact ⟨b, off, ha, hne, Nat.lt_of_lt_of_le hb2 hb.size, (hb.cell hb2).trans hc, hz⟩
end Go.Proofs.Ytoippchkhknhpaa
