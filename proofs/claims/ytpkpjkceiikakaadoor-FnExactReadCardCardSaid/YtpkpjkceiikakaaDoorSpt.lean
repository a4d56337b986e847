/- Contracts: strings.Split at one byte; strconv.ParseInt at base 10, of 16 and of 64 bits. -/
import Derived.Test.YtpkpjkceiikakaaDoorRdN
import Derived.Test.YtpkpjkceiikakaaDoorShelf
import Derived.Test.YtpkpjkceiikakaaDoorStrL
import Derived.Test.YtpkpjkceiikakaaDoorBoxes
import Derived.Shelf.Strings.Split
import Derived.Shelf.Strconv.ErrVarParseInt
namespace Go.Proofs.YtpkpjkceiikakaaDoor
open Go.ChangeShapes Go.WideShapes Go.ChangeAt Go.RowKit

theorem spt_info : (Tryd.prog.info? 9).map (fun i => (i.zero, i.size, i.bytes)) = some (some (.string ByteArray.empty), 1, 16) := by kernel_rfl
theorem genSplit_any (s : ByteArray) (c : UInt8) (hs : s.size ≤ 1048576) (w : World) :
    Calls Tryd.prog 46 #[.string s, .string ⟨#[c]⟩, .int .i64 0, .int .i64 (-1)] w fun e w' => e = .returned (.slice (some ⟨w.heap.size, 0, none⟩) (pieces c s).length (pieces c s).length) ∧ w' = w.alloc (.cells ((pieces c s).map Value.string).toArray 9) := by
  have z1 : (ByteArray.mk #[c]).size = 1 := rfl
  have hle := Lib.countB_le ⟨#[c]⟩ (by rw [z1]; exact Nat.le_refl _) s.size s (Nat.le_refl _)
  have h := Any.strings_genSplit_core { Tryd.lays146 with } spt_info s ⟨#[c]⟩ 0 (-1) (Lib.countB s ⟨#[c]⟩ + 1) w (by omega) (by rw [z1]; exact Nat.le_refl _) (Nat.zero_le _)
    (fun x q hx => by
      have h := Any.strings_Index_one { Tryd.lays146 with } x c (w.alloc (.cells q 9))
      rw [← Lib.index_one] at h
      exact h)
    (by
      refine (Any.strings_Count_one { Tryd.lays146 with } s c w).mono fun e w' ⟨he, hw⟩ => ⟨?_, hw⟩
      rw [he]
      show _ = Ending.returned (Value.int .i64 ((Lib.count s.data.toList [c] : Nat) : Int))
      rw [Lib.count_one]
      rfl)
    (by decide) (by decide) (by rw [if_pos (by decide)]; omega)
  rw [Nat.add_sub_cancel, splitB_pieces c _ s rfl, countB_pieces c s, Lib.cellsOf_full] at h
  exact h
theorem split_any (s : ByteArray) (c : UInt8) (hs : s.size ≤ 1048576) (w : World) :
    Calls Tryd.prog 24 #[.string s, .string ⟨#[c]⟩] w fun e w' => ∃ a, e = .returned (.slice (some a) (pieces c s).length (pieces c s).length) ∧ w.heap.size ≤ a.block ∧ StrsIn w' (some a) (pieces c s) ∧ Below w.heap.size w w' := by
  have h := genSplit_any s c hs w
  go_enter Tryd.func24, Tryd.ntmps24
  go_wp2_with (go_at_call 46; refine h.mono ?_; rintro e w1 ⟨rfl, hw⟩; have HW := Lib.hid hw; clear hw)
  go_ret
  refine ⟨_, rfl, Nat.le_refl _, ?_, by rw [HW.out]; exact below_new (Below.refl _ _) _⟩
  rw [HW.out]
  intro i hi
  refine ⟨w.heap.size, 0, rfl, by simp, ?_⟩
  rw [World.cell?_alloc_mark]
  simp [hi]

/-! ### Numbers -/
/-- The two errors that the library's reader of numbers names hold some error each. -/
structure PE (W : World) : Prop where
  s : ∃ tp p, W.var? Tryd.prog "strconv.ErrSyntax" = some #[.iface tp p]
  r : ∃ tp p, W.var? Tryd.prog "strconv.ErrRange" = some #[.iface tp p]
theorem varP_below {P : Program} {W W' : World} {n : String} {cs : Array Value} (h : W.var? P n = some cs) {B : Nat} (hb : Below B W W') (hB : W.heap.size ≤ B) : W'.var? P n = some cs := by
  unfold World.var? at h ⊢
  cases hg : P.globalNamed n with
  | none => simp [hg] at h
  | some g =>
    simp only [hg, Option.bind_some] at h ⊢
    have hlt : g < W.heap.size := by
      rcases Nat.lt_or_ge g W.heap.size with h' | h'
      · exact h'
      · simp [Array.getElem?_eq_none h'] at h
    rw [hb.block g (by omega)]
    exact h
theorem PE.kept {W0 W W' : World} {B : Nat} (h : PE W0) (h0 : Below W0.heap.size W0 W) (hb : Below B W W') (hB : W0.heap.size ≤ B) : PE W' := by
  obtain ⟨⟨a, b, h1⟩, ⟨c, d, h2⟩⟩ := h
  have hk : Below W0.heap.size W0 W' := h0.trans (Below.mono hb hB)
  exact ⟨⟨a, b, varP_below h1 hk (Nat.le_refl _)⟩, ⟨c, d, varP_below h2 hk (Nat.le_refl _)⟩⟩
theorem PE.below {W W' : World} (h : PE W) (hb : Below W.heap.size W W') : PE W' := h.kept (Below.refl _ _) hb (Nat.le_refl _)
theorem below_bytes {w w' : World} {t : TypeId} (h : w' = w ∨ ∃ s, w' = Lib.bytesWorld w t s) : Below w.heap.size w w' := by
  rcases h with rfl | ⟨s, rfl⟩
  · exact Below.refl _ _
  · exact Lib.bytesWorld_below _ _ _
theorem parse16_ok (s : ByteArray) (hs : s.size ≤ 1048576) (v : Int) (h : pIn 16 s = some v) (w : World) :
    Calls Tryd.prog 25 #[.string s, .int .i64 10, .int .i64 16] w fun e w' => e = .returned (.tuple #[.int .i64 v, .nilIface]) ∧ Below w.heap.size w w' := by
  have h2 : Lib.parseIntB 16 s.data.toList = .ok v := by
    unfold pIn at h
    split at h
    · rename_i e; rw [e, Option.some.inj h]
    · cases h
  exact (Any.strconv_ParseInt_10_at16_ok Tryd.lays174 s (by omega) v h2 w).mono fun e w' ⟨he, hw⟩ => ⟨he, below_bytes hw⟩
theorem parse16_bad (s : ByteArray) (hs : s.size ≤ 1048576) (h : pIn 16 s = none) (w : World) (hP : PE w) :
    Calls Tryd.prog 25 #[.string s, .int .i64 10, .int .i64 16] w fun e w' => ∃ n t q, e = .returned (.tuple #[.int .i64 n, .iface t q]) ∧ Below w.heap.size w w' := by
  obtain ⟨⟨a, b, h1⟩, ⟨c, d, h2⟩⟩ := hP
  cases e : Lib.parseIntB 16 s.data.toList with
  | ok v => unfold pIn at h; rw [e] at h; cases h
  | «syntax» => exact (Any.strconv_ParseInt_10_at16_syntax_var Tryd.lays174 s (by omega) e a b w h1).mono fun e w' ⟨N, he, _, _, hb⟩ => ⟨_, _, _, he, hb⟩
  | range => exact (Any.strconv_ParseInt_10_at16_range_var Tryd.lays174 s (by omega) e c d w h2).mono fun e w' ⟨N, he, _, _, hb⟩ => ⟨_, _, _, he, hb⟩
theorem parse64_ok (s : ByteArray) (hs : s.size ≤ 1048576) (v : Int) (h : pIn 64 s = some v) (w : World) :
    Calls Tryd.prog 25 #[.string s, .int .i64 10, .int .i64 64] w fun e w' => e = .returned (.tuple #[.int .i64 v, .nilIface]) ∧ Below w.heap.size w w' := by
  have h2 : Lib.parseIntB 64 s.data.toList = .ok v := by
    unfold pIn at h
    split at h
    · rename_i e; rw [e, Option.some.inj h]
    · cases h
  exact (Any.strconv_ParseInt_10_at64_ok Tryd.lays174 s (by omega) v h2 w).mono fun e w' ⟨he, hw⟩ => ⟨he, below_bytes hw⟩
theorem parse64_bad (s : ByteArray) (hs : s.size ≤ 1048576) (h : pIn 64 s = none) (w : World) (hP : PE w) :
    Calls Tryd.prog 25 #[.string s, .int .i64 10, .int .i64 64] w fun e w' => ∃ n t q, e = .returned (.tuple #[.int .i64 n, .iface t q]) ∧ Below w.heap.size w w' := by
  obtain ⟨⟨a, b, h1⟩, ⟨c, d, h2⟩⟩ := hP
  cases e : Lib.parseIntB 64 s.data.toList with
  | ok v => unfold pIn at h; rw [e] at h; cases h
  | «syntax» => exact (Any.strconv_ParseInt_10_at64_syntax_var Tryd.lays174 s (by omega) e a b w h1).mono fun e w' ⟨N, he, _, _, hb⟩ => ⟨_, _, _, he, hb⟩
  | range => exact (Any.strconv_ParseInt_10_at64_range_var Tryd.lays174 s (by omega) e c d w h2).mono fun e w' ⟨N, he, _, _, hb⟩ => ⟨_, _, _, he, hb⟩
theorem pIn_bounds {B : Nat} {s : ByteArray} {v : Int} (h : pIn B s = some v) : -((2 ^ (B - 1) : Nat) : Int) ≤ v ∧ v < ((2 ^ (B - 1) : Nat) : Int) := by
  unfold pIn at h
  split at h
  · rename_i e; rw [Option.some.inj h] at e; exact Lib.parseIntB_bounds e
  · cases h
end Go.Proofs.YtpkpjkceiikakaaDoor
