/- Contracts: the text of a catalogue, the program's and the model's. -/
import Derived.Test.YtppjmngnjdeigaaDoorCatV
import Derived.Test.YtppjmngnjdeigaaDoorCatS
import Derived.Test.YtppjmngnjdeigaaDoorBdK
import Derived.Deep.DeepCutAuto
namespace Go.Proofs.YtppjmngnjdeigaaDoor
open Go.ChangeShapes Go.WideShapes Go.ChangeAt Go.RowKit

theorem ename_size {s : ByteArray} (h : ename s = true) : s.size ≤ 24 := by
  by_cases k : s.size ≤ 24
  · exact k
  · rw [ename_long k] at h; cases h
theorem catOk_40 {cs : List Et} (h : catOk cs = true) : cs.length ≤ 40 := by
  unfold catOk at h
  simp only [Bool.and_eq_true, decide_eq_true_eq] at h
  exact h.1.1
theorem catOk_to {cs : List Et} (h : catOk cs = true) : eTo cs cs.length = true := by
  unfold catOk at h
  simp only [Bool.and_eq_true, decide_eq_true_eq] at h
  exact h.1.2
theorem cat_name {cs : List Et} (h : catOk cs = true) {j : Nat} (hj : j < cs.length) : (etAt cs j).s.size ≤ 24 := ename_size (eTo_at (catOk_to h) hj).1
/-- At most one of an entry's two numbers is told, and it is an entry's. -/
def EtOne (n : Nat) (a b : Int) : Prop := (a = -1 ∧ b = -1) ∨ (a = -1 ∧ b ≠ -1 ∧ 0 ≤ b ∧ b < n) ∨ (a ≠ -1 ∧ 0 ≤ a ∧ a < n ∧ b = -1)
theorem cat_one {cs : List Et} (h : catOk cs = true) {j : Nat} (hj : j < cs.length) : EtOne cs.length (etAt cs j).a (etAt cs j).b := by
  have h2 := (eTo_at (catOk_to h) hj).2
  unfold entOk at h2
  simp only [Bool.and_eq_true, Bool.or_eq_true, beq_iff_eq] at h2
  obtain ⟨⟨h3, h4⟩, h5⟩ := h2
  unfold EtOne
  by_cases ea : (etAt cs j).a = -1
  · by_cases eb : (etAt cs j).b = -1
    · exact .inl ⟨ea, eb⟩
    · have := pref_iff.1 (h4.resolve_left eb)
      exact .inr (.inl ⟨ea, eb, this.1.1, this.1.2⟩)
  · have := pref_iff.1 (h3.resolve_left ea)
    exact .inr (.inr ⟨ea, this.1.1, this.1.2, h5.resolve_left ea⟩)
def seeSignB : ByteArray := ⟨#[59, 115, 101, 101, 32]⟩
def belowSignB : ByteArray := ⟨#[59, 98, 101, 108, 111, 119, 32]⟩
/-- What is told behind a name. -/
def behindB (cs : List Et) (a b : Int) (s : ByteArray) : ByteArray :=
  if a = -1 then (if b = -1 then s else s ++ (belowSignB ++ (etAt cs b.toNat).s)) else s ++ (seeSignB ++ (etAt cs a.toNat).s)
/-- The text of the first n entries. -/
def cgN (cs : List Et) : Nat → ByteArray
  | 0 => ByteArray.empty
  | n + 1 => behindB cs (etAt cs n).a (etAt cs n).b (cgN cs n ++ (etAt cs n).s) ++ ⟨#[10]⟩
theorem cgN_next (cs : List Et) (n : Nat) : cgN cs (n + 1) = behindB cs (etAt cs n).a (etAt cs n).b (cgN cs n ++ (etAt cs n).s) ++ ⟨#[10]⟩ := rfl
theorem behind_0 (cs : List Et) (s : ByteArray) : behindB cs (-1) (-1) s = s := rfl
theorem behind_b {cs : List Et} {b : Int} (h : b ≠ -1) (s : ByteArray) : behindB cs (-1) b s = s ++ (⟨#[59, 98, 101, 108, 111, 119, 32]⟩ ++ (etAt cs b.toNat).s) := by
  unfold behindB; rw [if_pos rfl, if_neg h]; rfl
theorem behind_a {cs : List Et} {a b : Int} (h : a ≠ -1) (s : ByteArray) : behindB cs a b s = s ++ (⟨#[59, 115, 101, 101, 32]⟩ ++ (etAt cs a.toNat).s) := by
  unfold behindB; rw [if_neg h]; rfl
theorem behind_size {cs : List Et} {a b : Int} {s : ByteArray} (nm : ∀ i, i < cs.length → (etAt cs i).s.size ≤ 24) (h : EtOne cs.length a b) : (behindB cs a b s).size ≤ s.size + 31 := by
  rcases h with ⟨rfl, rfl⟩ | ⟨rfl, h1, h2, h3⟩ | ⟨h1, h2, h3, rfl⟩
  · rw [behind_0]; omega
  · rw [behind_b h1, ByteArray.size_append, ByteArray.size_append]
    have e : (ByteArray.mk #[59, 98, 101, 108, 111, 119, 32]).size = 7 := rfl
    have := nm b.toNat (by omega)
    omega
  · rw [behind_a h1, ByteArray.size_append, ByteArray.size_append]
    have e : (ByteArray.mk #[59, 115, 101, 101, 32]).size = 5 := rfl
    have := nm a.toNat (by omega)
    omega
theorem cgN_size {cs : List Et} (h : catOk cs = true) : ∀ n, n ≤ cs.length → (cgN cs n).size ≤ 60 * n
  | 0, _ => Nat.le_refl _
  | n + 1, hn => by
    have ih := cgN_size h n (by omega)
    have h2 := behind_size (s := cgN cs n ++ (etAt cs n).s) (fun i hi => cat_name h hi) (cat_one h (show n < cs.length by omega))
    have h3 := cat_name h (show n < cs.length by omega)
    rw [cgN_next, ByteArray.size_append]
    rw [ByteArray.size_append] at h2
    have e : (⟨#[10]⟩ : ByteArray).size = 1 := rfl
    omega
/-- The text of a catalogue. -/
def cgT (cs : List Et) : ByteArray := if catOk cs = true then cgN cs cs.length else ByteArray.empty
/-- The name of an entry that another one tells of. -/
theorem name_at {w : World} {b o : Nat} {cs : List Et} (h : EntsIn w (some ⟨b, o, none⟩) cs) {x : Int} (h0 : 0 ≤ x) (h1 : x < cs.length) : w.cell? ⟨b, o + x.toNat * 3, none⟩ = some (.string (etAt cs x.toNat).s) := by
  obtain ⟨_, b1, o1, e, _, p0, _, _⟩ := h x.toNat (by omega)
  cases e
  exact p0
theorem ent_neq : 81 ≠ 5 := by decide
theorem cg_lt {w : World} {b : Nat} {o : Obj} (h : w.heap[b]? = some o) : b < w.heap.size := (Array.getElem?_eq_some_iff.1 h).1
theorem cg_cell {w : World} {b : Nat} {C : Array Value} {t : TypeId} (h : w.heap[b]? = some (.cells C t (0, 0))) (j : Nat) : w.cell? ⟨b, j, none⟩ = C[j]? := by simp [World.cell?, h]
theorem box_3 (w : World) (o : Obj) : (w.alloc o).heap[w.heap.size]? = some o := by unfold World.alloc; simp

set_option maxRecDepth 100000 in
set_option maxHeartbeats 3200000 in
theorem iCgText_any (ad : Option Addr) (cs : List Et) (c : Nat) (w : World) (hc : EntsIn w ad cs) :
    Calls Tryd.prog 54 #[.slice ad cs.length c] w fun e w' => e = .returned (.string (cgT cs)) ∧ Below w.heap.size w w' := by
  have V := fun W h => iCat_any ad cs c W h
  have C := Lib.hid hc
  unfold cgT
  cases hk : catOk cs
  · rw [hk] at V
    replace V := Lib.hid V
    simp only [Bool.false_eq_true, if_false]
    clear hk hc
    go_enter Tryd.func54, Tryd.ntmps54
    go_wp2_with (go_at_call 86; refine (V.out _ C.out).mono ?_; rintro e w1 ⟨rfl, hB⟩; have B1 := Lib.hid hB; clear hB)
    go_returns
    exact ⟨rfl, B1.out⟩
  · rw [hk] at V
    have NM := Lib.hid fun i (hi : i < cs.length) => cat_name hk hi
    have ON := Lib.hid fun i (hi : i < cs.length) => cat_one hk hi
    have SZ := Lib.hid (cgN_size hk)
    have l40 := catOk_40 hk
    simp only [if_true]
    replace V := Lib.hid V
    clear hk hc
    go_enter Tryd.func54, Tryd.ntmps54
    go_wp2_with (go_at_call 86; refine (V.out _ C.out).mono ?_; rintro e w1 ⟨rfl, hB⟩; have B1 := Lib.hid hB; clear hB)
    have D0 := Lib.hid (bldK_fresh w1)
    have A0 := Lib.hid (below_new (Below.refl w1.heap.size w1) (.cells #[.pointer none, .slice none 0 0] 127))
    have C1 := Lib.hid (entsIn_below C.out B1.out)
    go_loopw [11] (fun i wr => ∃ j : Nat, j ≤ cs.length ∧ i = .int .i64 (j : Int) ∧ BldK w1.heap.size w1.heap.size (cgN cs j) wr ∧ Below w1.heap.size w1 wr ∧ w1.heap.size < wr.heap.size) (fun i _ => cs.length - (intOf i).toNat)
    case atStart => exact ⟨0, Nat.zero_le _, rfl, D0.out, A0.out, by simp⟩
    case round =>
      obtain ⟨j, hj, rfl, hD, hB, hlt⟩ := hrel
      have D5 := Lib.hid hD
      have B5 := Lib.hid hB
      clear hD
      by_cases hjl : j < cs.length
      · have hd : decide ((j : Int) < (cs.length : Int)) = true := by simpa using hjl
        obtain ⟨_, b1, o1, rfl, hb1, p0, p1, p2⟩ := C1.out j hjl
        have d0 := (hB.cell (p := ⟨b1, o1 + j * 3, none⟩) hb1).trans p0
        have d1 := (hB.cell (p := ⟨b1, o1 + j * 3 + 1, none⟩) hb1).trans p1
        have d2 := (hB.cell (p := ⟨b1, o1 + j * 3 + 2, none⟩) hb1).trans p2
        have i1 : (0 : Int) ≤ (j : Int) := by omega
        have i2 : (j : Int) < (cs.length : Int) := by omega
        have sz := SZ.out j hj
        have sn := NM.out j hjl
        have NX := Lib.hid (cgN_next cs j)
        have O1 := ON.out j hjl
        clear hB p0 p1 p2
        generalize cgN cs j = s at *
        generalize (etAt cs j).s = n at *
        generalize (etAt cs j).a = a at *
        generalize (etAt cs j).b = b at *
        have z10 : (ByteArray.mk #[10]).size = 1 := rfl
        have zs5 : (ByteArray.mk #[59, 115, 101, 101, 32]).size = 5 := rfl
        have zs7 : (ByteArray.mk #[59, 98, 101, 108, 111, 119, 32]).size = 7 := rfl
        have A3 := Lib.hid (below_new (Below.refl wr.heap.size wr) (.cells #[.string n, .int .i64 a, .int .i64 b] 81))
        have D3 := Lib.hid (bldK_kept D5.out A3.out)
        have B3 := Lib.hid (B5.out.trans (Below.mono A3.out B5.out.size))
        have K3 := Lib.hid (box_3 wr (.cells #[.string n, .int .i64 a, .int .i64 b] 81))
        have nb : Hid (wr.heap.size ≠ w1.heap.size) := Lib.hid (by omega)
        have WB := Lib.hid fun (z : ByteArray) W (h : BldK w1.heap.size w1.heap.size z W) hB hl => (show Calls Tryd.prog 88 #[.pointer (some ⟨w1.heap.size, 0, none⟩), .int .u8 10] W _ from bldK_byte w1.heap.size w1.heap.size z 10 W h hB hl)
        have tok1 : True := trivial
        have tok2 : True := trivial
        rcases O1 with ⟨rfl, rfl⟩ | ⟨rfl, hb0, hb2, hb3⟩ | ⟨ha0, ha2, ha3, rfl⟩
        · rw [behind_0] at NX
          go_wp2_with (first
            | (go_at_call 87; have _t := tok1; clear _t tok1; refine (bldK_str w1.heap.size w1.heap.size s n _ D3.out B3.out.size (by omega)).mono ?_; rintro e w4 ⟨rfl, hD, hB, hO⟩; have D4 := Lib.hid hD; have B4 := Lib.hid (B3.out.trans hB); have hK := othB_block hO K3.out nb.out ent_neq; have k1 := cg_cell hK 1; have k2 := cg_cell hK 2; have hlt4 := cg_lt hK; clear hD hB hO hK)
            | (go_at_call 88; refine (WB.out (s ++ n) _ D4.out B4.out.size (by rw [ByteArray.size_append]; omega)).mono ?_; rintro e w6 ⟨rfl, hD, hB, hO⟩; have D6 := Lib.hid hD; have B6 := Lib.hid (B4.out.trans hB); have s6 := hB.size; clear hD hB hO))
          exact ⟨⟨j + 1, hjl, by rw [Int.natCast_succ], by rw [NX.out]; exact D6.out, B6.out, by omega⟩, by (simp [intOf]) <;> omega⟩
        · rw [behind_b hb0] at NX
          have q0 := Lib.hid (name_at C1.out hb2 hb3)
          have sm := NM.out b.toNat (by omega)
          have gb : (b != -1) = true := by simpa using hb0
          clear hb0
          generalize (etAt cs b.toNat).s = m at *
          have sl : ¬ 9223372036854775807 < 7 + m.size := by omega
          go_wp2_with (first
            | (go_at_call 87; have _t := tok1; clear _t tok1; refine (bldK_str w1.heap.size w1.heap.size s n _ D3.out B3.out.size (by omega)).mono ?_; rintro e w4 ⟨rfl, hD, hB, hO⟩; have D4 := Lib.hid hD; have B4 := Lib.hid (B3.out.trans hB); have hK := othB_block hO K3.out nb.out ent_neq; have k1 := cg_cell hK 1; have k2 := cg_cell hK 2; have hlt4 := cg_lt hK; have m4 := (B4.out.cell (p := ⟨b1, o1 + b.toNat * 3, none⟩) hb1).trans q0.out; clear hD hB hO hK)
            | (go_at_call 87; have _t := tok2; clear _t tok2; refine (bldK_str w1.heap.size w1.heap.size (s ++ n) _ _ D4.out B4.out.size (by rw [ByteArray.size_append, ByteArray.size_append]; omega)).mono ?_; rintro e w5 ⟨rfl, hD, hB, hO⟩; have D5 := Lib.hid hD; have B5 := Lib.hid (B4.out.trans hB); have s5 := hB.size; clear hD hB hO)
            | (go_at_call 88; refine (WB.out _ _ D5.out B5.out.size (by rw [ByteArray.size_append, ByteArray.size_append, ByteArray.size_append]; omega)).mono ?_; rintro e w6 ⟨rfl, hD, hB, hO⟩; have D6 := Lib.hid hD; have B6 := Lib.hid (B5.out.trans hB); have s6 := hB.size; clear hD hB hO))
          exact ⟨⟨j + 1, hjl, by rw [Int.natCast_succ], by rw [NX.out]; exact D6.out, B6.out, by omega⟩, by (simp [intOf]) <;> omega⟩
        · rw [behind_a ha0] at NX
          have q0 := Lib.hid (name_at C1.out ha2 ha3)
          have sm := NM.out a.toNat (by omega)
          have ga : (a != -1) = true := by simpa using ha0
          clear ha0
          generalize (etAt cs a.toNat).s = m at *
          have sl : ¬ 9223372036854775807 < 5 + m.size := by omega
          go_wp2_with (first
            | (go_at_call 87; have _t := tok1; clear _t tok1; refine (bldK_str w1.heap.size w1.heap.size s n _ D3.out B3.out.size (by omega)).mono ?_; rintro e w4 ⟨rfl, hD, hB, hO⟩; have D4 := Lib.hid hD; have B4 := Lib.hid (B3.out.trans hB); have hK := othB_block hO K3.out nb.out ent_neq; have k1 := cg_cell hK 1; have K4 := Lib.hid hK; have hlt4 := cg_lt hK; have m4 := (B4.out.cell (p := ⟨b1, o1 + a.toNat * 3, none⟩) hb1).trans q0.out; clear hD hB hO hK)
            | (go_at_call 87; have _t := tok2; clear _t tok2; refine (bldK_str w1.heap.size w1.heap.size (s ++ n) _ _ D4.out B4.out.size (by rw [ByteArray.size_append, ByteArray.size_append]; omega)).mono ?_; rintro e w5 ⟨rfl, hD, hB, hO⟩; have D5 := Lib.hid hD; have B5 := Lib.hid (B4.out.trans hB); have s5 := hB.size; have hK := othB_block hO K4.out nb.out ent_neq; have k2 := cg_cell hK 2; clear hD hB hO hK)
            | (go_at_call 88; refine (WB.out _ _ D5.out B5.out.size (by rw [ByteArray.size_append, ByteArray.size_append, ByteArray.size_append]; omega)).mono ?_; rintro e w6 ⟨rfl, hD, hB, hO⟩; have D6 := Lib.hid hD; have B6 := Lib.hid (B5.out.trans hB); have s6 := hB.size; clear hD hB hO))
          exact ⟨⟨j + 1, hjl, by rw [Int.natCast_succ], by rw [NX.out]; exact D6.out, B6.out, by omega⟩, by (simp [intOf]) <;> omega⟩
      · have e : j = cs.length := by omega
        subst e
        have hd : decide ((cs.length : Int) < (cs.length : Int)) = false := by simp
        clear hB
        go_wp2_with (go_at_call 89; refine (bldK_text w1.heap.size w1.heap.size _ _ D5.out B5.out.size).mono ?_; rintro e w6 ⟨rfl, hB⟩; have B6 := Lib.hid (B5.out.trans hB); clear hB)
        go_returns
        exact ⟨rfl, B1.out.trans (Below.mono B6.out B1.out.size)⟩

set_option maxRecDepth 100000 in
set_option maxHeartbeats 3200000 in
theorem sCg_any (ad : Option Addr) (cs : List Et) (c : Nat) (w : World) (hc : EntsIn w ad cs) (hk : catOk cs = true) :
    Calls Tryd.prog 49 #[.slice ad cs.length c] w fun e w' => e = .returned (.string (cgN cs cs.length)) ∧ Below w.heap.size w w' := by
  have C := Lib.hid hc
  have NM := Lib.hid fun i (hi : i < cs.length) => cat_name hk hi
  have ON := Lib.hid fun i (hi : i < cs.length) => cat_one hk hi
  have SZ := Lib.hid (cgN_size hk)
  have l40 := catOk_40 hk
  have z10 : (ByteArray.mk #[10]).size = 1 := rfl
  have zs5 : (ByteArray.mk #[59, 115, 101, 101, 32]).size = 5 := rfl
  have zs7 : (ByteArray.mk #[59, 98, 101, 108, 111, 119, 32]).size = 7 := rfl
  clear hc hk
  go_enter Tryd.func49, Tryd.ntmps49
  go_wp2
  go_loopw [3, 4, 5] (fun v i x wr => ∃ j : Nat, j ≤ cs.length ∧ i = .int .i64 (j : Int) ∧ v = .string (cgN cs j) ∧ Below w.heap.size w wr) (fun _ i _ _ => cs.length - (intOf i).toNat)
  case atStart => exact ⟨0, Nat.zero_le _, rfl, rfl, Below.refl _ _⟩
  case round =>
    obtain ⟨j, hj, rfl, rfl, hB⟩ := hrel
    have B5 := Lib.hid hB
    by_cases hjl : j < cs.length
    · have hd : decide ((j : Int) < (cs.length : Int)) = true := by simpa using hjl
      obtain ⟨_, b1, o1, rfl, hb1, p0, p1, p2⟩ := C.out j hjl
      have d0 := (hB.cell (p := ⟨b1, o1 + j * 3, none⟩) hb1).trans p0
      have d1 := (hB.cell (p := ⟨b1, o1 + j * 3 + 1, none⟩) hb1).trans p1
      have d2 := (hB.cell (p := ⟨b1, o1 + j * 3 + 2, none⟩) hb1).trans p2
      have i1 : (0 : Int) ≤ (j : Int) := by omega
      have i2 : (j : Int) < (cs.length : Int) := by omega
      have sz := SZ.out j hj
      have sn := NM.out j hjl
      have NX := Lib.hid (cgN_next cs j)
      have O1 := ON.out j hjl
      clear hB p0 p1 p2
      generalize cgN cs j = s at *
      generalize (etAt cs j).s = n at *
      generalize (etAt cs j).a = a at *
      generalize (etAt cs j).b = b at *
      have sl1 : ¬ 9223372036854775807 < s.size + n.size := by omega
      have sl2 : ¬ 9223372036854775807 < s.size + n.size + 1 := by omega
      rcases O1 with ⟨rfl, rfl⟩ | ⟨rfl, hb0, hb2, hb3⟩ | ⟨ha0, ha2, ha3, rfl⟩
      · rw [behind_0] at NX
        go_wp2
        exact ⟨⟨j + 1, hjl, by rw [Int.natCast_succ], by rw [NX.out], B5.out⟩, by (simp [intOf]) <;> omega⟩
      · rw [behind_b hb0] at NX
        have q0 := (B5.out.cell (p := ⟨b1, o1 + b.toNat * 3, none⟩) hb1).trans (name_at C.out hb2 hb3)
        have sm := NM.out b.toNat (by omega)
        have gb : (b != -1) = true := by simpa using hb0
        clear hb0
        generalize (etAt cs b.toNat).s = m at *
        have sl : ¬ 9223372036854775807 < 7 + m.size := by omega
        have sl3 : ¬ 9223372036854775807 < s.size + n.size + (7 + m.size) := by omega
        have sl4 : ¬ 9223372036854775807 < s.size + n.size + (7 + m.size) + 1 := by omega
        go_wp2
        exact ⟨⟨j + 1, hjl, by rw [Int.natCast_succ], by rw [NX.out], B5.out⟩, by (simp [intOf]) <;> omega⟩
      · rw [behind_a ha0] at NX
        have q0 := (B5.out.cell (p := ⟨b1, o1 + a.toNat * 3, none⟩) hb1).trans (name_at C.out ha2 ha3)
        have sm := NM.out a.toNat (by omega)
        have ga : (a != -1) = true := by simpa using ha0
        clear ha0
        generalize (etAt cs a.toNat).s = m at *
        have sl : ¬ 9223372036854775807 < 5 + m.size := by omega
        have sl3 : ¬ 9223372036854775807 < s.size + n.size + (5 + m.size) := by omega
        have sl4 : ¬ 9223372036854775807 < s.size + n.size + (5 + m.size) + 1 := by omega
        go_wp2
        exact ⟨⟨j + 1, hjl, by rw [Int.natCast_succ], by rw [NX.out], B5.out⟩, by (simp [intOf]) <;> omega⟩
    · have e : j = cs.length := by omega
      subst e
      have hd : decide ((cs.length : Int) < (cs.length : Int)) = false := by simp
      clear hB
      go_wp2
      go_ret
      exact ⟨rfl, B5.out⟩

end Go.Proofs.YtppjmngnjdeigaaDoor
