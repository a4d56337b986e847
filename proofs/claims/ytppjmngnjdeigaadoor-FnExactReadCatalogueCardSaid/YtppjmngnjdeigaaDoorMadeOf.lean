/- Contracts: strings.SplitSeq makes its iterator; is a word made of some bytes alone (strings.Trim). -/
import Derived.Test.YtppjmngnjdeigaaDoorSeq
import Derived.Test.YtppjmngnjdeigaaDoorBoxes
namespace Go.Proofs.YtppjmngnjdeigaaDoor
open Go.ChangeShapes Go.WideShapes Go.ChangeAt Go.RowKit

theorem splitSeq_made (s : ByteArray) (c : UInt8) (w : World) :
    Calls Tryd.prog 149 #[.string s, .string ⟨#[c]⟩, .int .i64 0] w fun e w' => e = .returned (.func (.func 156) #[] #[.pointer (some ⟨w.heap.size + 1, 0, none⟩), .pointer (some ⟨w.heap.size, 0, none⟩), .pointer (some ⟨w.heap.size + 2, 0, none⟩)]) ∧ SeqBoxes w.heap.size (w.heap.size + 1) (w.heap.size + 2) s c w' ∧ Below w.heap.size w w' := by
  have hmf : ∀ (fn : Fn) (first cap : Array Value) (w : World), (Instr.makeFunc fn first cap).run Tryd.prog w = .ok (.func fn first cap) w := fun _ _ _ _ => rfl
  go_enter Tryd.func149, Tryd.ntmps149
  go_wp2
  go_returns
  exact ⟨rfl, ⟨box3_lt0 .., box3_lt1 .., box3_lt2 .., by omega, by omega, (box3_0 ..).trans rfl, box3f_0 .., (box3_1 ..).trans rfl, (box3_2 ..).trans rfl⟩, (by repeat' (first | (with_reducible exact Below.refl _ _) | (with_reducible assumption) | (with_reducible refine below_drewN ?_ _) | (with_reducible refine Below.drew ?_) | (with_reducible refine below_new ?_ _) | (with_reducible refine below_next ?_ (by with_reducible assumption)) | (with_reducible refine Below.setCell ?_ ?_ _) | go_size))⟩

theorem splitSeq_any (s : ByteArray) (c : UInt8) (w : World) :
    Calls Tryd.prog 134 #[.string s, .string ⟨#[c]⟩] w fun e w' => e = .returned (.func (.func 156) #[] #[.pointer (some ⟨w.heap.size + 1, 0, none⟩), .pointer (some ⟨w.heap.size, 0, none⟩), .pointer (some ⟨w.heap.size + 2, 0, none⟩)]) ∧ SeqBoxes w.heap.size (w.heap.size + 1) (w.heap.size + 2) s c w' ∧ Below w.heap.size w w' := by
  go_enter Tryd.func134, Tryd.ntmps134
  go_wp2_with (go_at_call 149; refine (splitSeq_made s c _).mono ?_; rintro e w1 ⟨rfl, hS, hB⟩; have SS := Lib.hid hS; have BB := Lib.hid hB; clear hS hB)
  go_returns
  exact ⟨rfl, SS.out, BB.out⟩

/-- The letters and the digits. -/
def plainSet : ByteArray := ⟨#[97, 98, 99, 100, 101, 102, 103, 104, 105, 106, 107, 108, 109, 110, 111, 112, 113, 114, 115, 116, 117, 118, 119, 120, 121, 122, 48, 49, 50, 51, 52, 53, 54, 55, 56, 57]⟩
def allIn (cs : List UInt8) (p : ByteArray) : Bool := p.data.toList.all fun b => cs.contains b
theorem dropWhile_nil {p : UInt8 → Bool} : ∀ l : List UInt8, l.dropWhile p = [] ↔ l.all p = true
  | [] => by simp
  | x :: l => by
    by_cases h : p x = true
    · rw [List.dropWhile_cons_of_pos h, dropWhile_nil l, List.all_cons, h, Bool.true_and]
    · rw [List.dropWhile_cons_of_neg h, List.all_cons]
      simp [h]
theorem trimS_nil (cs l : List UInt8) : Lib.trimS l cs = [] ↔ l.all (fun b => cs.contains b) = true := by
  unfold Lib.trimS Lib.trimLeftS Lib.trimRightS
  rw [dropWhile_nil]
  constructor
  · intro h
    rw [List.all_reverse] at h
    have key : ∀ m : List UInt8, (m.dropWhile (cs.contains ·)).all (fun b => cs.contains b) = true → m.all (fun b => cs.contains b) = true := by
      intro m
      induction m with
      | nil => intro _; rfl
      | cons x m ih =>
        intro hm
        by_cases hx : cs.contains x = true
        · rw [List.dropWhile_cons_of_pos hx] at hm
          rw [List.all_cons, hx, Bool.true_and]; exact ih hm
        · rw [List.dropWhile_cons_of_neg hx] at hm
          exact hm
    have := key _ h
    rwa [List.all_reverse] at this
  · intro h
    rw [List.all_reverse, (dropWhile_nil (p := (cs.contains ·)) l.reverse).2 (by rw [List.all_reverse]; exact h)]
    rfl
theorem mkS_empty (l : List UInt8) : (⟨l.toArray⟩ : ByteArray).toList.isEmpty = l.isEmpty := by rw [Lib.toList_data]

theorem trimMade_any (s cs : ByteArray) (hs : s.size ≤ maxLen) (hcs : cs.size < 4294967281) (ha : cs.data.toList.all (fun b => decide (b.toNat < 128)) = true) (w : World) :
    Calls Tryd.prog 150 #[.string s, .string cs] w fun e w' => e = .returned (.string ⟨(Lib.trimS s.data.toList cs.data.toList).toArray⟩) ∧ Below w.heap.size w w' :=
  Any.strings_Trim_laid Tryd.lays160 (by kernel_rfl) s cs w (by unfold maxLen at hs; omega) hcs (ascii_of_all ha)

theorem madeOf_any (s cs : ByteArray) (hs : s.size ≤ maxLen) (hcs : cs.size < 4294967281) (ha : cs.data.toList.all (fun b => decide (b.toNat < 128)) = true) (w : World) :
    Calls Tryd.prog 135 #[.string s, .string cs] w fun e w' => e = .returned (.bool (allIn cs.data.toList s)) ∧ Below w.heap.size w w' := by
  have V := Lib.hid fun W => trimMade_any s cs hs hcs ha W
  have E : (⟨(Lib.trimS s.data.toList cs.data.toList).toArray⟩ : ByteArray).toList.isEmpty = allIn cs.data.toList s := by
    rw [mkS_empty]
    unfold allIn
    cases h : s.data.toList.all (fun b => cs.data.toList.contains b)
    · cases h2 : Lib.trimS s.data.toList cs.data.toList with
      | nil => rw [(trimS_nil _ _).1 h2] at h; cases h
      | cons x l => rfl
    · rw [(trimS_nil _ _).2 h]; rfl
  have EE := Lib.hid E
  clear E
  generalize (⟨(Lib.trimS s.data.toList cs.data.toList).toArray⟩ : ByteArray) = q at *
  clear hs hcs ha
  go_enter Tryd.func135, Tryd.ntmps135
  go_wp2_with (go_at_call 150; refine (V.out _).mono ?_; rintro e w1 ⟨rfl, hB⟩; have BB := Lib.hid hB; clear hB)
  go_returns
  exact ⟨by rw [← EE.out]; rfl, BB.out⟩
end Go.Proofs.YtppjmngnjdeigaaDoor
