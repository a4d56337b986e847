/- Contracts: is a field valid, as the model says. -/
import Derived.Test.YtnbijfeidgddmaaGreatDoorRsZ0
namespace Go.Proofs.YtnbijfeidgddmaaGreatDoor
open Go.ChangeShapes Go.WideShapes Go.ChangeAt Go.RowKit

set_option maxHeartbeats 1600000 in
theorem sVF_0 (s : ByteArray) (st sz : Int) (hs : s.size ≤ maxLen) (t1 : -32768 ≤ st) (t2 : st ≤ 32767) (z1 : -32768 ≤ sz) (z2 : sz ≤ 32767) (g o : Nat) (w : World) (h0 : w.cell? ⟨g, o, none⟩ = some (.string s)) (h1 : w.cell? ⟨g, o + 1, none⟩ = some (.int .i8 0)) (h2 : w.cell? ⟨g, o + 2, none⟩ = some (.int .i16 st)) (h3 : w.cell? ⟨g, o + 3, none⟩ = some (.int .i16 sz)) :
    Calls Tryz.prog 31 #[.pointer (some ⟨g, o, none⟩)] w fun e w' => e = .returned (.bool (fieldOk s 0 st sz)) ∧ Below w.heap.size w w' := by
  have S := Lib.hid hs
  have hz := mostZ_0
  have hw := widthZ_0 sz
  cases hn : nameOk s
  · have f := Lib.hid (field_name 0 st sz hn)
    have NF : Hid (∀ W : World, Calls Tryz.prog 63 #[.string s] W fun e w' => e = .returned (.bool false) ∧ w' = W) := fun W => (sName_any s S.out W).mono fun e w' h => ⟨by rw [h.1, hn], h.2.symm⟩
    clear hz hw hs hn
    go_enter Tryz.func31, Tryz.ntmps31
    go_wp2
    go_quiet ((first | (go_at_call 63; with_reducible exact Calls.quiet_of_same (NF.out _))))
    go_wp2
    go_returns
    exact ⟨ret_bool f.out.symm, (by repeat' (first | (with_reducible exact Below.refl _ _) | (with_reducible assumption) | (with_reducible refine below_drewN ?_ _) | (with_reducible refine Below.drew ?_) | (with_reducible refine below_new ?_ _) | (with_reducible refine below_next ?_ (by with_reducible assumption)) | (with_reducible refine Below.setCell ?_ ?_ _) | go_size))⟩
  · have NF : Hid (∀ W : World, Calls Tryz.prog 63 #[.string s] W fun e w' => e = .returned (.bool true) ∧ w' = W) := fun W => (sName_any s S.out W).mono fun e w' h => ⟨by rw [h.1, hn], h.2.symm⟩
    by_cases d1 : 1 ≤ sz ∧ sz ≤ 24
    · obtain ⟨d0, d1⟩ := d1
      have i1 := inB_yes d0 d1
      by_cases d2 : 0 ≤ st ∧ st ≤ 96 - (sz)
      · have f := Lib.hid (field_yes (k := 0) (st := st) (sz := sz) hn ⟨by omega, by omega, by omega, by omega, by omega, by omega⟩)
        have i2 := inB_yes d2.1 d2.2
        have I1 : Hid (∀ W : World, Calls Tryz.prog 64 #[.int .i64 sz, .int .i64 1, .int .i64 24] W fun e w' => e = .returned (.bool true) ∧ w' = W) := fun W => (sIn_any _ _ _ W).mono fun e w' h => ⟨by rw [h.1, i1], h.2.symm⟩
        have I2 : Hid (∀ W : World, Calls Tryz.prog 64 #[.int .i64 st, .int .i64 0, .int .i64 (96 - (sz))] W fun e w' => e = .returned (.bool true) ∧ w' = W) := fun W => (sIn_any _ _ _ W).mono fun e w' h => ⟨by rw [h.1, i2], h.2.symm⟩
        clear hz hw hs d2 i1 i2 hn
        go_enter Tryz.func31, Tryz.ntmps31
        go_wp2
        go_quiet ((first | (go_at_call 63; with_reducible exact Calls.quiet_of_same (NF.out _)) | (go_at_call_of 64 (Value.int IntKind.i64 1); with_reducible exact Calls.quiet_of_same (I1.out _)) | (go_at_call_of 64 (Value.int IntKind.i64 0); with_reducible exact Calls.quiet_of_same (I2.out _)) | (go_at_call 65; exact Calls.quiet_of_same ((sWidth_0 sz (by omega) (by omega) g o _ (by exact h1) (by exact h3)).mono fun e w' h => ⟨h.1, h.2.symm⟩))))
        go_wp2
        go_returns
        exact ⟨ret_bool f.out.symm, (by repeat' (first | (with_reducible exact Below.refl _ _) | (with_reducible assumption) | (with_reducible refine below_drewN ?_ _) | (with_reducible refine Below.drew ?_) | (with_reducible refine below_new ?_ _) | (with_reducible refine below_next ?_ (by with_reducible assumption)) | (with_reducible refine Below.setCell ?_ ?_ _) | go_size))⟩
      · have f := Lib.hid (field_no (s := s) (k := 0) (st := st) (sz := sz) (fun x => by omega))
        have i2 := inB_no d2
        have I1 : Hid (∀ W : World, Calls Tryz.prog 64 #[.int .i64 sz, .int .i64 1, .int .i64 24] W fun e w' => e = .returned (.bool true) ∧ w' = W) := fun W => (sIn_any _ _ _ W).mono fun e w' h => ⟨by rw [h.1, i1], h.2.symm⟩
        have I2 : Hid (∀ W : World, Calls Tryz.prog 64 #[.int .i64 st, .int .i64 0, .int .i64 (96 - (sz))] W fun e w' => e = .returned (.bool false) ∧ w' = W) := fun W => (sIn_any _ _ _ W).mono fun e w' h => ⟨by rw [h.1, i2], h.2.symm⟩
        clear hz hw hs d2 i1 i2 hn
        go_enter Tryz.func31, Tryz.ntmps31
        go_wp2
        go_quiet ((first | (go_at_call 63; with_reducible exact Calls.quiet_of_same (NF.out _)) | (go_at_call_of 64 (Value.int IntKind.i64 1); with_reducible exact Calls.quiet_of_same (I1.out _)) | (go_at_call_of 64 (Value.int IntKind.i64 0); with_reducible exact Calls.quiet_of_same (I2.out _)) | (go_at_call 65; exact Calls.quiet_of_same ((sWidth_0 sz (by omega) (by omega) g o _ (by exact h1) (by exact h3)).mono fun e w' h => ⟨h.1, h.2.symm⟩))))
        go_wp2
        go_returns
        exact ⟨ret_bool f.out.symm, (by repeat' (first | (with_reducible exact Below.refl _ _) | (with_reducible assumption) | (with_reducible refine below_drewN ?_ _) | (with_reducible refine Below.drew ?_) | (with_reducible refine below_new ?_ _) | (with_reducible refine below_next ?_ (by with_reducible assumption)) | (with_reducible refine Below.setCell ?_ ?_ _) | go_size))⟩
    · have f := Lib.hid (field_no (s := s) (k := 0) (st := st) (sz := sz) (fun x => by omega))
      have i1 := inB_no d1
      have I1 : Hid (∀ W : World, Calls Tryz.prog 64 #[.int .i64 sz, .int .i64 1, .int .i64 24] W fun e w' => e = .returned (.bool false) ∧ w' = W) := fun W => (sIn_any _ _ _ W).mono fun e w' h => ⟨by rw [h.1, i1], h.2.symm⟩
      clear hz hw hs d1 i1 hn
      go_enter Tryz.func31, Tryz.ntmps31
      go_wp2
      go_quiet ((first | (go_at_call 63; with_reducible exact Calls.quiet_of_same (NF.out _)) | (go_at_call_of 64 (Value.int IntKind.i64 1); with_reducible exact Calls.quiet_of_same (I1.out _))))
      go_wp2
      go_returns
      exact ⟨ret_bool f.out.symm, (by repeat' (first | (with_reducible exact Below.refl _ _) | (with_reducible assumption) | (with_reducible refine below_drewN ?_ _) | (with_reducible refine Below.drew ?_) | (with_reducible refine below_new ?_ _) | (with_reducible refine below_next ?_ (by with_reducible assumption)) | (with_reducible refine Below.setCell ?_ ?_ _) | go_size))⟩

set_option maxHeartbeats 1600000 in
theorem sVF_1 (s : ByteArray) (st sz : Int) (hs : s.size ≤ maxLen) (t1 : -32768 ≤ st) (t2 : st ≤ 32767) (z1 : -32768 ≤ sz) (z2 : sz ≤ 32767) (g o : Nat) (w : World) (h0 : w.cell? ⟨g, o, none⟩ = some (.string s)) (h1 : w.cell? ⟨g, o + 1, none⟩ = some (.int .i8 1)) (h2 : w.cell? ⟨g, o + 2, none⟩ = some (.int .i16 st)) (h3 : w.cell? ⟨g, o + 3, none⟩ = some (.int .i16 sz)) :
    Calls Tryz.prog 31 #[.pointer (some ⟨g, o, none⟩)] w fun e w' => e = .returned (.bool (fieldOk s 1 st sz)) ∧ Below w.heap.size w w' := by
  have S := Lib.hid hs
  have hz := mostZ_1
  have hw := widthZ_1 sz
  cases hn : nameOk s
  · have f := Lib.hid (field_name 1 st sz hn)
    have NF : Hid (∀ W : World, Calls Tryz.prog 63 #[.string s] W fun e w' => e = .returned (.bool false) ∧ w' = W) := fun W => (sName_any s S.out W).mono fun e w' h => ⟨by rw [h.1, hn], h.2.symm⟩
    clear hz hw hs hn
    go_enter Tryz.func31, Tryz.ntmps31
    go_wp2
    go_quiet ((first | (go_at_call 63; with_reducible exact Calls.quiet_of_same (NF.out _))))
    go_wp2
    go_returns
    exact ⟨ret_bool f.out.symm, (by repeat' (first | (with_reducible exact Below.refl _ _) | (with_reducible assumption) | (with_reducible refine below_drewN ?_ _) | (with_reducible refine Below.drew ?_) | (with_reducible refine below_new ?_ _) | (with_reducible refine below_next ?_ (by with_reducible assumption)) | (with_reducible refine Below.setCell ?_ ?_ _) | go_size))⟩
  · have NF : Hid (∀ W : World, Calls Tryz.prog 63 #[.string s] W fun e w' => e = .returned (.bool true) ∧ w' = W) := fun W => (sName_any s S.out W).mono fun e w' h => ⟨by rw [h.1, hn], h.2.symm⟩
    by_cases d1 : 1 ≤ sz ∧ sz ≤ 4
    · obtain ⟨d0, d1⟩ := d1
      have i1 := inB_yes d0 d1
      by_cases d2 : 0 ≤ st ∧ st ≤ 96 - (4 * sz)
      · have f := Lib.hid (field_yes (k := 1) (st := st) (sz := sz) hn ⟨by omega, by omega, by omega, by omega, by omega, by omega⟩)
        have i2 := inB_yes d2.1 d2.2
        have I1 : Hid (∀ W : World, Calls Tryz.prog 64 #[.int .i64 sz, .int .i64 1, .int .i64 4] W fun e w' => e = .returned (.bool true) ∧ w' = W) := fun W => (sIn_any _ _ _ W).mono fun e w' h => ⟨by rw [h.1, i1], h.2.symm⟩
        have I2 : Hid (∀ W : World, Calls Tryz.prog 64 #[.int .i64 st, .int .i64 0, .int .i64 (96 - (4 * sz))] W fun e w' => e = .returned (.bool true) ∧ w' = W) := fun W => (sIn_any _ _ _ W).mono fun e w' h => ⟨by rw [h.1, i2], h.2.symm⟩
        clear hz hw hs d2 i1 i2 hn
        go_enter Tryz.func31, Tryz.ntmps31
        go_wp2
        go_quiet ((first | (go_at_call 63; with_reducible exact Calls.quiet_of_same (NF.out _)) | (go_at_call_of 64 (Value.int IntKind.i64 1); with_reducible exact Calls.quiet_of_same (I1.out _)) | (go_at_call_of 64 (Value.int IntKind.i64 0); with_reducible exact Calls.quiet_of_same (I2.out _)) | (go_at_call 65; exact Calls.quiet_of_same ((sWidth_1 sz (by omega) (by omega) g o _ (by exact h1) (by exact h3)).mono fun e w' h => ⟨h.1, h.2.symm⟩))))
        go_wp2
        go_returns
        exact ⟨ret_bool f.out.symm, (by repeat' (first | (with_reducible exact Below.refl _ _) | (with_reducible assumption) | (with_reducible refine below_drewN ?_ _) | (with_reducible refine Below.drew ?_) | (with_reducible refine below_new ?_ _) | (with_reducible refine below_next ?_ (by with_reducible assumption)) | (with_reducible refine Below.setCell ?_ ?_ _) | go_size))⟩
      · have f := Lib.hid (field_no (s := s) (k := 1) (st := st) (sz := sz) (fun x => by omega))
        have i2 := inB_no d2
        have I1 : Hid (∀ W : World, Calls Tryz.prog 64 #[.int .i64 sz, .int .i64 1, .int .i64 4] W fun e w' => e = .returned (.bool true) ∧ w' = W) := fun W => (sIn_any _ _ _ W).mono fun e w' h => ⟨by rw [h.1, i1], h.2.symm⟩
        have I2 : Hid (∀ W : World, Calls Tryz.prog 64 #[.int .i64 st, .int .i64 0, .int .i64 (96 - (4 * sz))] W fun e w' => e = .returned (.bool false) ∧ w' = W) := fun W => (sIn_any _ _ _ W).mono fun e w' h => ⟨by rw [h.1, i2], h.2.symm⟩
        clear hz hw hs d2 i1 i2 hn
        go_enter Tryz.func31, Tryz.ntmps31
        go_wp2
        go_quiet ((first | (go_at_call 63; with_reducible exact Calls.quiet_of_same (NF.out _)) | (go_at_call_of 64 (Value.int IntKind.i64 1); with_reducible exact Calls.quiet_of_same (I1.out _)) | (go_at_call_of 64 (Value.int IntKind.i64 0); with_reducible exact Calls.quiet_of_same (I2.out _)) | (go_at_call 65; exact Calls.quiet_of_same ((sWidth_1 sz (by omega) (by omega) g o _ (by exact h1) (by exact h3)).mono fun e w' h => ⟨h.1, h.2.symm⟩))))
        go_wp2
        go_returns
        exact ⟨ret_bool f.out.symm, (by repeat' (first | (with_reducible exact Below.refl _ _) | (with_reducible assumption) | (with_reducible refine below_drewN ?_ _) | (with_reducible refine Below.drew ?_) | (with_reducible refine below_new ?_ _) | (with_reducible refine below_next ?_ (by with_reducible assumption)) | (with_reducible refine Below.setCell ?_ ?_ _) | go_size))⟩
    · have f := Lib.hid (field_no (s := s) (k := 1) (st := st) (sz := sz) (fun x => by omega))
      have i1 := inB_no d1
      have I1 : Hid (∀ W : World, Calls Tryz.prog 64 #[.int .i64 sz, .int .i64 1, .int .i64 4] W fun e w' => e = .returned (.bool false) ∧ w' = W) := fun W => (sIn_any _ _ _ W).mono fun e w' h => ⟨by rw [h.1, i1], h.2.symm⟩
      clear hz hw hs d1 i1 hn
      go_enter Tryz.func31, Tryz.ntmps31
      go_wp2
      go_quiet ((first | (go_at_call 63; with_reducible exact Calls.quiet_of_same (NF.out _)) | (go_at_call_of 64 (Value.int IntKind.i64 1); with_reducible exact Calls.quiet_of_same (I1.out _))))
      go_wp2
      go_returns
      exact ⟨ret_bool f.out.symm, (by repeat' (first | (with_reducible exact Below.refl _ _) | (with_reducible assumption) | (with_reducible refine below_drewN ?_ _) | (with_reducible refine Below.drew ?_) | (with_reducible refine below_new ?_ _) | (with_reducible refine below_next ?_ (by with_reducible assumption)) | (with_reducible refine Below.setCell ?_ ?_ _) | go_size))⟩

set_option maxHeartbeats 1600000 in
theorem sVF_2 (s : ByteArray) (st sz : Int) (hs : s.size ≤ maxLen) (t1 : -32768 ≤ st) (t2 : st ≤ 32767) (z1 : -32768 ≤ sz) (z2 : sz ≤ 32767) (g o : Nat) (w : World) (h0 : w.cell? ⟨g, o, none⟩ = some (.string s)) (h1 : w.cell? ⟨g, o + 1, none⟩ = some (.int .i8 2)) (h2 : w.cell? ⟨g, o + 2, none⟩ = some (.int .i16 st)) (h3 : w.cell? ⟨g, o + 3, none⟩ = some (.int .i16 sz)) :
    Calls Tryz.prog 31 #[.pointer (some ⟨g, o, none⟩)] w fun e w' => e = .returned (.bool (fieldOk s 2 st sz)) ∧ Below w.heap.size w w' := by
  have S := Lib.hid hs
  have hz := mostZ_2
  have hw := widthZ_2 sz
  cases hn : nameOk s
  · have f := Lib.hid (field_name 2 st sz hn)
    have NF : Hid (∀ W : World, Calls Tryz.prog 63 #[.string s] W fun e w' => e = .returned (.bool false) ∧ w' = W) := fun W => (sName_any s S.out W).mono fun e w' h => ⟨by rw [h.1, hn], h.2.symm⟩
    clear hz hw hs hn
    go_enter Tryz.func31, Tryz.ntmps31
    go_wp2
    go_quiet ((first | (go_at_call 63; with_reducible exact Calls.quiet_of_same (NF.out _))))
    go_wp2
    go_returns
    exact ⟨ret_bool f.out.symm, (by repeat' (first | (with_reducible exact Below.refl _ _) | (with_reducible assumption) | (with_reducible refine below_drewN ?_ _) | (with_reducible refine Below.drew ?_) | (with_reducible refine below_new ?_ _) | (with_reducible refine below_next ?_ (by with_reducible assumption)) | (with_reducible refine Below.setCell ?_ ?_ _) | go_size))⟩
  · have NF : Hid (∀ W : World, Calls Tryz.prog 63 #[.string s] W fun e w' => e = .returned (.bool true) ∧ w' = W) := fun W => (sName_any s S.out W).mono fun e w' h => ⟨by rw [h.1, hn], h.2.symm⟩
    by_cases d1 : 1 ≤ sz ∧ sz ≤ 4
    · obtain ⟨d0, d1⟩ := d1
      have i1 := inB_yes d0 d1
      by_cases d2 : 0 ≤ st ∧ st ≤ 96 - (5 * sz)
      · have f := Lib.hid (field_yes (k := 2) (st := st) (sz := sz) hn ⟨by omega, by omega, by omega, by omega, by omega, by omega⟩)
        have i2 := inB_yes d2.1 d2.2
        have I1 : Hid (∀ W : World, Calls Tryz.prog 64 #[.int .i64 sz, .int .i64 1, .int .i64 4] W fun e w' => e = .returned (.bool true) ∧ w' = W) := fun W => (sIn_any _ _ _ W).mono fun e w' h => ⟨by rw [h.1, i1], h.2.symm⟩
        have I2 : Hid (∀ W : World, Calls Tryz.prog 64 #[.int .i64 st, .int .i64 0, .int .i64 (96 - (5 * sz))] W fun e w' => e = .returned (.bool true) ∧ w' = W) := fun W => (sIn_any _ _ _ W).mono fun e w' h => ⟨by rw [h.1, i2], h.2.symm⟩
        clear hz hw hs d2 i1 i2 hn
        go_enter Tryz.func31, Tryz.ntmps31
        go_wp2
        go_quiet ((first | (go_at_call 63; with_reducible exact Calls.quiet_of_same (NF.out _)) | (go_at_call_of 64 (Value.int IntKind.i64 1); with_reducible exact Calls.quiet_of_same (I1.out _)) | (go_at_call_of 64 (Value.int IntKind.i64 0); with_reducible exact Calls.quiet_of_same (I2.out _)) | (go_at_call 65; exact Calls.quiet_of_same ((sWidth_2 sz (by omega) (by omega) g o _ (by exact h1) (by exact h3)).mono fun e w' h => ⟨h.1, h.2.symm⟩))))
        go_wp2
        go_returns
        exact ⟨ret_bool f.out.symm, (by repeat' (first | (with_reducible exact Below.refl _ _) | (with_reducible assumption) | (with_reducible refine below_drewN ?_ _) | (with_reducible refine Below.drew ?_) | (with_reducible refine below_new ?_ _) | (with_reducible refine below_next ?_ (by with_reducible assumption)) | (with_reducible refine Below.setCell ?_ ?_ _) | go_size))⟩
      · have f := Lib.hid (field_no (s := s) (k := 2) (st := st) (sz := sz) (fun x => by omega))
        have i2 := inB_no d2
        have I1 : Hid (∀ W : World, Calls Tryz.prog 64 #[.int .i64 sz, .int .i64 1, .int .i64 4] W fun e w' => e = .returned (.bool true) ∧ w' = W) := fun W => (sIn_any _ _ _ W).mono fun e w' h => ⟨by rw [h.1, i1], h.2.symm⟩
        have I2 : Hid (∀ W : World, Calls Tryz.prog 64 #[.int .i64 st, .int .i64 0, .int .i64 (96 - (5 * sz))] W fun e w' => e = .returned (.bool false) ∧ w' = W) := fun W => (sIn_any _ _ _ W).mono fun e w' h => ⟨by rw [h.1, i2], h.2.symm⟩
        clear hz hw hs d2 i1 i2 hn
        go_enter Tryz.func31, Tryz.ntmps31
        go_wp2
        go_quiet ((first | (go_at_call 63; with_reducible exact Calls.quiet_of_same (NF.out _)) | (go_at_call_of 64 (Value.int IntKind.i64 1); with_reducible exact Calls.quiet_of_same (I1.out _)) | (go_at_call_of 64 (Value.int IntKind.i64 0); with_reducible exact Calls.quiet_of_same (I2.out _)) | (go_at_call 65; exact Calls.quiet_of_same ((sWidth_2 sz (by omega) (by omega) g o _ (by exact h1) (by exact h3)).mono fun e w' h => ⟨h.1, h.2.symm⟩))))
        go_wp2
        go_returns
        exact ⟨ret_bool f.out.symm, (by repeat' (first | (with_reducible exact Below.refl _ _) | (with_reducible assumption) | (with_reducible refine below_drewN ?_ _) | (with_reducible refine Below.drew ?_) | (with_reducible refine below_new ?_ _) | (with_reducible refine below_next ?_ (by with_reducible assumption)) | (with_reducible refine Below.setCell ?_ ?_ _) | go_size))⟩
    · have f := Lib.hid (field_no (s := s) (k := 2) (st := st) (sz := sz) (fun x => by omega))
      have i1 := inB_no d1
      have I1 : Hid (∀ W : World, Calls Tryz.prog 64 #[.int .i64 sz, .int .i64 1, .int .i64 4] W fun e w' => e = .returned (.bool false) ∧ w' = W) := fun W => (sIn_any _ _ _ W).mono fun e w' h => ⟨by rw [h.1, i1], h.2.symm⟩
      clear hz hw hs d1 i1 hn
      go_enter Tryz.func31, Tryz.ntmps31
      go_wp2
      go_quiet ((first | (go_at_call 63; with_reducible exact Calls.quiet_of_same (NF.out _)) | (go_at_call_of 64 (Value.int IntKind.i64 1); with_reducible exact Calls.quiet_of_same (I1.out _))))
      go_wp2
      go_returns
      exact ⟨ret_bool f.out.symm, (by repeat' (first | (with_reducible exact Below.refl _ _) | (with_reducible assumption) | (with_reducible refine below_drewN ?_ _) | (with_reducible refine Below.drew ?_) | (with_reducible refine below_new ?_ _) | (with_reducible refine below_next ?_ (by with_reducible assumption)) | (with_reducible refine Below.setCell ?_ ?_ _) | go_size))⟩

set_option maxHeartbeats 1600000 in
theorem sVF_3 (s : ByteArray) (st sz : Int) (hs : s.size ≤ maxLen) (t1 : -32768 ≤ st) (t2 : st ≤ 32767) (z1 : -32768 ≤ sz) (z2 : sz ≤ 32767) (g o : Nat) (w : World) (h0 : w.cell? ⟨g, o, none⟩ = some (.string s)) (h1 : w.cell? ⟨g, o + 1, none⟩ = some (.int .i8 3)) (h2 : w.cell? ⟨g, o + 2, none⟩ = some (.int .i16 st)) (h3 : w.cell? ⟨g, o + 3, none⟩ = some (.int .i16 sz)) :
    Calls Tryz.prog 31 #[.pointer (some ⟨g, o, none⟩)] w fun e w' => e = .returned (.bool (fieldOk s 3 st sz)) ∧ Below w.heap.size w w' := by
  have S := Lib.hid hs
  have hz := mostZ_3
  have hw := widthZ_3 sz
  cases hn : nameOk s
  · have f := Lib.hid (field_name 3 st sz hn)
    have NF : Hid (∀ W : World, Calls Tryz.prog 63 #[.string s] W fun e w' => e = .returned (.bool false) ∧ w' = W) := fun W => (sName_any s S.out W).mono fun e w' h => ⟨by rw [h.1, hn], h.2.symm⟩
    clear hz hw hs hn
    go_enter Tryz.func31, Tryz.ntmps31
    go_wp2
    go_quiet ((first | (go_at_call 63; with_reducible exact Calls.quiet_of_same (NF.out _))))
    go_wp2
    go_returns
    exact ⟨ret_bool f.out.symm, (by repeat' (first | (with_reducible exact Below.refl _ _) | (with_reducible assumption) | (with_reducible refine below_drewN ?_ _) | (with_reducible refine Below.drew ?_) | (with_reducible refine below_new ?_ _) | (with_reducible refine below_next ?_ (by with_reducible assumption)) | (with_reducible refine Below.setCell ?_ ?_ _) | go_size))⟩
  · have NF : Hid (∀ W : World, Calls Tryz.prog 63 #[.string s] W fun e w' => e = .returned (.bool true) ∧ w' = W) := fun W => (sName_any s S.out W).mono fun e w' h => ⟨by rw [h.1, hn], h.2.symm⟩
    by_cases d1 : 1 ≤ sz ∧ sz ≤ 12
    · obtain ⟨d0, d1⟩ := d1
      have i1 := inB_yes d0 d1
      by_cases d2 : 0 ≤ st ∧ st ≤ 96 - (sz + 1)
      · have f := Lib.hid (field_yes (k := 3) (st := st) (sz := sz) hn ⟨by omega, by omega, by omega, by omega, by omega, by omega⟩)
        have i2 := inB_yes d2.1 d2.2
        have I1 : Hid (∀ W : World, Calls Tryz.prog 64 #[.int .i64 sz, .int .i64 1, .int .i64 12] W fun e w' => e = .returned (.bool true) ∧ w' = W) := fun W => (sIn_any _ _ _ W).mono fun e w' h => ⟨by rw [h.1, i1], h.2.symm⟩
        have I2 : Hid (∀ W : World, Calls Tryz.prog 64 #[.int .i64 st, .int .i64 0, .int .i64 (96 - (sz + 1))] W fun e w' => e = .returned (.bool true) ∧ w' = W) := fun W => (sIn_any _ _ _ W).mono fun e w' h => ⟨by rw [h.1, i2], h.2.symm⟩
        clear hz hw hs d2 i1 i2 hn
        go_enter Tryz.func31, Tryz.ntmps31
        go_wp2
        go_quiet ((first | (go_at_call 63; with_reducible exact Calls.quiet_of_same (NF.out _)) | (go_at_call_of 64 (Value.int IntKind.i64 1); with_reducible exact Calls.quiet_of_same (I1.out _)) | (go_at_call_of 64 (Value.int IntKind.i64 0); with_reducible exact Calls.quiet_of_same (I2.out _)) | (go_at_call 65; exact Calls.quiet_of_same ((sWidth_3 sz (by omega) (by omega) g o _ (by exact h1) (by exact h3)).mono fun e w' h => ⟨h.1, h.2.symm⟩))))
        go_wp2
        go_returns
        exact ⟨ret_bool f.out.symm, (by repeat' (first | (with_reducible exact Below.refl _ _) | (with_reducible assumption) | (with_reducible refine below_drewN ?_ _) | (with_reducible refine Below.drew ?_) | (with_reducible refine below_new ?_ _) | (with_reducible refine below_next ?_ (by with_reducible assumption)) | (with_reducible refine Below.setCell ?_ ?_ _) | go_size))⟩
      · have f := Lib.hid (field_no (s := s) (k := 3) (st := st) (sz := sz) (fun x => by omega))
        have i2 := inB_no d2
        have I1 : Hid (∀ W : World, Calls Tryz.prog 64 #[.int .i64 sz, .int .i64 1, .int .i64 12] W fun e w' => e = .returned (.bool true) ∧ w' = W) := fun W => (sIn_any _ _ _ W).mono fun e w' h => ⟨by rw [h.1, i1], h.2.symm⟩
        have I2 : Hid (∀ W : World, Calls Tryz.prog 64 #[.int .i64 st, .int .i64 0, .int .i64 (96 - (sz + 1))] W fun e w' => e = .returned (.bool false) ∧ w' = W) := fun W => (sIn_any _ _ _ W).mono fun e w' h => ⟨by rw [h.1, i2], h.2.symm⟩
        clear hz hw hs d2 i1 i2 hn
        go_enter Tryz.func31, Tryz.ntmps31
        go_wp2
        go_quiet ((first | (go_at_call 63; with_reducible exact Calls.quiet_of_same (NF.out _)) | (go_at_call_of 64 (Value.int IntKind.i64 1); with_reducible exact Calls.quiet_of_same (I1.out _)) | (go_at_call_of 64 (Value.int IntKind.i64 0); with_reducible exact Calls.quiet_of_same (I2.out _)) | (go_at_call 65; exact Calls.quiet_of_same ((sWidth_3 sz (by omega) (by omega) g o _ (by exact h1) (by exact h3)).mono fun e w' h => ⟨h.1, h.2.symm⟩))))
        go_wp2
        go_returns
        exact ⟨ret_bool f.out.symm, (by repeat' (first | (with_reducible exact Below.refl _ _) | (with_reducible assumption) | (with_reducible refine below_drewN ?_ _) | (with_reducible refine Below.drew ?_) | (with_reducible refine below_new ?_ _) | (with_reducible refine below_next ?_ (by with_reducible assumption)) | (with_reducible refine Below.setCell ?_ ?_ _) | go_size))⟩
    · have f := Lib.hid (field_no (s := s) (k := 3) (st := st) (sz := sz) (fun x => by omega))
      have i1 := inB_no d1
      have I1 : Hid (∀ W : World, Calls Tryz.prog 64 #[.int .i64 sz, .int .i64 1, .int .i64 12] W fun e w' => e = .returned (.bool false) ∧ w' = W) := fun W => (sIn_any _ _ _ W).mono fun e w' h => ⟨by rw [h.1, i1], h.2.symm⟩
      clear hz hw hs d1 i1 hn
      go_enter Tryz.func31, Tryz.ntmps31
      go_wp2
      go_quiet ((first | (go_at_call 63; with_reducible exact Calls.quiet_of_same (NF.out _)) | (go_at_call_of 64 (Value.int IntKind.i64 1); with_reducible exact Calls.quiet_of_same (I1.out _))))
      go_wp2
      go_returns
      exact ⟨ret_bool f.out.symm, (by repeat' (first | (with_reducible exact Below.refl _ _) | (with_reducible assumption) | (with_reducible refine below_drewN ?_ _) | (with_reducible refine Below.drew ?_) | (with_reducible refine below_new ?_ _) | (with_reducible refine below_next ?_ (by with_reducible assumption)) | (with_reducible refine Below.setCell ?_ ?_ _) | go_size))⟩

set_option maxHeartbeats 800000 in
theorem sVF_x (s : ByteArray) (k st sz : Int) (hs : s.size ≤ maxLen) (k0 : (k == 0) = false) (k1 : (k == 1) = false) (k2 : (k == 2) = false) (k3 : (k == 3) = false) (z1 : -32768 ≤ sz) (z2 : sz ≤ 32767) (g o : Nat) (w : World) (h0 : w.cell? ⟨g, o, none⟩ = some (.string s)) (h1 : w.cell? ⟨g, o + 1, none⟩ = some (.int .i8 k)) (_h2 : w.cell? ⟨g, o + 2, none⟩ = some (.int .i16 st)) (h3 : w.cell? ⟨g, o + 3, none⟩ = some (.int .i16 sz)) :
    Calls Tryz.prog 31 #[.pointer (some ⟨g, o, none⟩)] w fun e w' => e = .returned (.bool (fieldOk s k st sz)) ∧ Below w.heap.size w w' := by
  have S := Lib.hid hs
  have f := Lib.hid (field_no (s := s) (k := k) (st := st) (sz := sz) (fun x => by simp at k0 k1 k2 k3; omega))
  have i1 := inB_no (n := sz) (lo := 1) (hi := 0) (by omega)
  clear hs
  cases hn : nameOk s
  · have NF : Hid (∀ W : World, Calls Tryz.prog 63 #[.string s] W fun e w' => e = .returned (.bool false) ∧ w' = W) := fun W => (sName_any s S.out W).mono fun e w' h => ⟨by rw [h.1, hn], h.2.symm⟩
    clear hn i1
    go_enter Tryz.func31, Tryz.ntmps31
    go_wp2
    go_quiet ((first | (go_at_call 63; with_reducible exact Calls.quiet_of_same (NF.out _))))
    go_wp2
    go_returns
    exact ⟨ret_bool f.out.symm, (by repeat' (first | (with_reducible exact Below.refl _ _) | (with_reducible assumption) | (with_reducible refine below_drewN ?_ _) | (with_reducible refine Below.drew ?_) | (with_reducible refine below_new ?_ _) | (with_reducible refine below_next ?_ (by with_reducible assumption)) | (with_reducible refine Below.setCell ?_ ?_ _) | go_size))⟩
  · have NF : Hid (∀ W : World, Calls Tryz.prog 63 #[.string s] W fun e w' => e = .returned (.bool true) ∧ w' = W) := fun W => (sName_any s S.out W).mono fun e w' h => ⟨by rw [h.1, hn], h.2.symm⟩
    have I1 : Hid (∀ W : World, Calls Tryz.prog 64 #[.int .i64 sz, .int .i64 1, .int .i64 0] W fun e w' => e = .returned (.bool false) ∧ w' = W) := fun W => (sIn_any _ _ _ W).mono fun e w' h => ⟨by rw [h.1, i1], h.2.symm⟩
    clear hn i1
    go_enter Tryz.func31, Tryz.ntmps31
    go_wp2
    go_quiet ((first | (go_at_call 63; with_reducible exact Calls.quiet_of_same (NF.out _)) | (go_at_call_of 64 (Value.int IntKind.i64 1); with_reducible exact Calls.quiet_of_same (I1.out _))))
    go_wp2
    go_returns
    exact ⟨ret_bool f.out.symm, (by repeat' (first | (with_reducible exact Below.refl _ _) | (with_reducible assumption) | (with_reducible refine below_drewN ?_ _) | (with_reducible refine Below.drew ?_) | (with_reducible refine below_new ?_ _) | (with_reducible refine below_next ?_ (by with_reducible assumption)) | (with_reducible refine Below.setCell ?_ ?_ _) | go_size))⟩

theorem sVF_any (s : ByteArray) (k st sz : Int) (hs : s.size ≤ maxLen) (ht : I16 st) (hz : I16 sz) (g o : Nat) (w : World) (h0 : w.cell? ⟨g, o, none⟩ = some (.string s)) (h1 : w.cell? ⟨g, o + 1, none⟩ = some (.int .i8 k)) (h2 : w.cell? ⟨g, o + 2, none⟩ = some (.int .i16 st)) (h3 : w.cell? ⟨g, o + 3, none⟩ = some (.int .i16 sz)) :
    Calls Tryz.prog 31 #[.pointer (some ⟨g, o, none⟩)] w fun e w' => e = .returned (.bool (fieldOk s k st sz)) ∧ Below w.heap.size w w' := by
  obtain ⟨t1, t2⟩ := ht
  obtain ⟨z1, z2⟩ := hz
  by_cases a0 : k = 0
  · subst a0; exact sVF_0 s st sz hs t1 t2 z1 z2 g o w h0 h1 h2 h3
  · by_cases a1 : k = 1
    · subst a1; exact sVF_1 s st sz hs t1 t2 z1 z2 g o w h0 h1 h2 h3
    · by_cases a2 : k = 2
      · subst a2; exact sVF_2 s st sz hs t1 t2 z1 z2 g o w h0 h1 h2 h3
      · by_cases a3 : k = 3
        · subst a3; exact sVF_3 s st sz hs t1 t2 z1 z2 g o w h0 h1 h2 h3
        · exact sVF_x s k st sz hs (by simp [a0]) (by simp [a1]) (by simp [a2]) (by simp [a3]) z1 z2 g o w h0 h1 h2 h3


end Go.Proofs.YtnbijfeidgddmaaGreatDoor