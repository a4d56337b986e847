/- Contracts: is a field valid, as the program says and as the model does. -/
import Derived.Test.YtnbijfeidgddmaaGreatDoorRsZ0
namespace Go.Proofs.YtnbijfeidgddmaaGreatDoor
open Go.ChangeShapes Go.WideShapes Go.ChangeAt Go.RowKit

set_option maxHeartbeats 3200000 in
theorem iVF_0 (s : ByteArray) (st sz : Int) (hs : s.size ≤ maxLen) (hn : nameOk s = true) (t1 : 0 ≤ st) (t2 : st ≤ 32767) (z1 : 1 ≤ sz) (z2 : sz ≤ 32767) (w : World) :
    Calls Tryz.prog 41 #[.agg #[.string s, .int .i8 0, .int .i16 st, .int .i16 sz]] w fun e w' => e = .returned (.bool (fieldOk s 0 st sz)) ∧ Below w.heap.size w w' := by
  have S := Lib.hid hs
  have hz := mostZ_0
  have hw := widthZ_0 sz
  have c1 : decide (st < 0) = false := by simp; omega
  have c2 : decide (sz < 1) = false := by simp; omega
  have q1 : IntKind.i64.wrap (st + (sz)) = st + (sz) := IntWalk.i64_in _ (by omega)
  clear hs
  by_cases d1 : sz ≤ 24
  · have e1 : decide (sz ≤ 24) = true := by simp; omega
    by_cases d2 : st + (sz) ≤ 96
    · have f := Lib.hid (field_yes (k := 0) (st := st) (sz := sz) hn ⟨by omega, by omega, t1, z1, by omega, by omega⟩)
      have e2 : decide (st + (sz) ≤ 96) = true := by simp; omega
      clear hz hw
      go_enter Tryz.func41, Tryz.ntmps41
      go_wp2_with (first
        | (go_at_call 72; refine (iName_any _ S.out _).mono ?_; rintro e w1 ⟨rfl, rfl⟩)
        | (go_at_call 73; refine (layout_0 _ _ _ z1 z2 _).mono ?_; rintro e w1 ⟨rfl, hB⟩; obtain ⟨hc, hf, hz⟩ := bcell hB))
      go_quiet ((first | (go_at_call 74; exact Calls.quiet_of_same ((most_0 _ _).mono fun e w' h => ⟨h.1, h.2.symm⟩)) | (go_invoke; go_simp; go_at_call 163; exact Calls.quiet_of_same ((holes_0 _ z1 z2 _).mono fun e w' h => ⟨h.1, h.2.symm⟩))))
      go_wp2
      go_returns
      exact ⟨ret_bool f.out.symm, (by repeat' (first | (with_reducible exact Below.refl _ _) | (with_reducible assumption) | (with_reducible refine below_drewN ?_ _) | (with_reducible refine Below.drew ?_) | (with_reducible refine below_new ?_ _) | (with_reducible refine below_next ?_ (by with_reducible assumption)) | (with_reducible refine Below.setCell ?_ ?_ _) | go_size))⟩
    · have f := Lib.hid (field_no (s := s) (k := 0) (st := st) (sz := sz) (fun x => by omega))
      have e2 : decide (st + (sz) ≤ 96) = false := by simp; omega
      clear hz hw
      go_enter Tryz.func41, Tryz.ntmps41
      go_wp2_with (first
        | (go_at_call 72; refine (iName_any _ S.out _).mono ?_; rintro e w1 ⟨rfl, rfl⟩)
        | (go_at_call 73; refine (layout_0 _ _ _ z1 z2 _).mono ?_; rintro e w1 ⟨rfl, hB⟩; obtain ⟨hc, hf, hz⟩ := bcell hB))
      go_quiet ((first | (go_at_call 74; exact Calls.quiet_of_same ((most_0 _ _).mono fun e w' h => ⟨h.1, h.2.symm⟩)) | (go_invoke; go_simp; go_at_call 163; exact Calls.quiet_of_same ((holes_0 _ z1 z2 _).mono fun e w' h => ⟨h.1, h.2.symm⟩))))
      go_wp2
      go_returns
      exact ⟨ret_bool f.out.symm, (by repeat' (first | (with_reducible exact Below.refl _ _) | (with_reducible assumption) | (with_reducible refine below_drewN ?_ _) | (with_reducible refine Below.drew ?_) | (with_reducible refine below_new ?_ _) | (with_reducible refine below_next ?_ (by with_reducible assumption)) | (with_reducible refine Below.setCell ?_ ?_ _) | go_size))⟩
  · have f := Lib.hid (field_no (s := s) (k := 0) (st := st) (sz := sz) (fun x => by omega))
    have e1 : decide (sz ≤ 24) = false := by simp; omega
    clear hz hw
    go_enter Tryz.func41, Tryz.ntmps41
    go_wp2_with (first
      | (go_at_call 72; refine (iName_any _ S.out _).mono ?_; rintro e w1 ⟨rfl, rfl⟩)
      | (go_at_call 73; refine (layout_0 _ _ _ z1 z2 _).mono ?_; rintro e w1 ⟨rfl, hB⟩; obtain ⟨hc, hf, hz⟩ := bcell hB))
    go_quiet ((first | (go_at_call 74; exact Calls.quiet_of_same ((most_0 _ _).mono fun e w' h => ⟨h.1, h.2.symm⟩)) | (go_invoke; go_simp; go_at_call 163; exact Calls.quiet_of_same ((holes_0 _ z1 z2 _).mono fun e w' h => ⟨h.1, h.2.symm⟩))))
    go_wp2
    go_returns
    exact ⟨ret_bool f.out.symm, (by repeat' (first | (with_reducible exact Below.refl _ _) | (with_reducible assumption) | (with_reducible refine below_drewN ?_ _) | (with_reducible refine Below.drew ?_) | (with_reducible refine below_new ?_ _) | (with_reducible refine below_next ?_ (by with_reducible assumption)) | (with_reducible refine Below.setCell ?_ ?_ _) | go_size))⟩

set_option maxHeartbeats 3200000 in
theorem iVF_1 (s : ByteArray) (st sz : Int) (hs : s.size ≤ maxLen) (hn : nameOk s = true) (t1 : 0 ≤ st) (t2 : st ≤ 32767) (z1 : 1 ≤ sz) (z2 : sz ≤ 32767) (w : World) :
    Calls Tryz.prog 41 #[.agg #[.string s, .int .i8 1, .int .i16 st, .int .i16 sz]] w fun e w' => e = .returned (.bool (fieldOk s 1 st sz)) ∧ Below w.heap.size w w' := by
  have S := Lib.hid hs
  have hz := mostZ_1
  have hw := widthZ_1 sz
  have c1 : decide (st < 0) = false := by simp; omega
  have c2 : decide (sz < 1) = false := by simp; omega
  have q1 : IntKind.i64.wrap (st + (4 * sz)) = st + (4 * sz) := IntWalk.i64_in _ (by omega)
  clear hs
  by_cases d1 : sz ≤ 4
  · have e1 : decide (sz ≤ 4) = true := by simp; omega
    by_cases d2 : st + (4 * sz) ≤ 96
    · have f := Lib.hid (field_yes (k := 1) (st := st) (sz := sz) hn ⟨by omega, by omega, t1, z1, by omega, by omega⟩)
      have e2 : decide (st + (4 * sz) ≤ 96) = true := by simp; omega
      clear hz hw
      go_enter Tryz.func41, Tryz.ntmps41
      go_wp2_with (first
        | (go_at_call 72; refine (iName_any _ S.out _).mono ?_; rintro e w1 ⟨rfl, rfl⟩)
        | (go_at_call 73; refine (layout_1 _ _ _ z1 z2 _).mono ?_; rintro e w1 ⟨rfl, hB⟩; obtain ⟨hc, hf, hz⟩ := bcell hB))
      go_quiet ((first | (go_at_call 74; exact Calls.quiet_of_same ((most_1 _ _).mono fun e w' h => ⟨h.1, h.2.symm⟩)) | (go_invoke; go_simp; go_at_call 175; exact Calls.quiet_of_same ((holes_1 _ z1 z2 _).mono fun e w' h => ⟨h.1, h.2.symm⟩))))
      go_wp2
      go_returns
      exact ⟨ret_bool f.out.symm, (by repeat' (first | (with_reducible exact Below.refl _ _) | (with_reducible assumption) | (with_reducible refine below_drewN ?_ _) | (with_reducible refine Below.drew ?_) | (with_reducible refine below_new ?_ _) | (with_reducible refine below_next ?_ (by with_reducible assumption)) | (with_reducible refine Below.setCell ?_ ?_ _) | go_size))⟩
    · have f := Lib.hid (field_no (s := s) (k := 1) (st := st) (sz := sz) (fun x => by omega))
      have e2 : decide (st + (4 * sz) ≤ 96) = false := by simp; omega
      clear hz hw
      go_enter Tryz.func41, Tryz.ntmps41
      go_wp2_with (first
        | (go_at_call 72; refine (iName_any _ S.out _).mono ?_; rintro e w1 ⟨rfl, rfl⟩)
        | (go_at_call 73; refine (layout_1 _ _ _ z1 z2 _).mono ?_; rintro e w1 ⟨rfl, hB⟩; obtain ⟨hc, hf, hz⟩ := bcell hB))
      go_quiet ((first | (go_at_call 74; exact Calls.quiet_of_same ((most_1 _ _).mono fun e w' h => ⟨h.1, h.2.symm⟩)) | (go_invoke; go_simp; go_at_call 175; exact Calls.quiet_of_same ((holes_1 _ z1 z2 _).mono fun e w' h => ⟨h.1, h.2.symm⟩))))
      go_wp2
      go_returns
      exact ⟨ret_bool f.out.symm, (by repeat' (first | (with_reducible exact Below.refl _ _) | (with_reducible assumption) | (with_reducible refine below_drewN ?_ _) | (with_reducible refine Below.drew ?_) | (with_reducible refine below_new ?_ _) | (with_reducible refine below_next ?_ (by with_reducible assumption)) | (with_reducible refine Below.setCell ?_ ?_ _) | go_size))⟩
  · have f := Lib.hid (field_no (s := s) (k := 1) (st := st) (sz := sz) (fun x => by omega))
    have e1 : decide (sz ≤ 4) = false := by simp; omega
    clear hz hw
    go_enter Tryz.func41, Tryz.ntmps41
    go_wp2_with (first
      | (go_at_call 72; refine (iName_any _ S.out _).mono ?_; rintro e w1 ⟨rfl, rfl⟩)
      | (go_at_call 73; refine (layout_1 _ _ _ z1 z2 _).mono ?_; rintro e w1 ⟨rfl, hB⟩; obtain ⟨hc, hf, hz⟩ := bcell hB))
    go_quiet ((first | (go_at_call 74; exact Calls.quiet_of_same ((most_1 _ _).mono fun e w' h => ⟨h.1, h.2.symm⟩)) | (go_invoke; go_simp; go_at_call 175; exact Calls.quiet_of_same ((holes_1 _ z1 z2 _).mono fun e w' h => ⟨h.1, h.2.symm⟩))))
    go_wp2
    go_returns
    exact ⟨ret_bool f.out.symm, (by repeat' (first | (with_reducible exact Below.refl _ _) | (with_reducible assumption) | (with_reducible refine below_drewN ?_ _) | (with_reducible refine Below.drew ?_) | (with_reducible refine below_new ?_ _) | (with_reducible refine below_next ?_ (by with_reducible assumption)) | (with_reducible refine Below.setCell ?_ ?_ _) | go_size))⟩

set_option maxHeartbeats 3200000 in
theorem iVF_2 (s : ByteArray) (st sz : Int) (hs : s.size ≤ maxLen) (hn : nameOk s = true) (t1 : 0 ≤ st) (t2 : st ≤ 32767) (z1 : 1 ≤ sz) (z2 : sz ≤ 32767) (w : World) :
    Calls Tryz.prog 41 #[.agg #[.string s, .int .i8 2, .int .i16 st, .int .i16 sz]] w fun e w' => e = .returned (.bool (fieldOk s 2 st sz)) ∧ Below w.heap.size w w' := by
  have S := Lib.hid hs
  have hz := mostZ_2
  have hw := widthZ_2 sz
  have c1 : decide (st < 0) = false := by simp; omega
  have c2 : decide (sz < 1) = false := by simp; omega
  have q1 : IntKind.i64.wrap (st + (5 * sz)) = st + (5 * sz) := IntWalk.i64_in _ (by omega)
  clear hs
  by_cases d1 : sz ≤ 4
  · have e1 : decide (sz ≤ 4) = true := by simp; omega
    by_cases d2 : st + (5 * sz) ≤ 96
    · have f := Lib.hid (field_yes (k := 2) (st := st) (sz := sz) hn ⟨by omega, by omega, t1, z1, by omega, by omega⟩)
      have e2 : decide (st + (5 * sz) ≤ 96) = true := by simp; omega
      clear hz hw
      go_enter Tryz.func41, Tryz.ntmps41
      go_wp2_with (first
        | (go_at_call 72; refine (iName_any _ S.out _).mono ?_; rintro e w1 ⟨rfl, rfl⟩)
        | (go_at_call 73; refine (layout_2 _ _ _ z1 z2 _).mono ?_; rintro e w1 ⟨rfl, hB⟩; obtain ⟨hc, hf, hz⟩ := bcell hB))
      go_quiet ((first | (go_at_call 74; exact Calls.quiet_of_same ((most_2 _ _).mono fun e w' h => ⟨h.1, h.2.symm⟩)) | (go_invoke; go_simp; go_at_call 179; exact Calls.quiet_of_same ((holes_2 _ z1 z2 _).mono fun e w' h => ⟨h.1, h.2.symm⟩))))
      go_wp2
      go_returns
      exact ⟨ret_bool f.out.symm, (by repeat' (first | (with_reducible exact Below.refl _ _) | (with_reducible assumption) | (with_reducible refine below_drewN ?_ _) | (with_reducible refine Below.drew ?_) | (with_reducible refine below_new ?_ _) | (with_reducible refine below_next ?_ (by with_reducible assumption)) | (with_reducible refine Below.setCell ?_ ?_ _) | go_size))⟩
    · have f := Lib.hid (field_no (s := s) (k := 2) (st := st) (sz := sz) (fun x => by omega))
      have e2 : decide (st + (5 * sz) ≤ 96) = false := by simp; omega
      clear hz hw
      go_enter Tryz.func41, Tryz.ntmps41
      go_wp2_with (first
        | (go_at_call 72; refine (iName_any _ S.out _).mono ?_; rintro e w1 ⟨rfl, rfl⟩)
        | (go_at_call 73; refine (layout_2 _ _ _ z1 z2 _).mono ?_; rintro e w1 ⟨rfl, hB⟩; obtain ⟨hc, hf, hz⟩ := bcell hB))
      go_quiet ((first | (go_at_call 74; exact Calls.quiet_of_same ((most_2 _ _).mono fun e w' h => ⟨h.1, h.2.symm⟩)) | (go_invoke; go_simp; go_at_call 179; exact Calls.quiet_of_same ((holes_2 _ z1 z2 _).mono fun e w' h => ⟨h.1, h.2.symm⟩))))
      go_wp2
      go_returns
      exact ⟨ret_bool f.out.symm, (by repeat' (first | (with_reducible exact Below.refl _ _) | (with_reducible assumption) | (with_reducible refine below_drewN ?_ _) | (with_reducible refine Below.drew ?_) | (with_reducible refine below_new ?_ _) | (with_reducible refine below_next ?_ (by with_reducible assumption)) | (with_reducible refine Below.setCell ?_ ?_ _) | go_size))⟩
  · have f := Lib.hid (field_no (s := s) (k := 2) (st := st) (sz := sz) (fun x => by omega))
    have e1 : decide (sz ≤ 4) = false := by simp; omega
    clear hz hw
    go_enter Tryz.func41, Tryz.ntmps41
    go_wp2_with (first
      | (go_at_call 72; refine (iName_any _ S.out _).mono ?_; rintro e w1 ⟨rfl, rfl⟩)
      | (go_at_call 73; refine (layout_2 _ _ _ z1 z2 _).mono ?_; rintro e w1 ⟨rfl, hB⟩; obtain ⟨hc, hf, hz⟩ := bcell hB))
    go_quiet ((first | (go_at_call 74; exact Calls.quiet_of_same ((most_2 _ _).mono fun e w' h => ⟨h.1, h.2.symm⟩)) | (go_invoke; go_simp; go_at_call 179; exact Calls.quiet_of_same ((holes_2 _ z1 z2 _).mono fun e w' h => ⟨h.1, h.2.symm⟩))))
    go_wp2
    go_returns
    exact ⟨ret_bool f.out.symm, (by repeat' (first | (with_reducible exact Below.refl _ _) | (with_reducible assumption) | (with_reducible refine below_drewN ?_ _) | (with_reducible refine Below.drew ?_) | (with_reducible refine below_new ?_ _) | (with_reducible refine below_next ?_ (by with_reducible assumption)) | (with_reducible refine Below.setCell ?_ ?_ _) | go_size))⟩

set_option maxHeartbeats 3200000 in
theorem iVF_3 (s : ByteArray) (st sz : Int) (hs : s.size ≤ maxLen) (hn : nameOk s = true) (t1 : 0 ≤ st) (t2 : st ≤ 32767) (z1 : 1 ≤ sz) (z2 : sz ≤ 32767) (w : World) :
    Calls Tryz.prog 41 #[.agg #[.string s, .int .i8 3, .int .i16 st, .int .i16 sz]] w fun e w' => e = .returned (.bool (fieldOk s 3 st sz)) ∧ Below w.heap.size w w' := by
  have S := Lib.hid hs
  have hz := mostZ_3
  have hw := widthZ_3 sz
  have c1 : decide (st < 0) = false := by simp; omega
  have c2 : decide (sz < 1) = false := by simp; omega
  have q1 : IntKind.i64.wrap (st + (sz + 1)) = st + (sz + 1) := IntWalk.i64_in _ (by omega)
  clear hs
  by_cases d1 : sz ≤ 12
  · have e1 : decide (sz ≤ 12) = true := by simp; omega
    by_cases d2 : st + (sz + 1) ≤ 96
    · have f := Lib.hid (field_yes (k := 3) (st := st) (sz := sz) hn ⟨by omega, by omega, t1, z1, by omega, by omega⟩)
      have e2 : decide (st + (sz + 1) ≤ 96) = true := by simp; omega
      clear hz hw
      go_enter Tryz.func41, Tryz.ntmps41
      go_wp2_with (first
        | (go_at_call 72; refine (iName_any _ S.out _).mono ?_; rintro e w1 ⟨rfl, rfl⟩)
        | (go_at_call 73; refine (layout_3 _ _ _ z1 z2 _).mono ?_; rintro e w1 ⟨rfl, hB⟩; obtain ⟨hc, hf, hz⟩ := bcell hB))
      go_quiet ((first | (go_at_call 74; exact Calls.quiet_of_same ((most_3 _ _).mono fun e w' h => ⟨h.1, h.2.symm⟩)) | (go_invoke; go_simp; go_at_call 167; exact Calls.quiet_of_same ((holes_3 _ z1 z2 _).mono fun e w' h => ⟨h.1, h.2.symm⟩))))
      go_wp2
      go_returns
      exact ⟨ret_bool f.out.symm, (by repeat' (first | (with_reducible exact Below.refl _ _) | (with_reducible assumption) | (with_reducible refine below_drewN ?_ _) | (with_reducible refine Below.drew ?_) | (with_reducible refine below_new ?_ _) | (with_reducible refine below_next ?_ (by with_reducible assumption)) | (with_reducible refine Below.setCell ?_ ?_ _) | go_size))⟩
    · have f := Lib.hid (field_no (s := s) (k := 3) (st := st) (sz := sz) (fun x => by omega))
      have e2 : decide (st + (sz + 1) ≤ 96) = false := by simp; omega
      clear hz hw
      go_enter Tryz.func41, Tryz.ntmps41
      go_wp2_with (first
        | (go_at_call 72; refine (iName_any _ S.out _).mono ?_; rintro e w1 ⟨rfl, rfl⟩)
        | (go_at_call 73; refine (layout_3 _ _ _ z1 z2 _).mono ?_; rintro e w1 ⟨rfl, hB⟩; obtain ⟨hc, hf, hz⟩ := bcell hB))
      go_quiet ((first | (go_at_call 74; exact Calls.quiet_of_same ((most_3 _ _).mono fun e w' h => ⟨h.1, h.2.symm⟩)) | (go_invoke; go_simp; go_at_call 167; exact Calls.quiet_of_same ((holes_3 _ z1 z2 _).mono fun e w' h => ⟨h.1, h.2.symm⟩))))
      go_wp2
      go_returns
      exact ⟨ret_bool f.out.symm, (by repeat' (first | (with_reducible exact Below.refl _ _) | (with_reducible assumption) | (with_reducible refine below_drewN ?_ _) | (with_reducible refine Below.drew ?_) | (with_reducible refine below_new ?_ _) | (with_reducible refine below_next ?_ (by with_reducible assumption)) | (with_reducible refine Below.setCell ?_ ?_ _) | go_size))⟩
  · have f := Lib.hid (field_no (s := s) (k := 3) (st := st) (sz := sz) (fun x => by omega))
    have e1 : decide (sz ≤ 12) = false := by simp; omega
    clear hz hw
    go_enter Tryz.func41, Tryz.ntmps41
    go_wp2_with (first
      | (go_at_call 72; refine (iName_any _ S.out _).mono ?_; rintro e w1 ⟨rfl, rfl⟩)
      | (go_at_call 73; refine (layout_3 _ _ _ z1 z2 _).mono ?_; rintro e w1 ⟨rfl, hB⟩; obtain ⟨hc, hf, hz⟩ := bcell hB))
    go_quiet ((first | (go_at_call 74; exact Calls.quiet_of_same ((most_3 _ _).mono fun e w' h => ⟨h.1, h.2.symm⟩)) | (go_invoke; go_simp; go_at_call 167; exact Calls.quiet_of_same ((holes_3 _ z1 z2 _).mono fun e w' h => ⟨h.1, h.2.symm⟩))))
    go_wp2
    go_returns
    exact ⟨ret_bool f.out.symm, (by repeat' (first | (with_reducible exact Below.refl _ _) | (with_reducible assumption) | (with_reducible refine below_drewN ?_ _) | (with_reducible refine Below.drew ?_) | (with_reducible refine below_new ?_ _) | (with_reducible refine below_next ?_ (by with_reducible assumption)) | (with_reducible refine Below.setCell ?_ ?_ _) | go_size))⟩

set_option maxHeartbeats 3200000 in
theorem iVF_any (s : ByteArray) (k st sz : Int) (hs : s.size ≤ maxLen) (hk : I8 k) (ht : I16 st) (hz : I16 sz) (w : World) :
    Calls Tryz.prog 41 #[.agg #[.string s, .int .i8 k, .int .i16 st, .int .i16 sz]] w fun e w' => e = .returned (.bool (fieldOk s k st sz)) ∧ Below w.heap.size w w' := by
  have S := Lib.hid hs
  obtain ⟨k1, k2⟩ := hk
  obtain ⟨t1, t2⟩ := ht
  obtain ⟨z1, z2⟩ := hz
  cases hn : nameOk s
  · have f := Lib.hid (field_name k st sz hn)
    clear hs
    go_enter Tryz.func41, Tryz.ntmps41
    go_wp2_with (go_at_call 72; refine (iName_any _ S.out _).mono ?_; rintro e w1 ⟨rfl, rfl⟩)
    go_returns
    exact ⟨ret_bool f.out.symm, (by repeat' (first | (with_reducible exact Below.refl _ _) | (with_reducible assumption) | (with_reducible refine below_drewN ?_ _) | (with_reducible refine Below.drew ?_) | (with_reducible refine below_new ?_ _) | (with_reducible refine below_next ?_ (by with_reducible assumption)) | (with_reducible refine Below.setCell ?_ ?_ _) | go_size))⟩
  · by_cases a1 : k < 0
    · have f := Lib.hid (field_no (s := s) (k := k) (st := st) (sz := sz) (fun x => by omega))
      have d1 : decide (k < 0) = true := by simp; omega
      clear hs
      go_enter Tryz.func41, Tryz.ntmps41
      go_wp2_with (go_at_call 72; refine (iName_any _ S.out _).mono ?_; rintro e w1 ⟨rfl, rfl⟩)
      go_returns
      exact ⟨ret_bool f.out.symm, (by repeat' (first | (with_reducible exact Below.refl _ _) | (with_reducible assumption) | (with_reducible refine below_drewN ?_ _) | (with_reducible refine Below.drew ?_) | (with_reducible refine below_new ?_ _) | (with_reducible refine below_next ?_ (by with_reducible assumption)) | (with_reducible refine Below.setCell ?_ ?_ _) | go_size))⟩
    · have d1 : decide (k < 0) = false := by simp; omega
      by_cases a2 : 3 < k
      · have f := Lib.hid (field_no (s := s) (k := k) (st := st) (sz := sz) (fun x => by omega))
        have d2 : decide (3 < k) = true := by simp; omega
        clear hs
        go_enter Tryz.func41, Tryz.ntmps41
        go_wp2_with (go_at_call 72; refine (iName_any _ S.out _).mono ?_; rintro e w1 ⟨rfl, rfl⟩)
        go_returns
        exact ⟨ret_bool f.out.symm, (by repeat' (first | (with_reducible exact Below.refl _ _) | (with_reducible assumption) | (with_reducible refine below_drewN ?_ _) | (with_reducible refine Below.drew ?_) | (with_reducible refine below_new ?_ _) | (with_reducible refine below_next ?_ (by with_reducible assumption)) | (with_reducible refine Below.setCell ?_ ?_ _) | go_size))⟩
      · have d2 : decide (3 < k) = false := by simp; omega
        by_cases a3 : st < 0
        · have f := Lib.hid (field_no (s := s) (k := k) (st := st) (sz := sz) (fun x => by omega))
          have d3 : decide (st < 0) = true := by simp; omega
          clear hs
          go_enter Tryz.func41, Tryz.ntmps41
          go_wp2_with (go_at_call 72; refine (iName_any _ S.out _).mono ?_; rintro e w1 ⟨rfl, rfl⟩)
          go_returns
          exact ⟨ret_bool f.out.symm, (by repeat' (first | (with_reducible exact Below.refl _ _) | (with_reducible assumption) | (with_reducible refine below_drewN ?_ _) | (with_reducible refine Below.drew ?_) | (with_reducible refine below_new ?_ _) | (with_reducible refine below_next ?_ (by with_reducible assumption)) | (with_reducible refine Below.setCell ?_ ?_ _) | go_size))⟩
        · by_cases a4 : sz < 1
          · have f := Lib.hid (field_no (s := s) (k := k) (st := st) (sz := sz) (fun x => by omega))
            have d3 : decide (st < 0) = false := by simp; omega
            have d4 : decide (sz < 1) = true := by simp; omega
            clear hs
            go_enter Tryz.func41, Tryz.ntmps41
            go_wp2_with (go_at_call 72; refine (iName_any _ S.out _).mono ?_; rintro e w1 ⟨rfl, rfl⟩)
            go_returns
            exact ⟨ret_bool f.out.symm, (by repeat' (first | (with_reducible exact Below.refl _ _) | (with_reducible assumption) | (with_reducible refine below_drewN ?_ _) | (with_reducible refine Below.drew ?_) | (with_reducible refine below_new ?_ _) | (with_reducible refine below_next ?_ (by with_reducible assumption)) | (with_reducible refine Below.setCell ?_ ?_ _) | go_size))⟩
          · have hk : k = 0 ∨ k = 1 ∨ k = 2 ∨ k = 3 := by omega
            rcases hk with rfl | rfl | rfl | rfl
            · exact iVF_0 s st sz hs hn (by omega) t2 (by omega) z2 w
            · exact iVF_1 s st sz hs hn (by omega) t2 (by omega) z2 w
            · exact iVF_2 s st sz hs hn (by omega) t2 (by omega) z2 w
            · exact iVF_3 s st sz hs hn (by omega) t2 (by omega) z2 w

end Go.Proofs.YtnbijfeidgddmaaGreatDoor