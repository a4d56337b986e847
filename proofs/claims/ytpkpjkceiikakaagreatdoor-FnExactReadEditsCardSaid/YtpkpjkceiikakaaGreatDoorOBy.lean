/- Bytes of the call's own, whatever mark their block bears: appends of a byte and of a text, conversions from and to texts. -/
import Derived.Test.YtpkpjkceiikakaaGreatDoorBase
import Derived.Test.YtpkpjkceiikakaaGreatDoorQuiet
import Derived.Test.YtpkpjkceiikakaaGreatDoorOwns
import Derived.ArgAppend
import Derived.Lib.AppendStr
import Derived.Lib.ConvBytes
import Derived.Lib.EndianMore
import Derived.Lib.UnsafeStr
import Derived.Laws.IdiomStrings
namespace Go.Proofs.YtpkpjkceiikakaaGreatDoor
open Go.ChangeShapes Go.WideShapes Go.ChangeAt Go.RowKit

/-- Bytes that lie in a block of the call's own, with room behind them that may be written. -/
def OwnG (B : Nat) (bs : List UInt8) (v : Value) (w : World) : Prop := ∃ g cap, v = .slice (some ⟨g, 0, none⟩) bs.length cap ∧ B ≤ g ∧ g < w.heap.size ∧ bs.length ≤ cap ∧
  (∀ j u, (Lib.byteCells bs)[j]? = some u → w.cell? ⟨g, j, none⟩ = some u) ∧ (∀ j, bs.length ≤ j → j < cap → (w.cell? ⟨g, j, none⟩).isSome = true ∧ w.frozen? ⟨g, j, none⟩ = false)
theorem ownG_kept {B : Nat} {bs : List UInt8} {v : Value} {w w' : World} (h : OwnG B bs v w) (hb : Below w.heap.size w w') : OwnG B bs v w' := by
  obtain ⟨g, cap, rfl, h1, h2, h3, h4, h5⟩ := h
  exact ⟨g, cap, rfl, h1, Nat.lt_of_lt_of_le h2 hb.size, h3, fun j u hj => (hb.cell h2).trans (h4 j u hj), fun j a b => by rw [hb.cell (p := ⟨g, j, none⟩) h2, hb.frozen (p := ⟨g, j, none⟩) h2]; exact h5 j a b⟩
theorem ownG_weak {B B' : Nat} {bs : List UInt8} {v : Value} {w : World} (h : OwnG B bs v w) (hb : B' ≤ B) : OwnG B' bs v w := by
  obtain ⟨g, cap, rfl, h1, h2⟩ := h
  exact ⟨g, cap, rfl, Nat.le_trans hb h1, h2⟩
theorem byteC_app (xs ys : List UInt8) : Lib.byteCells (xs ++ ys) = Lib.byteCells xs ++ Lib.byteCells ys := by unfold Lib.byteCells; rw [List.map_append]
theorem byteC_len (xs : List UInt8) : (Lib.byteCells xs).length = xs.length := by unfold Lib.byteCells; rw [List.length_map]
theorem byteC_one (xs : List UInt8) : ∀ u ∈ Lib.byteCells xs, u.oneCell' = true := fun u hu => by
  unfold Lib.byteCells at hu
  obtain ⟨b, _, rfl⟩ := List.mem_map.1 hu
  rfl
theorem ownG_of_row {B : Nat} {bs : List UInt8} {v : Value} {w : World} {e : TypeId} (h : w.ownsRow B e 1 v bs.length (Lib.byteCells bs)) (h0 : 0 < bs.length) : OwnG B bs v w := by
  have hc := h
  obtain ⟨_, h2⟩ := h
  rcases h2 with ⟨_, hz⟩ | ⟨g, cap, cur, rfl, hb, hg, hcap, _, hsz, htk⟩
  · omega
  · refine ⟨g, cap, rfl, hb, (Array.getElem?_eq_some_iff.1 hg).1, hcap, fun j u hj => ?_, fun j a b => ⟨?_, ?_⟩⟩
    · have hlt : j < bs.length := by have := (List.getElem?_eq_some_iff.1 hj).1; rwa [byteC_len] at this
      rw [World.ownsRow.cellAt hc j (by omega)]; exact hj
    · simp [World.cell?, hg, hsz, b]
    · exact World.ownsRow.frozenAt hc j
theorem cell_in {w : World} {p : Addr} (h : (w.cell? p).isSome = true) : ∃ v, w.cell? p = some v := Option.isSome_iff_exists.1 h
theorem heap_setCellsG {g k : Nat} (hne : k ≠ g) : ∀ (vs : List Value) (o : Nat) (w : World), (w.setCells g o vs).heap[k]? = w.heap[k]?
  | [], _, _ => rfl
  | v :: vs, o, w => (heap_setCellsG hne vs (o + 1) (w.setCell ⟨g, o, none⟩ v)).trans (Below.heap_setCell _ _ _ _ hne)
/-- What an append leaves: the row, what may have been written, and where the row lies now. -/
def Grn (B : Nat) (bs : List UInt8) (v : Value) (w : World) (v' : Value) (w' : World) : Prop := OwnG B bs v' w' ∧ w.grownBy w' v.ownBlock ∧ (v'.ownBlock = v.ownBlock ∨ ∃ g, v'.ownBlock = some g ∧ w.heap.size ≤ g)
/-- The row behind an append in place. -/
theorem ownG_room {B g cap : Nat} {bs ys : List UInt8} {w : World} (hB : B ≤ g) (hg : g < w.heap.size) (hc : bs.length + ys.length ≤ cap)
    (h4 : ∀ j u, (Lib.byteCells bs)[j]? = some u → w.cell? ⟨g, j, none⟩ = some u) (h5 : ∀ j, bs.length ≤ j → j < cap → (w.cell? ⟨g, j, none⟩).isSome = true ∧ w.frozen? ⟨g, j, none⟩ = false) :
    Grn B (bs ++ ys) (.slice (some ⟨g, 0, none⟩) bs.length cap) w (.slice (some ⟨g, 0, none⟩) (bs.length + ys.length) cap) (w.setCells g bs.length (Lib.byteCells ys)) := by
  have hbw := Lib.below_setCells_w hB (Lib.byteCells ys) bs.length w
  refine ⟨⟨g, cap, by rw [List.length_append], hB, Nat.lt_of_lt_of_le hg hbw.size, by rw [List.length_append]; exact hc, fun j u hj => ?_, fun j a b => ?_⟩, ⟨hbw.os, hbw.tape, hbw.output, hbw.size, fun k _ hne => heap_setCellsG (fun e => hne (by rw [e]; rfl)) _ _ _⟩, .inl rfl⟩
  · rw [byteC_app] at hj
    by_cases hlt : j < bs.length
    · rw [List.getElem?_append_left (by rw [byteC_len]; exact hlt)] at hj
      rw [World.cell?_setCells_out g _ _ _ _ (fun _ _ => .inl hlt)]
      exact h4 j u hj
    · rw [List.getElem?_append_right (by rw [byteC_len]; omega), byteC_len] at hj
      obtain ⟨hl, he⟩ := List.getElem?_eq_some_iff.1 hj
      have hi := World.cell?_setCells_in g (Lib.byteCells ys) bs.length w (fun i hi => (h5 (bs.length + i) (by omega) (by rw [byteC_len] at hi; omega)).1) (j - bs.length) hl
      rw [show bs.length + (j - bs.length) = j by omega] at hi
      rw [hi, he]
  · rw [List.length_append] at a
    rw [World.cell?_setCells_out g _ _ _ _ (fun _ _ => .inr (by rw [byteC_len]; exact a)), World.frozen?_setCells]
    exact h5 j (by omega) b

/-- One byte more. -/
theorem wp_pushG {P : Program} (w : World) {ops : Array Oper} {rest : List Oper} {o : Oper} {a : Act} {Q : Exit → Act → World → Prop} (hgd : o.guard = none) (s x : Operand) (t : TypeId)
    (ho : o.op = .call { callee := .builtin .append, args := #[s, x], argTypes := #[t, t] }) (e : TypeId) (i : TypeInfo) (ht : P.underlying t = some (.slice e)) (hi : P.info? e = some i) (hz : i.zero = some (.int .u8 0)) (hs1 : i.size = 1) (hb1 : i.bytes = 1)
    (B : Nat) (bs : List UInt8) (v : Value) (hs : a.eval s = v) (hO : OwnG B bs v w) (hB : B ≤ w.heap.size) (hl : bs.length ≤ 100000)
    (ad : Addr) (c : Nat) (u : UInt8) (hx : a.eval x = .slice (some ad) 1 c) (hc : w.cell? (ad.add 0) = some (.int .u8 (u.toNat : Int)))
    (h : ∀ v' w', Grn B (bs ++ [u]) v w v' w' → wpList P ops Q rest (a.put o.dst v') w') : wpList P ops Q (o :: rest) a w := by
  obtain ⟨g, cap, rfl, h1, h2, h3, h4, h5⟩ := hO
  refine wpList_append_arg w hgd s x t ho e i (.int .u8 0) 1 1 ht hi hz hs1 hb1 rfl (by decide) g 0 bs.length cap (Lib.byteCells bs) hs (by rw [byteC_len, Nat.mul_one]) (fun j u hj => by rw [Nat.zero_add]; exact h4 j u hj)
    ad 1 c [.int .u8 (u.toNat : Int)] hx rfl (fun j y hj => ?_) (fun y hy => by simp at hy; subst hy; rfl) (fun hr j hj => ?_) (by unfold maxLen; omega) (by omega) (fun hr => ?_) (fun _ v' w' hown hgr => ?_)
  · match j, hj with
    | 0, hj => simp at hj; subst hj; exact hc
  · simp only [List.length_cons, List.length_nil] at hj
    rw [Nat.zero_add, Nat.mul_one]
    exact h5 (bs.length + j) (by omega) (by omega)
  · have k := ownG_room (ys := [u]) h1 h2 hr h4 h5
    rw [Nat.zero_add, Nat.mul_one]
    exact h _ _ k
  · have hr : w'.ownsRow w.heap.size e 1 v' (bs ++ [u]).length (Lib.byteCells (bs ++ [u])) := by rw [List.length_append, byteC_app]; exact hown
    have hG := ownG_of_row hr (by rw [List.length_append]; simp)
    exact h _ _ ⟨ownG_weak hG hB, ⟨hgr.os, hgr.tape, hgr.output, hgr.size, fun k hk _ => hgr.block k hk (by simp)⟩, .inr (by obtain ⟨g2, c2, rfl, q, _⟩ := hG; exact ⟨g2, rfl, q⟩)⟩

/-- A text more. -/
theorem run_appendG {P : Program} (w : World) (t u ty e : TypeId) (i : TypeInfo) (ht : P.underlying t = some (.slice e)) (hu : P.underlying u = some .string) (hi : P.info? e = some i) (hz : i.zero = some (.int .u8 0)) (hs1 : i.size = 1) (hb1 : i.bytes = 1)
    (B : Nat) (bs : List UInt8) (v : Value) (hO : OwnG B bs v w) (hB : B ≤ w.heap.size) (hl : bs.length ≤ 100000) (s : ByteArray) (hsz : s.size ≤ 100000) (h0 : 0 < bs.length) :
    ∃ v' w', (Builtin.append_ #[t, u] ty #[v, .string s]).run P w = .ok v' w' ∧ Grn B (bs ++ s.data.toList) v w v' w' := by
  obtain ⟨g, cap, rfl, h1, h2, h3, h4, h5⟩ := hO
  have sl : s.data.toList.length = s.size := Array.length_toList
  have sc : Lib.strCells s = Lib.byteCells s.data.toList := Lib.strCells_eq s
  by_cases hr : bs.length + s.size ≤ cap
  · have k := ownG_room (ys := s.data.toList) h1 h2 (by rw [sl]; exact hr) h4 h5
    have hf := Lib.run_firstCells_string (P := P) w i.size s
    have hst := run_storeCells_cells (P := P) g bs.length (Lib.byteCells s.data.toList) 0 w (fun j hj => by rw [byteC_len, sl] at hj; rw [Nat.add_zero]; exact (h5 (bs.length + j) (by omega) (by omega)).1) (fun j hj => by rw [byteC_len, sl] at hj; rw [Nat.add_zero]; exact (h5 (bs.length + j) (by omega) (by omega)).2) (byteC_one _)
    simp only [Nat.add_zero] at hst
    refine ⟨_, _, ?_, k⟩
    rw [sc] at hf
    rw [sl]
    simp [Builtin.append_, run_underlying ht, run_underlying hu, sizeOf, typeInfo, hi, hs1, Builtin.lenOf, hr, Addr.add_lit]
    rw [hs1] at hf
    simp [hf, hst]
  · have hrun := Lib.run_append_grow_string (P := P) w t u ty e i (.int .u8 0) ht hu hi hz ⟨g, 0, none⟩ bs.length cap (Lib.byteCells bs) (by rw [byteC_len, hs1, Nat.mul_one]) (fun j y hj => by rw [Addr.add_lit, Nat.zero_add]; exact h4 j y hj) s (by omega) (by omega) (by rw [hb1]; exact growslice_fits (by omega) (by omega))
    refine ⟨_, _, hrun, ?_, ⟨rfl, rfl, rfl, by simp, fun k hk _ => Below.heap_alloc w.drew _ _ hk⟩, .inr ⟨w.heap.size, rfl, Nat.le_refl _⟩⟩
    · rw [sc]
      have hge := grownCap_ge w (bs.length + s.size) cap e
      have hcm := grownCap_le_maxLen w (bs.length + s.size) cap e (by unfold maxLen; omega)
      refine ownG_weak (B := w.heap.size) (ownG_of_row (e := e) ⟨by rw [byteC_len, Nat.mul_one], .inr ⟨w.heap.size, _, _, by rw [List.length_append, sl], Nat.le_refl _, heap_alloc_new w.drew _, by rw [List.length_append, sl]; exact hge, hcm, ?_, ?_⟩⟩ (by rw [List.length_append]; omega)) hB
      · have hz1 : (Value.int IntKind.u8 0).cells.size = 1 := rfl
        simp only [Array.size_append, List.size_toArray, size_zeroCells, hz1, byteC_len, sl]
        omega
      · rw [byteC_app, List.length_append, sl]
        simp only [Array.toList_append, List.append_assoc]
        rw [← List.append_assoc]
        rw [show (bs.length + s.size) * 1 = (Lib.byteCells bs ++ Lib.byteCells s.data.toList).length by rw [List.length_append, byteC_len, byteC_len, sl, Nat.mul_one]]
        exact List.take_left
theorem wp_pushS {P : Program} (w : World) {ops : Array Oper} {rest : List Oper} {o : Oper} {a : Act} {Q : Exit → Act → World → Prop} (hgd : o.guard = none) (s x : Operand) (t u : TypeId)
    (ho : o.op = .call { callee := .builtin .append, args := #[s, x], argTypes := #[t, u] }) (e : TypeId) (i : TypeInfo) (ht : P.underlying t = some (.slice e)) (hu : P.underlying u = some .string) (hi : P.info? e = some i) (hz : i.zero = some (.int .u8 0)) (hs1 : i.size = 1) (hb1 : i.bytes = 1)
    (B : Nat) (bs : List UInt8) (v : Value) (hs : a.eval s = v) (hO : OwnG B bs v w) (hB : B ≤ w.heap.size) (hl : bs.length ≤ 100000) (h0 : 0 < bs.length) (z : ByteArray) (hx : a.eval x = .string z) (hsz : z.size ≤ 100000)
    (h : ∀ v' w', Grn B (bs ++ z.data.toList) v w v' w' → wpList P ops Q rest (a.put o.dst v') w') : wpList P ops Q (o :: rest) a w := by
  refine wpList_plain hgd fun K hK => ?_
  obtain ⟨v', w', hr, h2⟩ := run_appendG (P := P) w t u o.type e i ht hu hi hz hs1 hb1 B bs v hO hB hl z hsz h0
  unfold Oper.wp execOp
  simp only [ho, resolve, invoke, builtin, Sem.run_bind, Sem.run_pure, Result.andThen_ok, List.map_toArray, List.map_cons, List.map_nil, hs, hx, hr]
  exact hK _ _ (h v' w' h2)
/-- Back to a text. -/
theorem conv_backG {P : Program} {src dst e : TypeId} {B : Nat} {bs : List UInt8} {v : Value} {w : World} (hO : OwnG B bs v w) (hs : P.underlying src = some (.slice e)) (he : P.underlying e = some (.int .u8)) (hd : P.underlying dst = some .string) :
    (convert src dst v).run P w = .ok (.string ⟨bs.toArray⟩) w := by
  obtain ⟨g, cap, rfl, _, _, _, h4, _⟩ := hO
  exact run_convert_bytes_back w src dst e ⟨g, 0, none⟩ cap bs hs he hd fun j hj => by
    rw [Addr.add_lit, Nat.zero_add]
    exact h4 j _ (by unfold Lib.byteCells; rw [List.getElem?_map, List.getElem?_eq_getElem hj]; rfl)
/-- A text as bytes. -/
theorem conv_toG {P : Program} {src dst e : TypeId} (s : ByteArray) (w : World) {d : TypeDesc} (hs : P.underlying src = some d) (hd : P.underlying dst = some (.slice e)) (he : P.underlying e = some (.int .u8)) :
    ∃ v W, (convert src dst (.string s)).run P w = .ok v W ∧ OwnG w.heap.size s.data.toList v W ∧ Below w.heap.size w W := by
  have sl : s.data.toList.length = s.size := Array.length_toList
  have hge := grownCap_ge w s.size 0 e
  have hsz : (Lib.bytesCells w e s).size = grownCap w s.size 0 e := by
    unfold Lib.bytesCells
    rw [Array.size_append, Array.size_map, Array.size_replicate]
    show s.size + _ = _
    omega
  refine ⟨_, _, Lib.run_convert_string_bytes w src dst e s hs hd he, ⟨w.heap.size, _, by rw [sl], Nat.le_refl _, by rw [Lib.bytesWorld_size]; omega, by rw [sl]; exact hge, fun j u hj => ?_, fun j a b => ⟨?_, ?_⟩⟩, ?_⟩
  · have hlt : j < s.size := by have := (List.getElem?_eq_some_iff.1 hj).1; rw [byteC_len, sl] at this; exact this
    rw [Lib.bytesWorld_cell w e s j hlt, ← hj]
    unfold Lib.byteCells
    rw [List.getElem?_map, List.getD, List.getElem?_eq_getElem (by rw [sl]; exact hlt)]
    rfl
  · simp [World.cell?, Lib.bytesWorld_at_new, hsz, b]
  · simp only [World.frozen?, Lib.bytesWorld_at_new, hsz]
    simp
    omega
  · exact ⟨rfl, rfl, rfl, by rw [Lib.bytesWorld_size]; omega, fun k hk => Lib.bytesWorld_at_old w e s k hk⟩
end Go.Proofs.YtpkpjkceiikakaaGreatDoor
