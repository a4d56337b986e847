/- errors.As, met and missed. -/
import Derived.Test.YtbmjghkdhhcffaaDoorErAs
import Derived.Test.YtbmjghkdhhcffaaDoorFloat
namespace Go.Proofs.YtbmjghkdhhcffaaDoor
open Go.ChangeShapes Go.WideShapes Go.ChangeAt Go.RowKit Go.Extern.Stop Go.Stop Go.Extern

theorem fin1 {tb : Nat} {w : World} (h : tb ≤ w.heap.size) (o1 o2 o3 o4 : Obj) (v : Value) : Below tb w (((((w.alloc o1).alloc o2).alloc o3).alloc o4).setCell ⟨tb, 0, none⟩ v) :=
  Below.setCell (((((Below.refl tb w).alloc h _).alloc (by simp; omega) _).alloc (by simp; omega) _).alloc (by simp; omega) _) (Nat.le_refl _) _
theorem fin5 {tb : Nat} {w : World} (h : tb ≤ w.heap.size) (o1 o2 o3 o4 : Obj) (v0 v1 v2 v3 v4 : Value) : Below tb w (((((((((w.alloc o1).alloc o2).alloc o3).alloc o4).setCell ⟨tb, 0, none⟩ v0).setCell ⟨tb, 1, none⟩ v1).setCell ⟨tb, 2, none⟩ v2).setCell ⟨tb, 3, none⟩ v3).setCell ⟨tb, 4, none⟩ v4) :=
  Below.setCell (Below.setCell (Below.setCell (Below.setCell (fin1 h o1 o2 o3 o4 v0) (Nat.le_refl _) _) (Nat.le_refl _) _) (Nat.le_refl _) _) (Nat.le_refl _) _
theorem block_oldA (w : World) (o : Obj) {k : Nat} (h : k < w.heap.size) : (w.alloc o).heap[k]? = w.heap[k]? := Below.heap_alloc _ _ _ h
theorem run_storeC {P : Program} {w : World} {tb j : Nat} {v : Value} {C : Array Value} {t : TypeId} (hv : v.oneCell' = true) (h : w.heap[tb]? = some (.cells C t (0, 0))) (hj : j < C.size) : (store ⟨tb, j, none⟩ v).run P w = .ok () (w.setCell ⟨tb, j, none⟩ v) := by
  rw [run_store P w ⟨tb, j, none⟩ v _ hv]
  have h1 : w.cell? ⟨tb, j, none⟩ = some C[j] := by simp [World.cell?, h, hj]
  have h2 : w.frozen? ⟨tb, j, none⟩ = false := by simp [World.frozen?, h]
  simp [h1, h2]
theorem aM_set (k : Int) (s : ByteArray) (h a b' : Int) (tb b : Nat) (o0 o1 o2 o3 o4 : Value) (W : World) (hb0 : W.cell? ⟨b, 0, none⟩ = some (.int .i8 k)) (hb1 : W.cell? ⟨b, 1, none⟩ = some (.string s)) (hb2 : W.cell? ⟨b, 2, none⟩ = some (.int .i16 h)) (hb3 : W.cell? ⟨b, 3, none⟩ = some (.int .u64 a)) (hb4 : W.cell? ⟨b, 4, none⟩ = some (.int .u64 b')) (ht : W.heap[tb]? = some (.cells #[o0, o1, o2, o3, o4] 128 (0, 0))) :
    (ReflectliteValue.set #[.agg #[.pointer (some ⟨10, 128, none⟩), .pointer (some ⟨tb, 0, none⟩), .int .u64 409], .agg #[.pointer (some ⟨10, 128, none⟩), .pointer (some ⟨b, 0, none⟩), .int .u64 153]]).run Tryd.prog W = .ok (.tuple #[]) (((((W.setCell ⟨tb, 0, none⟩ (.int .i8 k)).setCell ⟨tb, 1, none⟩ (.string s)).setCell ⟨tb, 2, none⟩ (.int .i16 h)).setCell ⟨tb, 3, none⟩ (.int .u64 a)).setCell ⟨tb, 4, none⟩ (.int .u64 b')) := by
  rw [rls]
  simp only [Sem.run_bind, aM_partsA, aM_parts, Result.andThen]
  simp [ReflectliteValue.flagAddr, loadVar, isAgg, underlying, Tryd.underlying128, hb0, hb1, hb2, hb3, hb4, loadCells, loadCellsFrom, Result.andThen, aM_direct, storeVar, Value.cells, storeCells, Addr.add]
  have e0 := ht
  have e1 := block_setCell (j := 0) (.int .i8 k) e0
  have e2 := block_setCell (j := 1) (.string s) e1
  have e3 := block_setCell (j := 2) (.int .i16 h) e2
  have e4 := block_setCell (j := 3) (.int .u64 a) e3
  have r0 := run_storeC (P := Tryd.prog) (v := .int .i8 k) (j := 0) rfl e0 (by simp)
  have r1 := run_storeC (P := Tryd.prog) (v := .string s) (j := 1) rfl e1 (by simp)
  have r2 := run_storeC (P := Tryd.prog) (v := .int .i16 h) (j := 2) rfl e2 (by simp)
  have r3 := run_storeC (P := Tryd.prog) (v := .int .u64 a) (j := 3) rfl e3 (by simp)
  have r4 := run_storeC (P := Tryd.prog) (v := .int .u64 b') (j := 4) rfl e4 (by simp)
  rw [r0]; simp only []; rw [r1]; simp only []; rw [r2]; simp only []; rw [r3]; simp only []; rw [r4]

set_option maxRecDepth 100000 in
set_option maxHeartbeats 8000000 in
theorem as_hitM (k : Int) (s : ByteArray) (h a b : Int) (tb : Nat) (o0 o1 o2 o3 o4 : Value) (w : World) (hg : w.cell? ⟨3, 0, none⟩ = some (.iface 210 (.agg #[.pointer (some ⟨10, 73, none⟩)]))) (ht : w.heap[tb]? = some (.cells #[o0, o1, o2, o3, o4] 128 (0, 0))) :
    Calls Tryd.prog 74 #[.iface 128 (.agg #[.int .i8 k, .string s, .int .i16 h, .int .u64 a, .int .u64 b]), .iface 130 (.pointer (some ⟨tb, 0, none⟩))] w fun e w' => e = .returned (.bool true) ∧ Below tb w w' := by
  have hlt : 3 < w.heap.size := World.block_lt_of_cell? _ _ hg
  have htl : tb < w.heap.size := lt_of_block ht
  have hg2 : ((w.alloc (.cells #[.pointer (some ⟨tb, 0, none⟩)] 130)).alloc (.cells #[.pointer (some ⟨10, 130, none⟩), .pointer (some ⟨w.heap.size, 0, none⟩), .int .u64 150] 179)).cell? ⟨3, 0, none⟩ = some (.iface 210 (.agg #[.pointer (some ⟨10, 73, none⟩)])) := by
    rw [World.cell?_alloc_lt _ _ ⟨3, 0, none⟩ (by simp <;> omega), World.cell?_alloc_lt _ _ ⟨3, 0, none⟩ hlt]; exact hg
  have n8 := aM_isNil ⟨w.heap.size, 0, none⟩ ⟨tb, 0, none⟩ ((w.alloc (.cells #[.pointer (some ⟨tb, 0, none⟩)] 130)).alloc (.cells #[.pointer (some ⟨10, 130, none⟩), .pointer (some ⟨w.heap.size, 0, none⟩), .int .u64 150] 179)) (by simp)
  have h6 := @run_callFunc_extern Tryd.prog 115 _ (fun args => ReflectliteValue.unpack (args.getD 0 (.tuple #[]))) Tryd.func115 (by kernel_rfl) (by kernel_rfl) (by kernel_rfl) (by kernel_rfl)
  have h7 := @run_callFunc_extern Tryd.prog 116 _ (ReflectliteValue.methodAny (ReflectliteValue.valueError "reflectlite.Value.Type" 0) (fun t _ _ _ => ReflectliteType.toType t)) Tryd.func116 (by kernel_rfl) (by kernel_rfl) (by kernel_rfl) (by kernel_rfl)
  have h8 := @run_callFunc_extern Tryd.prog 117 _ (ReflectliteValue.method (ReflectliteValue.valueError "reflectlite.Value.IsNil" 0) ReflectliteValue.isNil) Tryd.func117 (by kernel_rfl) (by kernel_rfl) (by kernel_rfl) (by kernel_rfl)
  have h27 := @run_callFunc_extern Tryd.prog 194 _ (ReflectliteType.abiMethod fun t => do pure (.int .u8 (← Rtype.kind t))) Tryd.func194 (by kernel_rfl) (by kernel_rfl) (by kernel_rfl) (by kernel_rfl)
  have h37 := @run_callFunc_extern Tryd.prog 222 _ (ReflectliteType.method ReflectliteType.elem) Tryd.func222 (by kernel_rfl) (by kernel_rfl) (by kernel_rfl) (by kernel_rfl)
  have h38 := @run_callFunc_extern Tryd.prog 223 _ (ReflectliteType.relation "Implements" ReflectliteType.implements_) Tryd.func223 (by kernel_rfl) (by kernel_rfl) (by kernel_rfl) (by kernel_rfl)
  have h10 := @run_callFunc_extern Tryd.prog 134 _ ReflectliteType.typeOf Tryd.func134 (by kernel_rfl) (by kernel_rfl) (by kernel_rfl) (by kernel_rfl)
  have h35 := @run_callFunc_extern Tryd.prog 220 _ (ReflectliteType.relation "AssignableTo" ReflectliteType.assignableTo) Tryd.func220 (by kernel_rfl) (by kernel_rfl) (by kernel_rfl) (by kernel_rfl)
  have tO := aM_typeOf
  have mA := am_AssignableTo
  have mK := am_Kind
  have mE := am_Elem
  have mI := am_Implements
  have a25 := aM_assignable
  have v25 := aM_valueOf
  have f6 := aM_valueOfP
  have f7 := aM_type
  have k27 := aM_kindP
  have k25 := aM_kind
  have e27 := aM_elem
  have i25 := aM_implements
  have h11 := @run_callFunc_extern Tryd.prog 137 _ (ReflectliteValue.method (ReflectliteValue.valueError "reflectlite.Value.Elem" 0) ReflectliteValue.elem) Tryd.func137 (by kernel_rfl) (by kernel_rfl) (by kernel_rfl) (by kernel_rfl)
  have h12 := @run_callFunc_extern Tryd.prog 138 _ ReflectliteValue.set Tryd.func138 (by kernel_rfl) (by kernel_rfl) (by kernel_rfl) (by kernel_rfl)
  have el := aM_elemV ⟨w.heap.size, 0, none⟩ ⟨tb, 0, none⟩ (((w.alloc (.cells #[.pointer (some ⟨tb, 0, none⟩)] 130)).alloc (.cells #[.pointer (some ⟨10, 130, none⟩), .pointer (some ⟨w.heap.size, 0, none⟩), .int .u64 150] 179)).alloc (.cells #[.pointer (some ⟨10, 130, none⟩), .pointer (some ⟨w.heap.size, 0, none⟩), .int .u64 150] 179)) (by rw [World.cell?_alloc_lt _ _ ⟨w.heap.size, 0, none⟩ (by simp; omega)]; simp)
  have st := aM_set k s h a b tb (w.heap.size + 1 + 1 + 1) o0 o1 o2 o3 o4 ((((w.alloc (.cells #[.pointer (some ⟨tb, 0, none⟩)] 130)).alloc (.cells #[.pointer (some ⟨10, 130, none⟩), .pointer (some ⟨w.heap.size, 0, none⟩), .int .u64 150] 179)).alloc (.cells #[.pointer (some ⟨10, 130, none⟩), .pointer (some ⟨w.heap.size, 0, none⟩), .int .u64 150] 179)).alloc (.cells #[.int .i8 k, .string s, .int .i16 h, .int .u64 a, .int .u64 b] 128)) (by rw [World.cell?_alloc_at _ _ _ _ (by simp)]; rfl) (by rw [World.cell?_alloc_at _ _ _ _ (by simp)]; rfl) (by rw [World.cell?_alloc_at _ _ _ _ (by simp)]; rfl) (by rw [World.cell?_alloc_at _ _ _ _ (by simp)]; rfl) (by rw [World.cell?_alloc_at _ _ _ _ (by simp)]; rfl) (by rw [block_oldA _ _ (by simp; omega), block_oldA _ _ (by simp; omega), block_oldA _ _ (by simp; omega), block_oldA _ _ htl]; exact ht)
  go_enter Tryd.func74, Tryd.ntmps74
  go_wp2
  refine wp_loop_rounds 1 ?_
  rw [rounds_succ]
  go_wp2
  go_ret
  exact ⟨rfl, fin5 (Nat.le_of_lt htl) _ _ _ _ _ _ _ _ _⟩

set_option maxRecDepth 100000 in
set_option maxHeartbeats 8000000 in
theorem as_hitO (k : Int) (tb : Nat) (o0 : Value) (w : World) (hg : w.cell? ⟨3, 0, none⟩ = some (.iface 210 (.agg #[.pointer (some ⟨10, 73, none⟩)]))) (ht : w.heap[tb]? = some (.cells #[o0] 121 (0, 0))) :
    Calls Tryd.prog 74 #[.iface 121 (.int .i64 k), .iface 131 (.pointer (some ⟨tb, 0, none⟩))] w fun e w' => e = .returned (.bool true) ∧ Below tb w w' := by
  have hlt : 3 < w.heap.size := World.block_lt_of_cell? _ _ hg
  have htl : tb < w.heap.size := lt_of_block ht
  have hg2 : ((w.alloc (.cells #[.pointer (some ⟨tb, 0, none⟩)] 131)).alloc (.cells #[.pointer (some ⟨10, 131, none⟩), .pointer (some ⟨w.heap.size, 0, none⟩), .int .u64 150] 179)).cell? ⟨3, 0, none⟩ = some (.iface 210 (.agg #[.pointer (some ⟨10, 73, none⟩)])) := by
    rw [World.cell?_alloc_lt _ _ ⟨3, 0, none⟩ (by simp <;> omega), World.cell?_alloc_lt _ _ ⟨3, 0, none⟩ hlt]; exact hg
  have n8 := aO_isNil ⟨w.heap.size, 0, none⟩ ⟨tb, 0, none⟩ ((w.alloc (.cells #[.pointer (some ⟨tb, 0, none⟩)] 131)).alloc (.cells #[.pointer (some ⟨10, 131, none⟩), .pointer (some ⟨w.heap.size, 0, none⟩), .int .u64 150] 179)) (by simp)
  have h6 := @run_callFunc_extern Tryd.prog 115 _ (fun args => ReflectliteValue.unpack (args.getD 0 (.tuple #[]))) Tryd.func115 (by kernel_rfl) (by kernel_rfl) (by kernel_rfl) (by kernel_rfl)
  have h7 := @run_callFunc_extern Tryd.prog 116 _ (ReflectliteValue.methodAny (ReflectliteValue.valueError "reflectlite.Value.Type" 0) (fun t _ _ _ => ReflectliteType.toType t)) Tryd.func116 (by kernel_rfl) (by kernel_rfl) (by kernel_rfl) (by kernel_rfl)
  have h8 := @run_callFunc_extern Tryd.prog 117 _ (ReflectliteValue.method (ReflectliteValue.valueError "reflectlite.Value.IsNil" 0) ReflectliteValue.isNil) Tryd.func117 (by kernel_rfl) (by kernel_rfl) (by kernel_rfl) (by kernel_rfl)
  have h27 := @run_callFunc_extern Tryd.prog 194 _ (ReflectliteType.abiMethod fun t => do pure (.int .u8 (← Rtype.kind t))) Tryd.func194 (by kernel_rfl) (by kernel_rfl) (by kernel_rfl) (by kernel_rfl)
  have h37 := @run_callFunc_extern Tryd.prog 222 _ (ReflectliteType.method ReflectliteType.elem) Tryd.func222 (by kernel_rfl) (by kernel_rfl) (by kernel_rfl) (by kernel_rfl)
  have h38 := @run_callFunc_extern Tryd.prog 223 _ (ReflectliteType.relation "Implements" ReflectliteType.implements_) Tryd.func223 (by kernel_rfl) (by kernel_rfl) (by kernel_rfl) (by kernel_rfl)
  have h10 := @run_callFunc_extern Tryd.prog 134 _ ReflectliteType.typeOf Tryd.func134 (by kernel_rfl) (by kernel_rfl) (by kernel_rfl) (by kernel_rfl)
  have h35 := @run_callFunc_extern Tryd.prog 220 _ (ReflectliteType.relation "AssignableTo" ReflectliteType.assignableTo) Tryd.func220 (by kernel_rfl) (by kernel_rfl) (by kernel_rfl) (by kernel_rfl)
  have tO := aO_typeOf
  have mA := am_AssignableTo
  have mK := am_Kind
  have mE := am_Elem
  have mI := am_Implements
  have a25 := aO_assignable
  have v25 := aO_valueOf
  have f6 := aO_valueOfP
  have f7 := aO_type
  have k27 := aO_kindP
  have k25 := aO_kind
  have e27 := aO_elem
  have i25 := aO_implements
  have h11 := @run_callFunc_extern Tryd.prog 137 _ (ReflectliteValue.method (ReflectliteValue.valueError "reflectlite.Value.Elem" 0) ReflectliteValue.elem) Tryd.func137 (by kernel_rfl) (by kernel_rfl) (by kernel_rfl) (by kernel_rfl)
  have h12 := @run_callFunc_extern Tryd.prog 138 _ ReflectliteValue.set Tryd.func138 (by kernel_rfl) (by kernel_rfl) (by kernel_rfl) (by kernel_rfl)
  have el := aO_elemV ⟨w.heap.size, 0, none⟩ ⟨tb, 0, none⟩ (((w.alloc (.cells #[.pointer (some ⟨tb, 0, none⟩)] 131)).alloc (.cells #[.pointer (some ⟨10, 131, none⟩), .pointer (some ⟨w.heap.size, 0, none⟩), .int .u64 150] 179)).alloc (.cells #[.pointer (some ⟨10, 131, none⟩), .pointer (some ⟨w.heap.size, 0, none⟩), .int .u64 150] 179)) (by rw [World.cell?_alloc_lt _ _ ⟨w.heap.size, 0, none⟩ (by simp; omega)]; simp)
  have hb4 := show ((((w.alloc (.cells #[.pointer (some ⟨tb, 0, none⟩)] 131)).alloc (.cells #[.pointer (some ⟨10, 131, none⟩), .pointer (some ⟨w.heap.size, 0, none⟩), .int .u64 150] 179)).alloc (.cells #[.pointer (some ⟨10, 131, none⟩), .pointer (some ⟨w.heap.size, 0, none⟩), .int .u64 150] 179)).alloc (.cells #[.int .i64 k] 121)).heap[tb]? = some (.cells #[o0] 121 (0, 0)) by rw [block_oldA _ _ (by simp; omega), block_oldA _ _ (by simp; omega), block_oldA _ _ (by simp; omega), block_oldA _ _ htl]; exact ht
  have st := aO_set k tb (w.heap.size + 1 + 1 + 1) o0 ((((w.alloc (.cells #[.pointer (some ⟨tb, 0, none⟩)] 131)).alloc (.cells #[.pointer (some ⟨10, 131, none⟩), .pointer (some ⟨w.heap.size, 0, none⟩), .int .u64 150] 179)).alloc (.cells #[.pointer (some ⟨10, 131, none⟩), .pointer (some ⟨w.heap.size, 0, none⟩), .int .u64 150] 179)).alloc (.cells #[.int .i64 k] 121)) (by rw [World.cell?_alloc_at _ _ _ _ (by simp)]; rfl) (by simpa using cell_of_block hb4 0) (free_of_block hb4 0)
  go_enter Tryd.func74, Tryd.ntmps74
  go_wp2
  refine wp_loop_rounds 1 ?_
  rw [rounds_succ]
  go_wp2
  go_ret
  exact ⟨rfl, fin1 (Nat.le_of_lt htl) _ _ _ _ _⟩

set_option maxRecDepth 100000 in
set_option maxHeartbeats 8000000 in
theorem as_miss (k : Int) (tb : Nat) (C : Array Value) (w : World) (hg : w.cell? ⟨3, 0, none⟩ = some (.iface 210 (.agg #[.pointer (some ⟨10, 73, none⟩)]))) (ht : w.heap[tb]? = some (.cells C 128 (0, 0))) :
    Calls Tryd.prog 74 #[.iface 121 (.int .i64 k), .iface 130 (.pointer (some ⟨tb, 0, none⟩))] w fun e w' => e = .returned (.bool false) ∧ Below w.heap.size w w' := by
  have hlt : 3 < w.heap.size := World.block_lt_of_cell? _ _ hg
  have htl : tb < w.heap.size := lt_of_block ht
  have hg2 : ((w.alloc (.cells #[.pointer (some ⟨tb, 0, none⟩)] 130)).alloc (.cells #[.pointer (some ⟨10, 130, none⟩), .pointer (some ⟨w.heap.size, 0, none⟩), .int .u64 150] 179)).cell? ⟨3, 0, none⟩ = some (.iface 210 (.agg #[.pointer (some ⟨10, 73, none⟩)])) := by
    rw [World.cell?_alloc_lt _ _ ⟨3, 0, none⟩ (by simp <;> omega), World.cell?_alloc_lt _ _ ⟨3, 0, none⟩ hlt]; exact hg
  have n8 := aM_isNil ⟨w.heap.size, 0, none⟩ ⟨tb, 0, none⟩ ((w.alloc (.cells #[.pointer (some ⟨tb, 0, none⟩)] 130)).alloc (.cells #[.pointer (some ⟨10, 130, none⟩), .pointer (some ⟨w.heap.size, 0, none⟩), .int .u64 150] 179)) (by simp)
  have h6 := @run_callFunc_extern Tryd.prog 115 _ (fun args => ReflectliteValue.unpack (args.getD 0 (.tuple #[]))) Tryd.func115 (by kernel_rfl) (by kernel_rfl) (by kernel_rfl) (by kernel_rfl)
  have h7 := @run_callFunc_extern Tryd.prog 116 _ (ReflectliteValue.methodAny (ReflectliteValue.valueError "reflectlite.Value.Type" 0) (fun t _ _ _ => ReflectliteType.toType t)) Tryd.func116 (by kernel_rfl) (by kernel_rfl) (by kernel_rfl) (by kernel_rfl)
  have h8 := @run_callFunc_extern Tryd.prog 117 _ (ReflectliteValue.method (ReflectliteValue.valueError "reflectlite.Value.IsNil" 0) ReflectliteValue.isNil) Tryd.func117 (by kernel_rfl) (by kernel_rfl) (by kernel_rfl) (by kernel_rfl)
  have h27 := @run_callFunc_extern Tryd.prog 194 _ (ReflectliteType.abiMethod fun t => do pure (.int .u8 (← Rtype.kind t))) Tryd.func194 (by kernel_rfl) (by kernel_rfl) (by kernel_rfl) (by kernel_rfl)
  have h37 := @run_callFunc_extern Tryd.prog 222 _ (ReflectliteType.method ReflectliteType.elem) Tryd.func222 (by kernel_rfl) (by kernel_rfl) (by kernel_rfl) (by kernel_rfl)
  have h38 := @run_callFunc_extern Tryd.prog 223 _ (ReflectliteType.relation "Implements" ReflectliteType.implements_) Tryd.func223 (by kernel_rfl) (by kernel_rfl) (by kernel_rfl) (by kernel_rfl)
  have h10 := @run_callFunc_extern Tryd.prog 134 _ ReflectliteType.typeOf Tryd.func134 (by kernel_rfl) (by kernel_rfl) (by kernel_rfl) (by kernel_rfl)
  have h35 := @run_callFunc_extern Tryd.prog 220 _ (ReflectliteType.relation "AssignableTo" ReflectliteType.assignableTo) Tryd.func220 (by kernel_rfl) (by kernel_rfl) (by kernel_rfl) (by kernel_rfl)
  have tO := aO_typeOf
  have mA := am_AssignableTo
  have mK := am_Kind
  have mE := am_Elem
  have mI := am_Implements
  have a25 := aOM_assignable
  have f6 := aM_valueOfP
  have f7 := aM_type
  have k27 := aM_kindP
  have k25 := aM_kind
  have e27 := aM_elem
  have i25 := aM_implements
  have nE := aO_noAs
  have uE := aO_noUn
  have vE := aO_noUns
  go_enter Tryd.func74, Tryd.ntmps74
  go_wp2
  refine wp_loop_rounds 1 ?_
  rw [rounds_succ]
  go_wp2
  go_ret
  exact ⟨rfl, (by repeat' (first | (with_reducible exact Below.refl _ _) | (with_reducible assumption) | (with_reducible refine below_drewN ?_ _) | (with_reducible refine Below.drew ?_) | (with_reducible refine below_new ?_ _) | (with_reducible refine below_next ?_ (by with_reducible assumption)) | (with_reducible refine Below.setCell ?_ ?_ _) | go_size))⟩
end Go.Proofs.YtbmjghkdhhcffaaDoor
