/- errors.As at the program's refusal 'disputed' (a slice): met, and missed by the two other kinds. -/
import Derived.Test.YtbmjghkdhhcffaaDoorErA2
namespace Go.Proofs.YtbmjghkdhhcffaaDoor
open Go.ChangeShapes Go.WideShapes Go.ChangeAt Go.RowKit Go.Extern.Stop Go.Stop Go.Extern

/-! The closed facts at O. -/
theorem aD_valueOfP (t : Addr) (w : World) : (ReflectliteValue.unpack (.iface 132 (.pointer (some t)))).run Tryd.prog w = .ok (.agg #[.pointer (some ⟨10, 132, none⟩), .pointer (some ⟨w.heap.size, 0, none⟩), .int .u64 150]) (w.alloc (.cells #[.pointer (some t)] 132)) := by kernel_rfl
theorem aD_type (a : Addr) (w : World) : (ReflectliteValue.methodAny (ReflectliteValue.valueError "reflectlite.Value.Type" 0) (fun t _ _ _ => ReflectliteType.toType t) #[.agg #[.pointer (some ⟨10, 132, none⟩), .pointer (some a), .int .u64 150]]).run Tryd.prog w = .ok (.iface 210 (.agg #[.pointer (some ⟨10, 132, none⟩)])) w := by kernel_rfl
theorem aD_kindP (w : World) : ((ReflectliteType.abiMethod fun t => (fun a : Nat => Value.int IntKind.u8 (a : Int)) <$> Rtype.kind t) #[.pointer (some ⟨10, 132, none⟩)]).run Tryd.prog w = .ok (.int .u8 22) w := by kernel_rfl
theorem aD_kind (w : World) : ((ReflectliteType.abiMethod fun t => (fun a : Nat => Value.int IntKind.u8 (a : Int)) <$> Rtype.kind t) #[.pointer (some ⟨10, 114, none⟩)]).run Tryd.prog w = .ok (.int .u8 23) w := by kernel_rfl
theorem aD_partsP (a : Addr) (w : World) : (ReflectliteValue.parts (.agg #[.pointer (some ⟨10, 132, none⟩), .pointer (some a), .int .u64 150])).run Tryd.prog w = .ok (some (132, a, 150)) w := by kernel_rfl
theorem aD_isNil (a q : Addr) (W : World) (ha : W.cell? a = some (.pointer (some q))) :
    (ReflectliteValue.method (ReflectliteValue.valueError "reflectlite.Value.IsNil" 0) ReflectliteValue.isNil #[.agg #[.pointer (some ⟨10, 132, none⟩), .pointer (some a), .int .u64 150]]).run Tryd.prog W = .ok (.bool false) W := by
  rw [rlm]
  simp only [Sem.run_bind, aD_partsP, Result.andThen]
  simp [ReflectliteValue.isNil, loadVar, isAgg, underlying, Tryd.underlying132, ha, Result.andThen]
theorem aD_elem (w : World) : (ReflectliteType.method ReflectliteType.elem #[.agg #[.pointer (some ⟨10, 132, none⟩)]]).run Tryd.prog w = .ok (.iface 210 (.agg #[.pointer (some ⟨10, 114, none⟩)])) w := by kernel_rfl
theorem aD_implements (w : World) : (ReflectliteType.relation "Implements" ReflectliteType.implements_ #[.agg #[.pointer (some ⟨10, 114, none⟩)], .iface 210 (.agg #[.pointer (some ⟨10, 73, none⟩)])]).run Tryd.prog w = .ok (.bool true) w := by kernel_rfl
theorem aD_typeOf (v : Value) (w : World) : (ReflectliteType.typeOf #[.iface 114 v]).run Tryd.prog w = .ok (.iface 210 (.agg #[.pointer (some ⟨10, 114, none⟩)])) w := by kernel_rfl
theorem aD_assignable (w : World) : (ReflectliteType.relation "AssignableTo" ReflectliteType.assignableTo #[.agg #[.pointer (some ⟨10, 114, none⟩)], .iface 210 (.agg #[.pointer (some ⟨10, 114, none⟩)])]).run Tryd.prog w = .ok (.bool true) w := by kernel_rfl
theorem aD_valueOf (ad : Option Addr) (n c : Nat) (w : World) : (ReflectliteValue.unpack (.iface 114 (.slice ad n c))).run Tryd.prog w = .ok (.agg #[.pointer (some ⟨10, 114, none⟩), .pointer (some ⟨w.heap.size, 0, none⟩), .int .u64 151]) (w.alloc (.cells #[.slice ad n c] 114)) := by kernel_rfl
theorem aD_elemOf (w : World) : (Rtype.elem? 132).run Tryd.prog w = .ok (some 114) w := by kernel_rfl
theorem aD_mk (q : Addr) (w : World) : (ReflectliteValue.mk 114 q ReflectliteValue.flagAddr).run Tryd.prog w = .ok (.agg #[.pointer (some ⟨10, 114, none⟩), .pointer (some q), .int .u64 407]) w := by kernel_rfl
theorem aD_elemV (a q : Addr) (W : World) (ha : W.cell? a = some (.pointer (some q))) :
    (ReflectliteValue.method (ReflectliteValue.valueError "reflectlite.Value.Elem" 0) ReflectliteValue.elem #[.agg #[.pointer (some ⟨10, 132, none⟩), .pointer (some a), .int .u64 150]]).run Tryd.prog W
      = .ok (.agg #[.pointer (some ⟨10, 114, none⟩), .pointer (some q), .int .u64 407]) W := by
  rw [rlm]
  simp only [Sem.run_bind, aD_partsP, Result.andThen]
  simp [ReflectliteValue.elem, loadVar, isAgg, underlying, Tryd.underlying132, ha, Result.andThen, aD_elemOf, aD_mk]
theorem aD_partsA (a : Addr) (w : World) : (ReflectliteValue.parts (.agg #[.pointer (some ⟨10, 114, none⟩), .pointer (some a), .int .u64 407])).run Tryd.prog w = .ok (some (114, a, 407)) w := by kernel_rfl
theorem aD_parts (a : Addr) (w : World) : (ReflectliteValue.parts (.agg #[.pointer (some ⟨10, 114, none⟩), .pointer (some a), .int .u64 151])).run Tryd.prog w = .ok (some (114, a, 151)) w := by kernel_rfl
theorem aD_direct (w : World) : (Rtype.directlyAssignable 114 114).run Tryd.prog w = .ok true w := by kernel_rfl
theorem aD_size (w : World) : (sizeOf 114).run Tryd.prog w = .ok 1 w := by kernel_rfl
theorem aD_set (ad : Option Addr) (n c : Nat) (tb b : Nat) (old : Value) (W : World) (hb : W.cell? ⟨b, 0, none⟩ = some (.slice ad n c)) (ht : W.cell? ⟨tb, 0, none⟩ = some old) (hf : W.frozen? ⟨tb, 0, none⟩ = false) :
    (ReflectliteValue.set #[.agg #[.pointer (some ⟨10, 114, none⟩), .pointer (some ⟨tb, 0, none⟩), .int .u64 407], .agg #[.pointer (some ⟨10, 114, none⟩), .pointer (some ⟨b, 0, none⟩), .int .u64 151]]).run Tryd.prog W = .ok (.tuple #[]) (W.setCell ⟨tb, 0, none⟩ (.slice ad n c)) := by
  rw [rls]
  simp only [Sem.run_bind, aD_partsA, aD_parts, Result.andThen]
  simp [ReflectliteValue.flagAddr, loadVar, isAgg, underlying, Tryd.underlying114, hb, Result.andThen, aD_direct, storeVar, Value.cells, storeCells, Addr.add]
  rw [run_store Tryd.prog W ⟨tb, 0, none⟩ _ _ (by rfl)]
  simp [ht, hf]
theorem aDM_assignable (w : World) : (ReflectliteType.relation "AssignableTo" ReflectliteType.assignableTo #[.agg #[.pointer (some ⟨10, 114, none⟩)], .iface 210 (.agg #[.pointer (some ⟨10, 128, none⟩)])]).run Tryd.prog w = .ok (.bool false) w := by kernel_rfl
theorem aD_noAs (v : Value) (xT : TypeId) (w : World) : (Instr.typeAssert (.iface 114 v) xT 214 true).run Tryd.prog w = .ok (.tuple #[.nilIface, .bool false]) w := run_typeAssert_lacksB Tryd.underlying214 (by kernel_rfl) (by kernel_rfl) v xT w
theorem aD_noUn (v : Value) (xT : TypeId) (w : World) : (Instr.typeAssert (.iface 114 v) xT 217 true).run Tryd.prog w = .ok (.tuple #[.nilIface, .bool false]) w := run_typeAssert_lacksB Tryd.underlying217 (by kernel_rfl) (by kernel_rfl) v xT w
theorem aD_noUns (v : Value) (xT : TypeId) (w : World) : (Instr.typeAssert (.iface 114 v) xT 219 true).run Tryd.prog w = .ok (.tuple #[.nilIface, .bool false]) w := run_typeAssert_lacksB Tryd.underlying219 (by kernel_rfl) (by kernel_rfl) v xT w
theorem aDO_assignable (w : World) : (ReflectliteType.relation "AssignableTo" ReflectliteType.assignableTo #[.agg #[.pointer (some ⟨10, 114, none⟩)], .iface 210 (.agg #[.pointer (some ⟨10, 121, none⟩)])]).run Tryd.prog w = .ok (.bool false) w := by kernel_rfl

set_option maxRecDepth 100000 in
set_option maxHeartbeats 8000000 in
theorem as_hitD (ad : Option Addr) (n c : Nat) (tb : Nat) (o0 : Value) (w : World) (hg : w.cell? ⟨3, 0, none⟩ = some (.iface 210 (.agg #[.pointer (some ⟨10, 73, none⟩)]))) (ht : w.heap[tb]? = some (.cells #[o0] 114 (0, 0))) :
    Calls Tryd.prog 74 #[.iface 114 (.slice ad n c), .iface 132 (.pointer (some ⟨tb, 0, none⟩))] w fun e w' => e = .returned (.bool true) ∧ Below tb w w' := by
  have hlt : 3 < w.heap.size := World.block_lt_of_cell? _ _ hg
  have htl : tb < w.heap.size := lt_of_block ht
  have hg2 : ((w.alloc (.cells #[.pointer (some ⟨tb, 0, none⟩)] 132)).alloc (.cells #[.pointer (some ⟨10, 132, none⟩), .pointer (some ⟨w.heap.size, 0, none⟩), .int .u64 150] 179)).cell? ⟨3, 0, none⟩ = some (.iface 210 (.agg #[.pointer (some ⟨10, 73, none⟩)])) := by
    rw [World.cell?_alloc_lt _ _ ⟨3, 0, none⟩ (by simp <;> omega), World.cell?_alloc_lt _ _ ⟨3, 0, none⟩ hlt]; exact hg
  have n8 := aD_isNil ⟨w.heap.size, 0, none⟩ ⟨tb, 0, none⟩ ((w.alloc (.cells #[.pointer (some ⟨tb, 0, none⟩)] 132)).alloc (.cells #[.pointer (some ⟨10, 132, none⟩), .pointer (some ⟨w.heap.size, 0, none⟩), .int .u64 150] 179)) (by simp)
  have h6 := @run_callFunc_extern Tryd.prog 115 _ (fun args => ReflectliteValue.unpack (args.getD 0 (.tuple #[]))) Tryd.func115 (by kernel_rfl) (by kernel_rfl) (by kernel_rfl) (by kernel_rfl)
  have h7 := @run_callFunc_extern Tryd.prog 116 _ (ReflectliteValue.methodAny (ReflectliteValue.valueError "reflectlite.Value.Type" 0) (fun t _ _ _ => ReflectliteType.toType t)) Tryd.func116 (by kernel_rfl) (by kernel_rfl) (by kernel_rfl) (by kernel_rfl)
  have h8 := @run_callFunc_extern Tryd.prog 117 _ (ReflectliteValue.method (ReflectliteValue.valueError "reflectlite.Value.IsNil" 0) ReflectliteValue.isNil) Tryd.func117 (by kernel_rfl) (by kernel_rfl) (by kernel_rfl) (by kernel_rfl)
  have h27 := @run_callFunc_extern Tryd.prog 194 _ (ReflectliteType.abiMethod fun t => do pure (.int .u8 (← Rtype.kind t))) Tryd.func194 (by kernel_rfl) (by kernel_rfl) (by kernel_rfl) (by kernel_rfl)
  have h37 := @run_callFunc_extern Tryd.prog 222 _ (ReflectliteType.method ReflectliteType.elem) Tryd.func222 (by kernel_rfl) (by kernel_rfl) (by kernel_rfl) (by kernel_rfl)
  have h38 := @run_callFunc_extern Tryd.prog 223 _ (ReflectliteType.relation "Implements" ReflectliteType.implements_) Tryd.func223 (by kernel_rfl) (by kernel_rfl) (by kernel_rfl) (by kernel_rfl)
  have h10 := @run_callFunc_extern Tryd.prog 134 _ ReflectliteType.typeOf Tryd.func134 (by kernel_rfl) (by kernel_rfl) (by kernel_rfl) (by kernel_rfl)
  have h35 := @run_callFunc_extern Tryd.prog 220 _ (ReflectliteType.relation "AssignableTo" ReflectliteType.assignableTo) Tryd.func220 (by kernel_rfl) (by kernel_rfl) (by kernel_rfl) (by kernel_rfl)
  have tO := aD_typeOf
  have mA := am_AssignableTo
  have mK := am_Kind
  have mE := am_Elem
  have mI := am_Implements
  have a25 := aD_assignable
  have v25 := aD_valueOf
  have f6 := aD_valueOfP
  have f7 := aD_type
  have k27 := aD_kindP
  have k25 := aD_kind
  have e27 := aD_elem
  have i25 := aD_implements
  have h11 := @run_callFunc_extern Tryd.prog 137 _ (ReflectliteValue.method (ReflectliteValue.valueError "reflectlite.Value.Elem" 0) ReflectliteValue.elem) Tryd.func137 (by kernel_rfl) (by kernel_rfl) (by kernel_rfl) (by kernel_rfl)
  have h12 := @run_callFunc_extern Tryd.prog 138 _ ReflectliteValue.set Tryd.func138 (by kernel_rfl) (by kernel_rfl) (by kernel_rfl) (by kernel_rfl)
  have el := aD_elemV ⟨w.heap.size, 0, none⟩ ⟨tb, 0, none⟩ (((w.alloc (.cells #[.pointer (some ⟨tb, 0, none⟩)] 132)).alloc (.cells #[.pointer (some ⟨10, 132, none⟩), .pointer (some ⟨w.heap.size, 0, none⟩), .int .u64 150] 179)).alloc (.cells #[.pointer (some ⟨10, 132, none⟩), .pointer (some ⟨w.heap.size, 0, none⟩), .int .u64 150] 179)) (by rw [World.cell?_alloc_lt _ _ ⟨w.heap.size, 0, none⟩ (by simp; omega)]; simp)
  have hb4 := show ((((w.alloc (.cells #[.pointer (some ⟨tb, 0, none⟩)] 132)).alloc (.cells #[.pointer (some ⟨10, 132, none⟩), .pointer (some ⟨w.heap.size, 0, none⟩), .int .u64 150] 179)).alloc (.cells #[.pointer (some ⟨10, 132, none⟩), .pointer (some ⟨w.heap.size, 0, none⟩), .int .u64 150] 179)).alloc (.cells #[.slice ad n c] 114)).heap[tb]? = some (.cells #[o0] 114 (0, 0)) by rw [block_oldA _ _ (by simp; omega), block_oldA _ _ (by simp; omega), block_oldA _ _ (by simp; omega), block_oldA _ _ htl]; exact ht
  have st := aD_set ad n c tb (w.heap.size + 1 + 1 + 1) o0 ((((w.alloc (.cells #[.pointer (some ⟨tb, 0, none⟩)] 132)).alloc (.cells #[.pointer (some ⟨10, 132, none⟩), .pointer (some ⟨w.heap.size, 0, none⟩), .int .u64 150] 179)).alloc (.cells #[.pointer (some ⟨10, 132, none⟩), .pointer (some ⟨w.heap.size, 0, none⟩), .int .u64 150] 179)).alloc (.cells #[.slice ad n c] 114)) (by rw [World.cell?_alloc_at _ _ _ _ (by simp)]; rfl) (by simpa using cell_of_block hb4 0) (free_of_block hb4 0)
  go_enter Tryd.func74, Tryd.ntmps74
  go_wp2
  refine wp_loop_rounds 1 ?_
  rw [rounds_succ]
  go_wp2
  go_ret
  exact ⟨rfl, fin1 (Nat.le_of_lt htl) _ _ _ _ _⟩

set_option maxRecDepth 100000 in
set_option maxHeartbeats 8000000 in
theorem as_missDM (ad : Option Addr) (n c : Nat) (tb : Nat) (C : Array Value) (w : World) (hg : w.cell? ⟨3, 0, none⟩ = some (.iface 210 (.agg #[.pointer (some ⟨10, 73, none⟩)]))) (ht : w.heap[tb]? = some (.cells C 128 (0, 0))) :
    Calls Tryd.prog 74 #[.iface 114 (.slice ad n c), .iface 130 (.pointer (some ⟨tb, 0, none⟩))] w fun e w' => e = .returned (.bool false) ∧ Below w.heap.size w w' := by
  have hlt : 3 < w.heap.size := World.block_lt_of_cell? _ _ hg
  have htl : tb < w.heap.size := lt_of_block ht
  have hg2 : ((w.alloc (.cells #[.pointer (some ⟨tb, 0, none⟩)] 130)).alloc (.cells #[.pointer (some ⟨10, 130, none⟩), .pointer (some ⟨w.heap.size, 0, none⟩), .int .u64 150] 179)).cell? ⟨3, 0, none⟩ = some (.iface 210 (.agg #[.pointer (some ⟨10, 73, none⟩)])) := by
    rw [World.cell?_alloc_lt _ _ ⟨3, 0, none⟩ (by simp <;> omega), World.cell?_alloc_lt _ _ ⟨3, 0, none⟩ hlt]; exact hg
  have n8 := aM_isNil ⟨w.heap.size, 0, none⟩ ⟨tb, 0, none⟩ ((w.alloc (.cells #[.pointer (some ⟨tb, 0, none⟩)] 130)).alloc (.cells #[.pointer (some ⟨10, 130, none⟩), .pointer (some ⟨w.heap.size, 0, none⟩), .int .u64 150] 179)) (by simp)
  have h6 := @run_callFunc_extern Tryd.prog 115 _ (fun args => ReflectliteValue.unpack (args.getD 0 (.tuple #[]))) Tryd.func115 (by kernel_rfl) (by kernel_rfl) (by kernel_rfl) (by kernel_rfl)
  have h7 := @run_callFunc_extern Tryd.prog 116 _ (ReflectliteValue.methodAny (ReflectliteValue.valueError "reflectlite.Value.Type" 0) (fun t _ _ _ => ReflectliteType.toType t)) Tryd.func116 (by kernel_rfl) (by kernel_rfl) (by kernel_rfl) (by kernel_rfl)
  have h8 := @run_callFunc_extern Tryd.prog 117 _ (ReflectliteValue.method (ReflectliteValue.valueError "reflectlite.Value.IsNil" 0) ReflectliteValue.isNil) Tryd.func117 (by kernel_rfl) (by kernel_rfl) (by kernel_rfl) (by kernel_rfl)
  have h27 := @run_callFunc_extern Tryd.prog 194 _ (ReflectliteType.abiMethod fun t => do pure (.int .u8 (← Rtype.kind t))) Tryd.func194 (by kernel_rfl) (by kernel_rfl) (by kernel_rfl) (by kernel_rfl)
  have h37 := @run_callFunc_extern Tryd.prog 222 _ (ReflectliteType.method ReflectliteType.elem) Tryd.func222 (by kernel_rfl) (by kernel_rfl) (by kernel_rfl) (by kernel_rfl)
  have h38 := @run_callFunc_extern Tryd.prog 223 _ (ReflectliteType.relation "Implements" ReflectliteType.implements_) Tryd.func223 (by kernel_rfl) (by kernel_rfl) (by kernel_rfl) (by kernel_rfl)
  have h10 := @run_callFunc_extern Tryd.prog 134 _ ReflectliteType.typeOf Tryd.func134 (by kernel_rfl) (by kernel_rfl) (by kernel_rfl) (by kernel_rfl)
  have h35 := @run_callFunc_extern Tryd.prog 220 _ (ReflectliteType.relation "AssignableTo" ReflectliteType.assignableTo) Tryd.func220 (by kernel_rfl) (by kernel_rfl) (by kernel_rfl) (by kernel_rfl)
  have tO := aD_typeOf
  have mA := am_AssignableTo
  have mK := am_Kind
  have mE := am_Elem
  have mI := am_Implements
  have a25 := aDM_assignable
  have f6 := aM_valueOfP
  have f7 := aM_type
  have k27 := aM_kindP
  have k25 := aM_kind
  have e27 := aM_elem
  have i25 := aM_implements
  have nE := aD_noAs
  have uE := aD_noUn
  have vE := aD_noUns
  go_enter Tryd.func74, Tryd.ntmps74
  go_wp2
  refine wp_loop_rounds 1 ?_
  rw [rounds_succ]
  go_wp2
  go_ret
  exact ⟨rfl, (by repeat' (first | (with_reducible exact Below.refl _ _) | (with_reducible assumption) | (with_reducible refine below_drewN ?_ _) | (with_reducible refine Below.drew ?_) | (with_reducible refine below_new ?_ _) | (with_reducible refine below_next ?_ (by with_reducible assumption)) | (with_reducible refine Below.setCell ?_ ?_ _) | go_size))⟩

set_option maxRecDepth 100000 in
set_option maxHeartbeats 8000000 in
theorem as_missDO (ad : Option Addr) (n c : Nat) (tb : Nat) (C : Array Value) (w : World) (hg : w.cell? ⟨3, 0, none⟩ = some (.iface 210 (.agg #[.pointer (some ⟨10, 73, none⟩)]))) (ht : w.heap[tb]? = some (.cells C 121 (0, 0))) :
    Calls Tryd.prog 74 #[.iface 114 (.slice ad n c), .iface 131 (.pointer (some ⟨tb, 0, none⟩))] w fun e w' => e = .returned (.bool false) ∧ Below w.heap.size w w' := by
  have hlt : 3 < w.heap.size := World.block_lt_of_cell? _ _ hg
  have htl : tb < w.heap.size := lt_of_block ht
  have hg2 : ((w.alloc (.cells #[.pointer (some ⟨tb, 0, none⟩)] 131)).alloc (.cells #[.pointer (some ⟨10, 131, none⟩), .pointer (some ⟨w.heap.size, 0, none⟩), .int .u64 150] 179)).cell? ⟨3, 0, none⟩ = some (.iface 210 (.agg #[.pointer (some ⟨10, 73, none⟩)])) := by
    rw [World.cell?_alloc_lt _ _ ⟨3, 0, none⟩ (by simp <;> omega), World.cell?_alloc_lt _ _ ⟨3, 0, none⟩ hlt]; exact hg
  have n8 := aO_isNil ⟨w.heap.size, 0, none⟩ ⟨tb, 0, none⟩ ((w.alloc (.cells #[.pointer (some ⟨tb, 0, none⟩)] 131)).alloc (.cells #[.pointer (some ⟨10, 131, none⟩), .pointer (some ⟨w.heap.size, 0, none⟩), .int .u64 150] 179)) (by simp)
  have h6 := @run_callFunc_extern Tryd.prog 115 _ (fun args => ReflectliteValue.unpack (args.getD 0 (.tuple #[]))) Tryd.func115 (by kernel_rfl) (by kernel_rfl) (by kernel_rfl) (by kernel_rfl)
  have h7 := @run_callFunc_extern Tryd.prog 116 _ (ReflectliteValue.methodAny (ReflectliteValue.valueError "reflectlite.Value.Type" 0) (fun t _ _ _ => ReflectliteType.toType t)) Tryd.func116 (by kernel_rfl) (by kernel_rfl) (by kernel_rfl) (by kernel_rfl)
  have h8 := @run_callFunc_extern Tryd.prog 117 _ (ReflectliteValue.method (ReflectliteValue.valueError "reflectlite.Value.IsNil" 0) ReflectliteValue.isNil) Tryd.func117 (by kernel_rfl) (by kernel_rfl) (by kernel_rfl) (by kernel_rfl)
  have h27 := @run_callFunc_extern Tryd.prog 194 _ (ReflectliteType.abiMethod fun t => do pure (.int .u8 (← Rtype.kind t))) Tryd.func194 (by kernel_rfl) (by kernel_rfl) (by kernel_rfl) (by kernel_rfl)
  have h37 := @run_callFunc_extern Tryd.prog 222 _ (ReflectliteType.method ReflectliteType.elem) Tryd.func222 (by kernel_rfl) (by kernel_rfl) (by kernel_rfl) (by kernel_rfl)
  have h38 := @run_callFunc_extern Tryd.prog 223 _ (ReflectliteType.relation "Implements" ReflectliteType.implements_) Tryd.func223 (by kernel_rfl) (by kernel_rfl) (by kernel_rfl) (by kernel_rfl)
  have h10 := @run_callFunc_extern Tryd.prog 134 _ ReflectliteType.typeOf Tryd.func134 (by kernel_rfl) (by kernel_rfl) (by kernel_rfl) (by kernel_rfl)
  have h35 := @run_callFunc_extern Tryd.prog 220 _ (ReflectliteType.relation "AssignableTo" ReflectliteType.assignableTo) Tryd.func220 (by kernel_rfl) (by kernel_rfl) (by kernel_rfl) (by kernel_rfl)
  have tO := aD_typeOf
  have mA := am_AssignableTo
  have mK := am_Kind
  have mE := am_Elem
  have mI := am_Implements
  have a25 := aDO_assignable
  have f6 := aO_valueOfP
  have f7 := aO_type
  have k27 := aO_kindP
  have k25 := aO_kind
  have e27 := aO_elem
  have i25 := aO_implements
  have nE := aD_noAs
  have uE := aD_noUn
  have vE := aD_noUns
  go_enter Tryd.func74, Tryd.ntmps74
  go_wp2
  refine wp_loop_rounds 1 ?_
  rw [rounds_succ]
  go_wp2
  go_ret
  exact ⟨rfl, (by repeat' (first | (with_reducible exact Below.refl _ _) | (with_reducible assumption) | (with_reducible refine below_drewN ?_ _) | (with_reducible refine Below.drew ?_) | (with_reducible refine below_new ?_ _) | (with_reducible refine below_next ?_ (by with_reducible assumption)) | (with_reducible refine Below.setCell ?_ ?_ _) | go_size))⟩
end Go.Proofs.YtbmjghkdhhcffaaDoor
