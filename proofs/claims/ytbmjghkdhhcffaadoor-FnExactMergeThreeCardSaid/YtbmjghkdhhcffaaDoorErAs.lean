/- errors.As by its contracts, at the program's own refusals: the library's own text is walked. -/
import Derived.Test.YtbmjghkdhhcffaaDoorFrame
import Derived.WalkKit
import Derived.LaidEql
import Derived.Stop.Asserts
import Derived.RowKitTokens
import Derived.Below
namespace Go.Proofs.YtbmjghkdhhcffaaDoor
open Go.ChangeShapes Go.WideShapes Go.ChangeAt Go.RowKit Go.Extern.Stop Go.Stop Go.Extern

theorem as_nil (t : Value) (w : World) : Calls Tryd.prog 74 #[.nilIface, t] w fun e w' => e = .returned (.bool false) ∧ w = w' := by
  go_enter Tryd.func74, Tryd.ntmps74
  go_wp2
  go_ret
  exact ⟨rfl, rfl⟩
theorem rlm (z : Sem Value) (f : TypeId → Addr → Nat → Nat → Sem Value) (v : Value) :
    ReflectliteValue.method z f #[v] = (do match ← ReflectliteValue.parts v with | none => z | some (t, a, fl) => f t a fl (fl % 32)) := rfl
theorem rls (v x : Value) : ReflectliteValue.set #[v, x] = (do
    let (some (dst, a, fl), some (src, b, _)) := (← ReflectliteValue.parts v, ← ReflectliteValue.parts x)
      | unsupported (.noEntry "extern/(internal/reflectlite.Value).Set.zeroValue")
    if fl / ReflectliteValue.flagAddr % 2 == 0 then unsupported (.noEntry "extern/(internal/reflectlite.Value).Set.unaddressable")
    let val ← loadVar src b
    if ← Rtype.directlyAssignable dst src then storeVar dst a val
    else if ← Rtype.implements dst src then
      if (← Rtype.kind src) == 20 then
        match val with
        | .nilIface => unsupported (.noEntry "extern/reflectlite: a nil value of one interface type handed on as a value of another")
        | _ => storeVar dst a val
      else storeVar dst a (.iface src val)
    else panicString ("reflectlite.Set: value of type " ++ (← Rtype.spelt src) ++ " is not assignable to type " ++ (← Rtype.spelt dst))
    pure (.tuple #[])) := rfl
theorem am_Kind (h : Value) (w : World) : (Go.method (Tryd.prog.types.size + Made.depth) 210 (.agg #[h]) "Kind").run Tryd.prog w = .ok (194, h) w := by kernel_rfl
theorem am_Elem (h : Value) (w : World) : (Go.method (Tryd.prog.types.size + Made.depth) 210 (.agg #[h]) "Elem").run Tryd.prog w = .ok (222, .agg #[h]) w := by kernel_rfl
theorem am_Implements (h : Value) (w : World) : (Go.method (Tryd.prog.types.size + Made.depth) 210 (.agg #[h]) "Implements").run Tryd.prog w = .ok (223, .agg #[h]) w := by kernel_rfl
theorem am_AssignableTo (h : Value) (w : World) : (Go.method (Tryd.prog.types.size + Made.depth) 210 (.agg #[h]) "AssignableTo").run Tryd.prog w = .ok (220, .agg #[h]) w := by kernel_rfl
/-! The closed facts at M. -/
theorem aM_valueOfP (t : Addr) (w : World) : (ReflectliteValue.unpack (.iface 130 (.pointer (some t)))).run Tryd.prog w = .ok (.agg #[.pointer (some ⟨10, 130, none⟩), .pointer (some ⟨w.heap.size, 0, none⟩), .int .u64 150]) (w.alloc (.cells #[.pointer (some t)] 130)) := by kernel_rfl
theorem aM_type (a : Addr) (w : World) : (ReflectliteValue.methodAny (ReflectliteValue.valueError "reflectlite.Value.Type" 0) (fun t _ _ _ => ReflectliteType.toType t) #[.agg #[.pointer (some ⟨10, 130, none⟩), .pointer (some a), .int .u64 150]]).run Tryd.prog w = .ok (.iface 210 (.agg #[.pointer (some ⟨10, 130, none⟩)])) w := by kernel_rfl
theorem aM_kindP (w : World) : ((ReflectliteType.abiMethod fun t => (fun a : Nat => Value.int IntKind.u8 (a : Int)) <$> Rtype.kind t) #[.pointer (some ⟨10, 130, none⟩)]).run Tryd.prog w = .ok (.int .u8 22) w := by kernel_rfl
theorem aM_kind (w : World) : ((ReflectliteType.abiMethod fun t => (fun a : Nat => Value.int IntKind.u8 (a : Int)) <$> Rtype.kind t) #[.pointer (some ⟨10, 128, none⟩)]).run Tryd.prog w = .ok (.int .u8 25) w := by kernel_rfl
theorem aM_partsP (a : Addr) (w : World) : (ReflectliteValue.parts (.agg #[.pointer (some ⟨10, 130, none⟩), .pointer (some a), .int .u64 150])).run Tryd.prog w = .ok (some (130, a, 150)) w := by kernel_rfl
theorem aM_isNil (a q : Addr) (W : World) (ha : W.cell? a = some (.pointer (some q))) :
    (ReflectliteValue.method (ReflectliteValue.valueError "reflectlite.Value.IsNil" 0) ReflectliteValue.isNil #[.agg #[.pointer (some ⟨10, 130, none⟩), .pointer (some a), .int .u64 150]]).run Tryd.prog W = .ok (.bool false) W := by
  rw [rlm]
  simp only [Sem.run_bind, aM_partsP, Result.andThen]
  simp [ReflectliteValue.isNil, loadVar, isAgg, underlying, Tryd.underlying130, ha, Result.andThen]
theorem aM_elem (w : World) : (ReflectliteType.method ReflectliteType.elem #[.agg #[.pointer (some ⟨10, 130, none⟩)]]).run Tryd.prog w = .ok (.iface 210 (.agg #[.pointer (some ⟨10, 128, none⟩)])) w := by kernel_rfl
theorem aM_implements (w : World) : (ReflectliteType.relation "Implements" ReflectliteType.implements_ #[.agg #[.pointer (some ⟨10, 128, none⟩)], .iface 210 (.agg #[.pointer (some ⟨10, 73, none⟩)])]).run Tryd.prog w = .ok (.bool true) w := by kernel_rfl
theorem aM_typeOf (v : Value) (w : World) : (ReflectliteType.typeOf #[.iface 128 v]).run Tryd.prog w = .ok (.iface 210 (.agg #[.pointer (some ⟨10, 128, none⟩)])) w := by kernel_rfl
theorem aM_assignable (w : World) : (ReflectliteType.relation "AssignableTo" ReflectliteType.assignableTo #[.agg #[.pointer (some ⟨10, 128, none⟩)], .iface 210 (.agg #[.pointer (some ⟨10, 128, none⟩)])]).run Tryd.prog w = .ok (.bool true) w := by kernel_rfl
theorem aM_valueOf (k : Int) (s : ByteArray) (h a b : Int) (w : World) : (ReflectliteValue.unpack (.iface 128 (.agg #[.int .i8 k, .string s, .int .i16 h, .int .u64 a, .int .u64 b]))).run Tryd.prog w = .ok (.agg #[.pointer (some ⟨10, 128, none⟩), .pointer (some ⟨w.heap.size, 0, none⟩), .int .u64 153]) (w.alloc (.cells #[.int .i8 k, .string s, .int .i16 h, .int .u64 a, .int .u64 b] 128)) := by kernel_rfl
theorem aM_elemOf (w : World) : (Rtype.elem? 130).run Tryd.prog w = .ok (some 128) w := by kernel_rfl
theorem aM_mk (q : Addr) (w : World) : (ReflectliteValue.mk 128 q ReflectliteValue.flagAddr).run Tryd.prog w = .ok (.agg #[.pointer (some ⟨10, 128, none⟩), .pointer (some q), .int .u64 409]) w := by kernel_rfl
theorem aM_elemV (a q : Addr) (W : World) (ha : W.cell? a = some (.pointer (some q))) :
    (ReflectliteValue.method (ReflectliteValue.valueError "reflectlite.Value.Elem" 0) ReflectliteValue.elem #[.agg #[.pointer (some ⟨10, 130, none⟩), .pointer (some a), .int .u64 150]]).run Tryd.prog W
      = .ok (.agg #[.pointer (some ⟨10, 128, none⟩), .pointer (some q), .int .u64 409]) W := by
  rw [rlm]
  simp only [Sem.run_bind, aM_partsP, Result.andThen]
  simp [ReflectliteValue.elem, loadVar, isAgg, underlying, Tryd.underlying130, ha, Result.andThen, aM_elemOf, aM_mk]
theorem aM_partsA (a : Addr) (w : World) : (ReflectliteValue.parts (.agg #[.pointer (some ⟨10, 128, none⟩), .pointer (some a), .int .u64 409])).run Tryd.prog w = .ok (some (128, a, 409)) w := by kernel_rfl
theorem aM_parts (a : Addr) (w : World) : (ReflectliteValue.parts (.agg #[.pointer (some ⟨10, 128, none⟩), .pointer (some a), .int .u64 153])).run Tryd.prog w = .ok (some (128, a, 153)) w := by kernel_rfl
theorem aM_direct (w : World) : (Rtype.directlyAssignable 128 128).run Tryd.prog w = .ok true w := by kernel_rfl
theorem aM_size (w : World) : (sizeOf 128).run Tryd.prog w = .ok 5 w := by kernel_rfl
/-! The closed facts at O. -/
theorem aO_valueOfP (t : Addr) (w : World) : (ReflectliteValue.unpack (.iface 131 (.pointer (some t)))).run Tryd.prog w = .ok (.agg #[.pointer (some ⟨10, 131, none⟩), .pointer (some ⟨w.heap.size, 0, none⟩), .int .u64 150]) (w.alloc (.cells #[.pointer (some t)] 131)) := by kernel_rfl
theorem aO_type (a : Addr) (w : World) : (ReflectliteValue.methodAny (ReflectliteValue.valueError "reflectlite.Value.Type" 0) (fun t _ _ _ => ReflectliteType.toType t) #[.agg #[.pointer (some ⟨10, 131, none⟩), .pointer (some a), .int .u64 150]]).run Tryd.prog w = .ok (.iface 210 (.agg #[.pointer (some ⟨10, 131, none⟩)])) w := by kernel_rfl
theorem aO_kindP (w : World) : ((ReflectliteType.abiMethod fun t => (fun a : Nat => Value.int IntKind.u8 (a : Int)) <$> Rtype.kind t) #[.pointer (some ⟨10, 131, none⟩)]).run Tryd.prog w = .ok (.int .u8 22) w := by kernel_rfl
theorem aO_kind (w : World) : ((ReflectliteType.abiMethod fun t => (fun a : Nat => Value.int IntKind.u8 (a : Int)) <$> Rtype.kind t) #[.pointer (some ⟨10, 121, none⟩)]).run Tryd.prog w = .ok (.int .u8 2) w := by kernel_rfl
theorem aO_partsP (a : Addr) (w : World) : (ReflectliteValue.parts (.agg #[.pointer (some ⟨10, 131, none⟩), .pointer (some a), .int .u64 150])).run Tryd.prog w = .ok (some (131, a, 150)) w := by kernel_rfl
theorem aO_isNil (a q : Addr) (W : World) (ha : W.cell? a = some (.pointer (some q))) :
    (ReflectliteValue.method (ReflectliteValue.valueError "reflectlite.Value.IsNil" 0) ReflectliteValue.isNil #[.agg #[.pointer (some ⟨10, 131, none⟩), .pointer (some a), .int .u64 150]]).run Tryd.prog W = .ok (.bool false) W := by
  rw [rlm]
  simp only [Sem.run_bind, aO_partsP, Result.andThen]
  simp [ReflectliteValue.isNil, loadVar, isAgg, underlying, Tryd.underlying131, ha, Result.andThen]
theorem aO_elem (w : World) : (ReflectliteType.method ReflectliteType.elem #[.agg #[.pointer (some ⟨10, 131, none⟩)]]).run Tryd.prog w = .ok (.iface 210 (.agg #[.pointer (some ⟨10, 121, none⟩)])) w := by kernel_rfl
theorem aO_implements (w : World) : (ReflectliteType.relation "Implements" ReflectliteType.implements_ #[.agg #[.pointer (some ⟨10, 121, none⟩)], .iface 210 (.agg #[.pointer (some ⟨10, 73, none⟩)])]).run Tryd.prog w = .ok (.bool true) w := by kernel_rfl
theorem aO_typeOf (v : Value) (w : World) : (ReflectliteType.typeOf #[.iface 121 v]).run Tryd.prog w = .ok (.iface 210 (.agg #[.pointer (some ⟨10, 121, none⟩)])) w := by kernel_rfl
theorem aO_assignable (w : World) : (ReflectliteType.relation "AssignableTo" ReflectliteType.assignableTo #[.agg #[.pointer (some ⟨10, 121, none⟩)], .iface 210 (.agg #[.pointer (some ⟨10, 121, none⟩)])]).run Tryd.prog w = .ok (.bool true) w := by kernel_rfl
theorem aO_valueOf (k : Int) (w : World) : (ReflectliteValue.unpack (.iface 121 (.int .i64 k))).run Tryd.prog w = .ok (.agg #[.pointer (some ⟨10, 121, none⟩), .pointer (some ⟨w.heap.size, 0, none⟩), .int .u64 130]) (w.alloc (.cells #[.int .i64 k] 121)) := by kernel_rfl
theorem aO_elemOf (w : World) : (Rtype.elem? 131).run Tryd.prog w = .ok (some 121) w := by kernel_rfl
theorem aO_mk (q : Addr) (w : World) : (ReflectliteValue.mk 121 q ReflectliteValue.flagAddr).run Tryd.prog w = .ok (.agg #[.pointer (some ⟨10, 121, none⟩), .pointer (some q), .int .u64 386]) w := by kernel_rfl
theorem aO_elemV (a q : Addr) (W : World) (ha : W.cell? a = some (.pointer (some q))) :
    (ReflectliteValue.method (ReflectliteValue.valueError "reflectlite.Value.Elem" 0) ReflectliteValue.elem #[.agg #[.pointer (some ⟨10, 131, none⟩), .pointer (some a), .int .u64 150]]).run Tryd.prog W
      = .ok (.agg #[.pointer (some ⟨10, 121, none⟩), .pointer (some q), .int .u64 386]) W := by
  rw [rlm]
  simp only [Sem.run_bind, aO_partsP, Result.andThen]
  simp [ReflectliteValue.elem, loadVar, isAgg, underlying, Tryd.underlying131, ha, Result.andThen, aO_elemOf, aO_mk]
theorem aO_partsA (a : Addr) (w : World) : (ReflectliteValue.parts (.agg #[.pointer (some ⟨10, 121, none⟩), .pointer (some a), .int .u64 386])).run Tryd.prog w = .ok (some (121, a, 386)) w := by kernel_rfl
theorem aO_parts (a : Addr) (w : World) : (ReflectliteValue.parts (.agg #[.pointer (some ⟨10, 121, none⟩), .pointer (some a), .int .u64 130])).run Tryd.prog w = .ok (some (121, a, 130)) w := by kernel_rfl
theorem aO_direct (w : World) : (Rtype.directlyAssignable 121 121).run Tryd.prog w = .ok true w := by kernel_rfl
theorem aO_size (w : World) : (sizeOf 121).run Tryd.prog w = .ok 1 w := by kernel_rfl
theorem aO_set (k : Int) (tb b : Nat) (old : Value) (W : World) (hb : W.cell? ⟨b, 0, none⟩ = some (.int .i64 k)) (ht : W.cell? ⟨tb, 0, none⟩ = some old) (hf : W.frozen? ⟨tb, 0, none⟩ = false) :
    (ReflectliteValue.set #[.agg #[.pointer (some ⟨10, 121, none⟩), .pointer (some ⟨tb, 0, none⟩), .int .u64 386], .agg #[.pointer (some ⟨10, 121, none⟩), .pointer (some ⟨b, 0, none⟩), .int .u64 130]]).run Tryd.prog W = .ok (.tuple #[]) (W.setCell ⟨tb, 0, none⟩ (.int .i64 k)) := by
  rw [rls]
  simp only [Sem.run_bind, aO_partsA, aO_parts, Result.andThen]
  simp [ReflectliteValue.flagAddr, loadVar, isAgg, underlying, Tryd.underlying121, hb, Result.andThen, aO_direct, storeVar, Value.cells, storeCells, Addr.add]
  rw [run_store Tryd.prog W ⟨tb, 0, none⟩ _ _ (by rfl)]
  simp [ht, hf]
theorem aOM_assignable (w : World) : (ReflectliteType.relation "AssignableTo" ReflectliteType.assignableTo #[.agg #[.pointer (some ⟨10, 121, none⟩)], .iface 210 (.agg #[.pointer (some ⟨10, 128, none⟩)])]).run Tryd.prog w = .ok (.bool false) w := by kernel_rfl
theorem aO_noAs (v : Value) (xT : TypeId) (w : World) : (Instr.typeAssert (.iface 121 v) xT 214 true).run Tryd.prog w = .ok (.tuple #[.nilIface, .bool false]) w := run_typeAssert_lacksB Tryd.underlying214 (by kernel_rfl) (by kernel_rfl) v xT w
theorem aO_noUn (v : Value) (xT : TypeId) (w : World) : (Instr.typeAssert (.iface 121 v) xT 217 true).run Tryd.prog w = .ok (.tuple #[.nilIface, .bool false]) w := run_typeAssert_lacksB Tryd.underlying217 (by kernel_rfl) (by kernel_rfl) v xT w
theorem aO_noUns (v : Value) (xT : TypeId) (w : World) : (Instr.typeAssert (.iface 121 v) xT 219 true).run Tryd.prog w = .ok (.tuple #[.nilIface, .bool false]) w := run_typeAssert_lacksB Tryd.underlying219 (by kernel_rfl) (by kernel_rfl) v xT w
end Go.Proofs.YtbmjghkdhhcffaaDoor
