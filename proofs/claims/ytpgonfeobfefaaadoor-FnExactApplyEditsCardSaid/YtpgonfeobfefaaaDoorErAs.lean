/- errors.As by its contracts, at the program's own refusals: the library's own text is walked. -/
import Derived.Test.YtpgonfeobfefaaaDoorFrame
import Derived.WalkKit
import Derived.LaidEql
import Derived.Stop.Asserts
import Derived.RowKitTokens
import Derived.Below
namespace Go.Proofs.YtpgonfeobfefaaaDoor
open Go.ChangeShapes Go.WideShapes Go.ChangeAt Go.RowKit Go.Extern.Stop Go.Stop Go.Extern

theorem as_nil (t : Value) (w : World) : Calls Tryd.prog 75 #[.nilIface, t] w fun e w' => e = .returned (.bool false) ∧ w = w' := by
  go_enter Tryd.func75, Tryd.ntmps75
  go_wp2
  go_ret
  exact ⟨rfl, rfl⟩
theorem rlm (z : Sem Value) (f : TypeId → Addr → Nat → Nat → Sem Value) (v : Value) :
    ReflectliteValue.method z f #[v] = (do match ← ReflectliteValue.parts v with | none => z | some (t, a, fl) => f t a fl (fl % 32)) := rfl
theorem rls (v x : Value) : ReflectliteValue.set #[v, x] = (do
    let (some (dst, a, fl), some (src, b, _)) := (← ReflectliteValue.parts v, ← ReflectliteValue.parts x)
      | unsupported (.noEntry "extern/(internal/reflectlite.Value).Set.zeroValue")
    if fl / ReflectliteValue.flagAddr % 2 == 0 then unsupported (.noEntry "extern/(internal/reflectlite.Value).Set.unaddressable")
    let val ← loadVar src b
    if ← Rtype.directlyAssignable dst src then storeVar dst a val
    else if ← Rtype.implements dst src then
      if (← Rtype.kind src) == 20 then
        match val with
        | .nilIface => unsupported (.noEntry "extern/reflectlite: a nil value of one interface type handed on as a value of another")
        | _ => storeVar dst a val
      else storeVar dst a (.iface src val)
    else panicString ("reflectlite.Set: value of type " ++ (← Rtype.spelt src) ++ " is not assignable to type " ++ (← Rtype.spelt dst))
    pure (.tuple #[])) := rfl
theorem am_Kind (h : Value) (w : World) : (Go.method (Tryd.prog.types.size + Made.depth) 178 (.agg #[h]) "Kind").run Tryd.prog w = .ok (154, h) w := by kernel_rfl
theorem am_Elem (h : Value) (w : World) : (Go.method (Tryd.prog.types.size + Made.depth) 178 (.agg #[h]) "Elem").run Tryd.prog w = .ok (186, .agg #[h]) w := by kernel_rfl
theorem am_Implements (h : Value) (w : World) : (Go.method (Tryd.prog.types.size + Made.depth) 178 (.agg #[h]) "Implements").run Tryd.prog w = .ok (187, .agg #[h]) w := by kernel_rfl
theorem am_AssignableTo (h : Value) (w : World) : (Go.method (Tryd.prog.types.size + Made.depth) 178 (.agg #[h]) "AssignableTo").run Tryd.prog w = .ok (184, .agg #[h]) w := by kernel_rfl
/-! The closed facts at M. -/
theorem aM_valueOfP (t : Addr) (w : World) : (ReflectliteValue.unpack (.iface 126 (.pointer (some t)))).run Tryd.prog w = .ok (.agg #[.pointer (some ⟨4, 126, none⟩), .pointer (some ⟨w.heap.size, 0, none⟩), .int .u64 150]) (w.alloc (.cells #[.pointer (some t)] 126)) := by kernel_rfl
theorem aM_type (a : Addr) (w : World) : (ReflectliteValue.methodAny (ReflectliteValue.valueError "reflectlite.Value.Type" 0) (fun t _ _ _ => ReflectliteType.toType t) #[.agg #[.pointer (some ⟨4, 126, none⟩), .pointer (some a), .int .u64 150]]).run Tryd.prog w = .ok (.iface 178 (.agg #[.pointer (some ⟨4, 126, none⟩)])) w := by kernel_rfl
theorem aM_kindP (w : World) : ((ReflectliteType.abiMethod fun t => (fun a : Nat => Value.int IntKind.u8 (a : Int)) <$> Rtype.kind t) #[.pointer (some ⟨4, 126, none⟩)]).run Tryd.prog w = .ok (.int .u8 22) w := by kernel_rfl
theorem aM_kind (w : World) : ((ReflectliteType.abiMethod fun t => (fun a : Nat => Value.int IntKind.u8 (a : Int)) <$> Rtype.kind t) #[.pointer (some ⟨4, 123, none⟩)]).run Tryd.prog w = .ok (.int .u8 25) w := by kernel_rfl
theorem aM_partsP (a : Addr) (w : World) : (ReflectliteValue.parts (.agg #[.pointer (some ⟨4, 126, none⟩), .pointer (some a), .int .u64 150])).run Tryd.prog w = .ok (some (126, a, 150)) w := by kernel_rfl
theorem aM_isNil (a q : Addr) (W : World) (ha : W.cell? a = some (.pointer (some q))) :
    (ReflectliteValue.method (ReflectliteValue.valueError "reflectlite.Value.IsNil" 0) ReflectliteValue.isNil #[.agg #[.pointer (some ⟨4, 126, none⟩), .pointer (some a), .int .u64 150]]).run Tryd.prog W = .ok (.bool false) W := by
  rw [rlm]
  simp only [Sem.run_bind, aM_partsP, Result.andThen]
  simp [ReflectliteValue.isNil, loadVar, isAgg, underlying, Tryd.underlying126, ha, Result.andThen]
theorem aM_elem (w : World) : (ReflectliteType.method ReflectliteType.elem #[.agg #[.pointer (some ⟨4, 126, none⟩)]]).run Tryd.prog w = .ok (.iface 178 (.agg #[.pointer (some ⟨4, 123, none⟩)])) w := by kernel_rfl
theorem aM_implements (w : World) : (ReflectliteType.relation "Implements" ReflectliteType.implements_ #[.agg #[.pointer (some ⟨4, 123, none⟩)], .iface 178 (.agg #[.pointer (some ⟨4, 77, none⟩)])]).run Tryd.prog w = .ok (.bool true) w := by kernel_rfl
theorem aM_typeOf (v : Value) (w : World) : (ReflectliteType.typeOf #[.iface 123 v]).run Tryd.prog w = .ok (.iface 178 (.agg #[.pointer (some ⟨4, 123, none⟩)])) w := by kernel_rfl
theorem aM_assignable (w : World) : (ReflectliteType.relation "AssignableTo" ReflectliteType.assignableTo #[.agg #[.pointer (some ⟨4, 123, none⟩)], .iface 178 (.agg #[.pointer (some ⟨4, 123, none⟩)])]).run Tryd.prog w = .ok (.bool true) w := by kernel_rfl
theorem aM_valueOf (k : Int) (s : ByteArray) (h a b : Int) (w : World) : (ReflectliteValue.unpack (.iface 123 (.agg #[.int .i8 k, .string s, .int .i16 h, .int .u64 a, .int .u64 b]))).run Tryd.prog w = .ok (.agg #[.pointer (some ⟨4, 123, none⟩), .pointer (some ⟨w.heap.size, 0, none⟩), .int .u64 153]) (w.alloc (.cells #[.int .i8 k, .string s, .int .i16 h, .int .u64 a, .int .u64 b] 123)) := by kernel_rfl
theorem aM_elemOf (w : World) : (Rtype.elem? 126).run Tryd.prog w = .ok (some 123) w := by kernel_rfl
theorem aM_mk (q : Addr) (w : World) : (ReflectliteValue.mk 123 q ReflectliteValue.flagAddr).run Tryd.prog w = .ok (.agg #[.pointer (some ⟨4, 123, none⟩), .pointer (some q), .int .u64 409]) w := by kernel_rfl
theorem aM_elemV (a q : Addr) (W : World) (ha : W.cell? a = some (.pointer (some q))) :
    (ReflectliteValue.method (ReflectliteValue.valueError "reflectlite.Value.Elem" 0) ReflectliteValue.elem #[.agg #[.pointer (some ⟨4, 126, none⟩), .pointer (some a), .int .u64 150]]).run Tryd.prog W
      = .ok (.agg #[.pointer (some ⟨4, 123, none⟩), .pointer (some q), .int .u64 409]) W := by
  rw [rlm]
  simp only [Sem.run_bind, aM_partsP, Result.andThen]
  simp [ReflectliteValue.elem, loadVar, isAgg, underlying, Tryd.underlying126, ha, Result.andThen, aM_elemOf, aM_mk]
theorem aM_partsA (a : Addr) (w : World) : (ReflectliteValue.parts (.agg #[.pointer (some ⟨4, 123, none⟩), .pointer (some a), .int .u64 409])).run Tryd.prog w = .ok (some (123, a, 409)) w := by kernel_rfl
theorem aM_parts (a : Addr) (w : World) : (ReflectliteValue.parts (.agg #[.pointer (some ⟨4, 123, none⟩), .pointer (some a), .int .u64 153])).run Tryd.prog w = .ok (some (123, a, 153)) w := by kernel_rfl
theorem aM_direct (w : World) : (Rtype.directlyAssignable 123 123).run Tryd.prog w = .ok true w := by kernel_rfl
theorem aM_size (w : World) : (sizeOf 123).run Tryd.prog w = .ok 5 w := by kernel_rfl
/-! The closed facts at O. -/
theorem aO_valueOfP (t : Addr) (w : World) : (ReflectliteValue.unpack (.iface 127 (.pointer (some t)))).run Tryd.prog w = .ok (.agg #[.pointer (some ⟨4, 127, none⟩), .pointer (some ⟨w.heap.size, 0, none⟩), .int .u64 150]) (w.alloc (.cells #[.pointer (some t)] 127)) := by kernel_rfl
theorem aO_type (a : Addr) (w : World) : (ReflectliteValue.methodAny (ReflectliteValue.valueError "reflectlite.Value.Type" 0) (fun t _ _ _ => ReflectliteType.toType t) #[.agg #[.pointer (some ⟨4, 127, none⟩), .pointer (some a), .int .u64 150]]).run Tryd.prog w = .ok (.iface 178 (.agg #[.pointer (some ⟨4, 127, none⟩)])) w := by kernel_rfl
theorem aO_kindP (w : World) : ((ReflectliteType.abiMethod fun t => (fun a : Nat => Value.int IntKind.u8 (a : Int)) <$> Rtype.kind t) #[.pointer (some ⟨4, 127, none⟩)]).run Tryd.prog w = .ok (.int .u8 22) w := by kernel_rfl
theorem aO_kind (w : World) : ((ReflectliteType.abiMethod fun t => (fun a : Nat => Value.int IntKind.u8 (a : Int)) <$> Rtype.kind t) #[.pointer (some ⟨4, 118, none⟩)]).run Tryd.prog w = .ok (.int .u8 2) w := by kernel_rfl
theorem aO_partsP (a : Addr) (w : World) : (ReflectliteValue.parts (.agg #[.pointer (some ⟨4, 127, none⟩), .pointer (some a), .int .u64 150])).run Tryd.prog w = .ok (some (127, a, 150)) w := by kernel_rfl
theorem aO_isNil (a q : Addr) (W : World) (ha : W.cell? a = some (.pointer (some q))) :
    (ReflectliteValue.method (ReflectliteValue.valueError "reflectlite.Value.IsNil" 0) ReflectliteValue.isNil #[.agg #[.pointer (some ⟨4, 127, none⟩), .pointer (some a), .int .u64 150]]).run Tryd.prog W = .ok (.bool false) W := by
  rw [rlm]
  simp only [Sem.run_bind, aO_partsP, Result.andThen]
  simp [ReflectliteValue.isNil, loadVar, isAgg, underlying, Tryd.underlying127, ha, Result.andThen]
theorem aO_elem (w : World) : (ReflectliteType.method ReflectliteType.elem #[.agg #[.pointer (some ⟨4, 127, none⟩)]]).run Tryd.prog w = .ok (.iface 178 (.agg #[.pointer (some ⟨4, 118, none⟩)])) w := by kernel_rfl
theorem aO_implements (w : World) : (ReflectliteType.relation "Implements" ReflectliteType.implements_ #[.agg #[.pointer (some ⟨4, 118, none⟩)], .iface 178 (.agg #[.pointer (some ⟨4, 77, none⟩)])]).run Tryd.prog w = .ok (.bool true) w := by kernel_rfl
theorem aO_typeOf (v : Value) (w : World) : (ReflectliteType.typeOf #[.iface 118 v]).run Tryd.prog w = .ok (.iface 178 (.agg #[.pointer (some ⟨4, 118, none⟩)])) w := by kernel_rfl
theorem aO_assignable (w : World) : (ReflectliteType.relation "AssignableTo" ReflectliteType.assignableTo #[.agg #[.pointer (some ⟨4, 118, none⟩)], .iface 178 (.agg #[.pointer (some ⟨4, 118, none⟩)])]).run Tryd.prog w = .ok (.bool true) w := by kernel_rfl
theorem aO_valueOf (k : Int) (w : World) : (ReflectliteValue.unpack (.iface 118 (.int .i64 k))).run Tryd.prog w = .ok (.agg #[.pointer (some ⟨4, 118, none⟩), .pointer (some ⟨w.heap.size, 0, none⟩), .int .u64 130]) (w.alloc (.cells #[.int .i64 k] 118)) := by kernel_rfl
theorem aO_elemOf (w : World) : (Rtype.elem? 127).run Tryd.prog w = .ok (some 118) w := by kernel_rfl
theorem aO_mk (q : Addr) (w : World) : (ReflectliteValue.mk 118 q ReflectliteValue.flagAddr).run Tryd.prog w = .ok (.agg #[.pointer (some ⟨4, 118, none⟩), .pointer (some q), .int .u64 386]) w := by kernel_rfl
theorem aO_elemV (a q : Addr) (W : World) (ha : W.cell? a = some (.pointer (some q))) :
    (ReflectliteValue.method (ReflectliteValue.valueError "reflectlite.Value.Elem" 0) ReflectliteValue.elem #[.agg #[.pointer (some ⟨4, 127, none⟩), .pointer (some a), .int .u64 150]]).run Tryd.prog W
      = .ok (.agg #[.pointer (some ⟨4, 118, none⟩), .pointer (some q), .int .u64 386]) W := by
  rw [rlm]
  simp only [Sem.run_bind, aO_partsP, Result.andThen]
  simp [ReflectliteValue.elem, loadVar, isAgg, underlying, Tryd.underlying127, ha, Result.andThen, aO_elemOf, aO_mk]
theorem aO_partsA (a : Addr) (w : World) : (ReflectliteValue.parts (.agg #[.pointer (some ⟨4, 118, none⟩), .pointer (some a), .int .u64 386])).run Tryd.prog w = .ok (some (118, a, 386)) w := by kernel_rfl
theorem aO_parts (a : Addr) (w : World) : (ReflectliteValue.parts (.agg #[.pointer (some ⟨4, 118, none⟩), .pointer (some a), .int .u64 130])).run Tryd.prog w = .ok (some (118, a, 130)) w := by kernel_rfl
theorem aO_direct (w : World) : (Rtype.directlyAssignable 118 118).run Tryd.prog w = .ok true w := by kernel_rfl
theorem aO_size (w : World) : (sizeOf 118).run Tryd.prog w = .ok 1 w := by kernel_rfl
theorem aO_set (k : Int) (tb b : Nat) (old : Value) (W : World) (hb : W.cell? ⟨b, 0, none⟩ = some (.int .i64 k)) (ht : W.cell? ⟨tb, 0, none⟩ = some old) (hf : W.frozen? ⟨tb, 0, none⟩ = false) :
    (ReflectliteValue.set #[.agg #[.pointer (some ⟨4, 118, none⟩), .pointer (some ⟨tb, 0, none⟩), .int .u64 386], .agg #[.pointer (some ⟨4, 118, none⟩), .pointer (some ⟨b, 0, none⟩), .int .u64 130]]).run Tryd.prog W = .ok (.tuple #[]) (W.setCell ⟨tb, 0, none⟩ (.int .i64 k)) := by
  rw [rls]
  simp only [Sem.run_bind, aO_partsA, aO_parts, Result.andThen]
  simp [ReflectliteValue.flagAddr, loadVar, isAgg, underlying, Tryd.underlying118, hb, Result.andThen, aO_direct, storeVar, Value.cells, storeCells, Addr.add]
  rw [run_store Tryd.prog W ⟨tb, 0, none⟩ _ _ (by rfl)]
  simp [ht, hf]
theorem aOM_assignable (w : World) : (ReflectliteType.relation "AssignableTo" ReflectliteType.assignableTo #[.agg #[.pointer (some ⟨4, 118, none⟩)], .iface 178 (.agg #[.pointer (some ⟨4, 123, none⟩)])]).run Tryd.prog w = .ok (.bool false) w := by kernel_rfl
theorem aO_noAs (v : Value) (xT : TypeId) (w : World) : (Instr.typeAssert (.iface 118 v) xT 183 true).run Tryd.prog w = .ok (.tuple #[.nilIface, .bool false]) w := run_typeAssert_lacksB Tryd.underlying183 (by kernel_rfl) (by kernel_rfl) v xT w
theorem aO_noUn (v : Value) (xT : TypeId) (w : World) : (Instr.typeAssert (.iface 118 v) xT 186 true).run Tryd.prog w = .ok (.tuple #[.nilIface, .bool false]) w := run_typeAssert_lacksB Tryd.underlying186 (by kernel_rfl) (by kernel_rfl) v xT w
theorem aO_noUns (v : Value) (xT : TypeId) (w : World) : (Instr.typeAssert (.iface 118 v) xT 188 true).run Tryd.prog w = .ok (.tuple #[.nilIface, .bool false]) w := run_typeAssert_lacksB Tryd.underlying188 (by kernel_rfl) (by kernel_rfl) v xT w
end Go.Proofs.YtpgonfeobfefaaaDoor
