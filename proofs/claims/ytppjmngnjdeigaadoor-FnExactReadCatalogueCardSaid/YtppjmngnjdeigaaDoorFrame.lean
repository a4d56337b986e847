/- What every law of this seat owes besides its walk: the arguments opened, the same arguments read again behind the call. -/
import Derived.Test.YtppjmngnjdeigaaDoorRows
import Derived.WalkKit
import Derived.ProofKit
import Derived.OpenShut
import Derived.Handy
import Derived.Deep.QuietTactic
import Derived.BigQuiet
import Derived.WalkLawsBesides
import Derived.WalkSpells
import Derived.SizedLaws
import Derived.Lib.SmallJoins
namespace Go.Proofs.YtppjmngnjdeigaaDoor
open Go.ChangeShapes Go.WideShapes Go.ChangeAt Go.RowKit

theorem own : ownKnob Tryd.prog.godebug = none := by kernel_rfl
theorem laidOut : laidOutB Tryd.prog = true := by kernel_rfl

/-- The ranges of numbers, kept behind names. -/
def U64 (a : Int) : Prop := 0 ≤ a ∧ a < 18446744073709551616
def I64 (a : Int) : Prop := -9223372036854775808 ≤ a ∧ a ≤ 9223372036854775807
def I8 (a : Int) : Prop := -128 ≤ a ∧ a ≤ 127
def I16 (a : Int) : Prop := -32768 ≤ a ∧ a ≤ 32767

section
variable {H : Type} {enc : TypeId × Value → H} {P : Program}

theorem below_trodAll (hl : laidOutB P = true) {W W' : World} (hb : Below W.heap.size W W') :
    ∀ (ts : List TypeId) (vs : List Value) (ds : List (DataW H)) (ps : List MemPlace),
    (∀ t ∈ ts, P.readableRec t = true ∧ t < P.types.size) →
    DataW.TrodAll enc P W 0 (fun _ => true) true ts vs ds ps → (∀ x ∈ ps, x.block < W.heap.size) →
    DataW.TrodAll enc P W' 0 (fun b => decide (b < W.heap.size)) true ts vs ds ps := by
  intro ts
  induction ts with
  | nil =>
    intro vs ds ps _ h _
    cases vs <;> cases ds <;> simp_all [DataW.TrodAll]
  | cons t ts ih =>
    intro vs ds ps hr h hlt
    cases vs with
    | nil => cases ds <;> simp [DataW.TrodAll] at h
    | cons v vs =>
      cases ds with
      | nil => simp [DataW.TrodAll] at h
      | cons d ds =>
        obtain ⟨p, q, h1, h2, rfl⟩ := h
        refine ⟨p, q, ?_, ih vs ds q (fun u hu => hr u (List.mem_cons_of_mem _ hu)) h2 (fun x hx => hlt x (List.mem_append_right _ hx)), rfl⟩
        exact Below.trod hl (hr t List.mem_cons_self).1 (hr t List.mem_cons_self).2 h1 hb (fun x hx => hlt x (List.mem_append_left _ hx))

/-- The law's end: it has returned true, nothing below has turned. -/
theorem law_post (hl : laidOutB P = true) {f : Func} {s : ChangeSpec} {bt : TypeId} (hres : f.resultTypes = #[bt]) (hbt : P.underlying bt = some .bool)
    (hread : ∀ t ∈ f.params.toList, P.readableRec t = true ∧ t < P.types.size) (hvars : s.vars = [])
    {W W' : World} {args : Array Value} {ds gs : List (DataW H)} {before : List MemPlace}
    (hW : DataW.Whole enc P f.params.toList s.vars false W args.toList ds gs before)
    (hs1 : (s.fn H (ds ++ [])).results = [.lit (.bool true)]) (hs2 : (s.fn H (ds ++ [])).args = ds) (hs3 : (s.fn H (ds ++ [])).vars = [])
    (hb : Below W.heap.size W W') :
    s.post enc P f false true false false W args (.bool true) W' := by
  have hW' := hW
  obtain ⟨p, q, hA, hV, rfl, hfz, hnd⟩ := hW
  rw [hvars] at hV
  obtain ⟨rfl, rfl⟩ := trodVars_none hV
  have hlt : ∀ x ∈ p, x.block < W.heap.size := fun x hx => by simpa using hW'.lt x (by simpa using hx)
  refine ⟨ds, [], _, [], p, [], hW', ?_, ?_, ?_, hb.frame _, fun h => by cases h⟩
  · rw [hres, hs1]
    exact trodAll_mk1 (shut_bool hbt _)
  · rw [hs2]
    exact below_trodAll hl hb _ _ _ _ hread hA hlt
  · rw [hvars, hs3]
    rfl

/-- A value of a struct or an array: its cells written out, each well formed. -/
theorem open_cells {w : World} {r : Reach} {base : Nat} {t : TypeId} {v : Value} {ts : List TypeId} (hag : ∃ u, P.underlying t = some u ∧ ((∃ fs, u = .struct fs) ∨ (∃ n e, u = .array n e)))
    (hts : P.cellTypes P.depth t = some ts) (hc : P.cellsOf t = ts.length) (h : Value.okWide P w r base t v) :
    ∃ cs : Array Value, v = .agg cs ∧ cs.size = ts.length ∧ ∀ (i : Nat) (x : Value) (u : TypeId), cs[i]? = some x → ts[i]? = some u → Cell.okWide P w r base u x := by
  obtain ⟨u, hu, hag⟩ := hag
  have h' : ∃ cs, v = .agg cs ∧ cs.size = P.cellsOf t ∧ Row.okWide P w r base t cs := by
    unfold Value.okWide at h
    rcases hag with ⟨fs, rfl⟩ | ⟨n, e, rfl⟩ <;> (rw [hu] at h; exact h)
  obtain ⟨cs, rfl, hsz, ts', hts', _, hcell⟩ := h'
  rw [hts] at hts'
  obtain rfl := Option.some.inj hts'
  refine ⟨cs, rfl, hsz.trans hc, fun i x u hx hu => ?_⟩
  obtain ⟨u', hu', hk⟩ := hcell i x hx
  have hi : i < ts.length := by
    have := (List.getElem?_eq_some_iff.1 hu).1
    exact this
  rw [Nat.mod_eq_of_lt hi, hu] at hu'
  obtain rfl := Option.some.inj hu'
  exact hk

theorem cell_int {w : World} {r : Reach} {base : Nat} {t : TypeId} {v : Value} {k : IntKind} (ht : P.underlying t = some (.int k)) (h : Cell.okWide P w r base t v) :
    ∃ n : Int, v = .int k n ∧ k.min ≤ n ∧ n ≤ k.max := by
  unfold Cell.okWide at h
  rw [ht] at h
  cases v <;> simp [Cell.ok, ht] at h
  obtain ⟨rfl, h⟩ := h
  exact ⟨_, rfl, by simpa [IntKind.has] using h⟩

theorem cell_u64 {w : World} {r : Reach} {base : Nat} {t : TypeId} {v : Value} (ht : P.underlying t = some (.int .u64)) (h : Cell.okWide P w r base t v) :
    ∃ n : Nat, v = .int .u64 (n : Int) ∧ n < 18446744073709551616 := by
  obtain ⟨n, rfl, h1, h2⟩ := cell_int ht h
  simp [IntKind.min, IntKind.max, IntKind.signed, IntKind.bits] at h1 h2
  exact ⟨n.toNat, by rw [Int.toNat_of_nonneg h1], by omega⟩

theorem cell_string {w : World} {r : Reach} {base : Nat} {t : TypeId} {v : Value} (ht : P.underlying t = some .string) (h : Cell.okWide P w r base t v) :
    ∃ s : ByteArray, v = .string s ∧ s.size ≤ maxLen := by
  unfold Cell.okWide at h
  rw [ht] at h
  cases v <;> simp [Cell.ok, ht] at h
  exact ⟨_, rfl, by unfold maxLen; first | omega | (simp [IntKind.max, IntKind.signed, IntKind.bits] at h; omega)⟩

theorem of_all {ts : List TypeId} (h : (ts.all fun t => P.readableRec t && decide (t < P.types.size)) = true) : ∀ t ∈ ts, P.readableRec t = true ∧ t < P.types.size := by
  intro t ht
  have := List.all_eq_true.1 h t ht
  simpa using this

theorem below_next {a b c : World} (h : Below a.heap.size a b) (k : Below b.heap.size b c) : Below a.heap.size a c := h.trans (k.mono h.size)
theorem below_new {a b : World} (h : Below a.heap.size a b) (o : Obj) : Below a.heap.size a (b.alloc o) := h.alloc h.size o

section opens
variable {w : World} {r : Reach} {base : Nat} {t : TypeId} {v : Value}

theorem open_mask {e : TypeId} (hu : P.underlying t = some (.array 2 e)) (he : P.underlying e = some (.int .u64)) (hts : P.cellTypes P.depth t = some [e, e]) (hc : P.cellsOf t = 2)
    (h : Value.okWide P w r base t v) : ∃ a b : Int, v = .agg #[.int .u64 a, .int .u64 b] ∧ U64 a ∧ U64 b := by
  obtain ⟨cs, rfl, hsz, hcell⟩ := open_cells ⟨_, hu, .inr ⟨_, _, rfl⟩⟩ hts hc h
  obtain ⟨c0, c1, rfl⟩ := Go.Joins.array2 hsz
  obtain ⟨a, rfl, ha⟩ := cell_u64 he (hcell 0 c0 e rfl rfl)
  obtain ⟨b, rfl, hb⟩ := cell_u64 he (hcell 1 c1 e rfl rfl)
  exact ⟨a, b, rfl, ⟨by omega, by omega⟩, ⟨by omega, by omega⟩⟩

theorem open_i64 (hu : P.underlying t = some (.int .i64)) (h : Value.okWide P w r base t v) : ∃ n : Int, v = .int .i64 n ∧ I64 n := by
  unfold Value.okWide at h
  rw [hu] at h
  obtain ⟨n, rfl, h1, h2⟩ := cell_int hu h
  simp [IntKind.min, IntKind.max, IntKind.signed, IntKind.bits] at h1 h2
  exact ⟨n, rfl, ⟨by omega, by omega⟩⟩

theorem open_b (hu : P.underlying t = some .bool) (h : Value.okWide P w r base t v) : ∃ b : Bool, v = .bool b := by
  unfold Value.okWide at h
  rw [hu] at h
  unfold Cell.okWide at h
  simp only [hu] at h
  cases v <;> simp [Cell.ok, hu] at h
  exact ⟨_, rfl⟩

theorem open_str (hu : P.underlying t = some .string) (h : Value.okWide P w r base t v) : ∃ s : ByteArray, v = .string s ∧ s.size ≤ maxLen := by
  unfold Value.okWide at h
  rw [hu] at h
  exact cell_string hu h

theorem open_card {f0 f1 : Field} {s e : TypeId} (hu : P.underlying t = some (.struct #[f0, f1])) (hs : P.underlying s = some .string) (he : P.underlying e = some (.int .u64)) (hts : P.cellTypes P.depth t = some [s, e, e]) (hc : P.cellsOf t = 3)
    (h : Value.okWide P w r base t v) : ∃ (x : ByteArray) (a b : Int), v = .agg #[.string x, .int .u64 a, .int .u64 b] ∧ x.size ≤ maxLen ∧ U64 a ∧ U64 b := by
  obtain ⟨cs, rfl, hsz, hcell⟩ := open_cells ⟨_, hu, .inl ⟨_, rfl⟩⟩ hts hc h
  obtain ⟨c0, c1, c2, rfl⟩ := Go.Joins.array3 hsz
  obtain ⟨x, rfl, hx⟩ := cell_string hs (hcell 0 c0 s rfl rfl)
  obtain ⟨a, rfl, ha⟩ := cell_u64 he (hcell 1 c1 e rfl rfl)
  obtain ⟨b, rfl, hb⟩ := cell_u64 he (hcell 2 c2 e rfl rfl)
  exact ⟨x, a, b, rfl, hx, ⟨by omega, by omega⟩, ⟨by omega, by omega⟩⟩

theorem open_field {f0 f1 f2 f3 : Field} {s k e : TypeId} (hu : P.underlying t = some (.struct #[f0, f1, f2, f3])) (hs : P.underlying s = some .string) (hk : P.underlying k = some (.int .i8)) (he : P.underlying e = some (.int .i16)) (hts : P.cellTypes P.depth t = some [s, k, e, e]) (hc : P.cellsOf t = 4)
    (h : Value.okWide P w r base t v) : ∃ (x : ByteArray) (a b c : Int), v = .agg #[.string x, .int .i8 a, .int .i16 b, .int .i16 c] ∧ x.size ≤ maxLen ∧ I8 a ∧ I16 b ∧ I16 c := by
  obtain ⟨cs, rfl, hsz, hcell⟩ := open_cells ⟨_, hu, .inl ⟨_, rfl⟩⟩ hts hc h
  obtain ⟨c0, c1, c2, c3, rfl⟩ := Go.Joins.array4 hsz
  obtain ⟨x, rfl, hx⟩ := cell_string hs (hcell 0 c0 s rfl rfl)
  obtain ⟨a, rfl, a1, a2⟩ := cell_int hk (hcell 1 c1 k rfl rfl)
  obtain ⟨b, rfl, b1, b2⟩ := cell_int he (hcell 2 c2 e rfl rfl)
  obtain ⟨c, rfl, d1, d2⟩ := cell_int he (hcell 3 c3 e rfl rfl)
  simp [IntKind.min, IntKind.max, IntKind.signed, IntKind.bits] at a1 a2 b1 b2 d1 d2
  exact ⟨x, a, b, c, rfl, hx, ⟨by omega, by omega⟩, ⟨by omega, by omega⟩, ⟨by omega, by omega⟩⟩
end opens
end
end Go.Proofs.YtppjmngnjdeigaaDoor
