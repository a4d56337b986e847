/- Arguments opened: an edit, a slice of edits. -/
import Derived.Test.YtllhglakihfjmaaDoorEds
import Derived.Test.YtllhglakihfjmaaDoorOpen
namespace Go.Proofs.YtllhglakihfjmaaDoor
open Go.ChangeShapes Go.WideShapes Go.ChangeAt Go.RowKit

theorem open_edit {P : Program} {w : World} {r : Reach} {base : Nat} {t : TypeId} {v : Value} {f0 f1 f2 f3 : Field} {k s e u : TypeId} (hu : P.underlying t = some (.struct #[f0, f1, f2, f3])) (hk : P.underlying k = some (.int .i8)) (hs : P.underlying s = some .string) (he : P.underlying e = some (.int .i16)) (h64 : P.underlying u = some (.int .u64)) (hts : P.cellTypes P.depth t = some [k, s, e, u, u]) (hc : P.cellsOf t = 5)
    (h : Value.okWide P w r base t v) : ∃ x : Ed, v = .agg #[.int .i8 x.k, .string x.s, .int .i16 x.h, .int .u64 x.a, .int .u64 x.b] ∧ x.fits := by
  obtain ⟨cs, rfl, hsz, hcell⟩ := open_cells ⟨_, hu, .inl ⟨_, rfl⟩⟩ hts hc h
  obtain ⟨cs⟩ := cs
  match cs, hsz with
  | [x0, x1, x2, x3, x4], _ =>
    obtain ⟨n0, rfl, a1, a2⟩ := cell_int hk (hcell 0 x0 k rfl rfl)
    obtain ⟨n1, rfl, h1⟩ := cell_string hs (hcell 1 x1 s rfl rfl)
    obtain ⟨n2, rfl, b1, b2⟩ := cell_int he (hcell 2 x2 e rfl rfl)
    obtain ⟨n3, rfl, c1⟩ := cell_u64 h64 (hcell 3 x3 u rfl rfl)
    obtain ⟨n4, rfl, d1⟩ := cell_u64 h64 (hcell 4 x4 u rfl rfl)
    simp [IntKind.min, IntKind.max, IntKind.signed, IntKind.bits] at a1 a2 b1 b2
    have u3 : U64 (n3 : Int) := ⟨by omega, by omega⟩
    have u4 : U64 (n4 : Int) := ⟨by omega, by omega⟩
    exact ⟨⟨n0, n1, n2, n3, n4⟩, rfl, ⟨by omega, by omega⟩, h1, ⟨by omega, by omega⟩, u3, u4⟩

theorem open_editsT {H : Type} {enc : TypeId × Value → H} {P : Program} {W : World} {t e u : TypeId} {f0 f1 f2 f3 : Field} {v : Value} {d : DataW H} {p : List MemPlace} {r : Reach} {b : Nat} (ht : P.underlying t = some (.slice e)) (he : P.underlying e = some (.struct #[f0, f1, f2, f3])) (t0 : P.underlying f0.type = some (.int .i8)) (t1 : P.underlying f1.type = some .string) (t2 : P.underlying f2.type = some (.int .i16)) (t3 : P.underlying f3.type = some (.array 2 u)) (tu : P.underlying u = some (.int .u64))
    (ce : P.cellsOf e = 5) (c0 : P.cellsOf f0.type = 1) (c1 : P.cellsOf f1.type = 1) (c2 : P.cellsOf f2.type = 1) (c3 : P.cellsOf f3.type = 2) (cu : P.cellsOf u = 1) (o0 : f0.offset = 0) (o1 : f1.offset = 1) (o2 : f2.offset = 2) (o3 : f3.offset = 3)
    (hv : Value.okWide P W r b t v) (h : DataW.Trod enc P W 0 (fun _ => true) true t v d p) : ∃ a xs cap, v = .slice a xs.length cap ∧ EditsIn W a xs ∧ xs.length ≤ maxLen := by
  obtain ⟨a0, len, cap, rfl⟩ := okWide_slice ht hv
  obtain ⟨fuel, hf⟩ := h
  exact open_edits ht he t0 t1 t2 t3 tu ce c0 c1 c2 c3 cu o0 o1 o2 o3 hf
end Go.Proofs.YtllhglakihfjmaaDoor
