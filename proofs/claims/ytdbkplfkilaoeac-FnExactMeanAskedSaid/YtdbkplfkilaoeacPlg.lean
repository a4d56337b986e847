/- The tree of places: it grows by those behind each place. -/
import Derived.Test.YtdbkplfkilaoeacPlc
import Derived.Laws.OwnMore
namespace Go.Proofs.Ytdbkplfkilaoeac
open Go.ChangeShapes Go.WideShapes Go.ChangeAt Go.RowKit

theorem append_type {P : Program} {w : World} {t u ty e e' : TypeId} (ht : P.underlying t = some (.slice e)) (hu : P.underlying u = some (.slice e')) (a : Option Addr) (n c : Nat) (y : Value) :
    (Builtin.append_ #[t, u] ty #[.slice a n c, y]).run P w = (Builtin.append_ #[t, t] ty #[.slice a n c, y]).run P w := by
  simp only [Builtin.append_, List.getElem?_toArray, List.getElem?_cons_zero, List.getElem?_cons_succ, Sem.run_bind, run_underlying ht, run_underlying hu, Result.andThen_ok, Sem.run_pure]
theorem grownBy_same (w : World) (r : Option Nat) : w.grownBy w r := by
  exact ⟨rfl, rfl, rfl, Nat.le_refl _, fun _ _ _ => rfl⟩
theorem wpList_append_rows {P : Program} {w : World} {ops : Array Oper} {rest : List Oper} {o : Oper} {a : Act} {Q : Exit → Act → World → Prop} (hgd : o.guard = none) (s x : Operand) (t u : TypeId)
    (ho : o.op = .call { callee := .builtin .append, args := #[s, x], argTypes := #[t, u] })
    (base base2 : Nat) (e e' : TypeId) (i : TypeInfo) (z : Value) (size bytes : Nat) (ht : P.underlying t = some (.slice e)) (hu : P.underlying u = some (.slice e')) (hi : P.info? e = some i) (hz : i.zero = some z)
    (hsize : i.size = size) (hby : i.bytes = bytes) (hzs : z.cells.size = size) (hsz : 0 < size)
    (v v2 : Value) (n m : Nat) (xs news : List Value) (hs : a.eval s = v) (hown : w.ownsRow base e size v n xs) (hx : a.eval x = v2) (hown2 : w.ownsRow base2 e size v2 m news) (h1 : ∀ u ∈ news, u.oneCell' = true)
    (h63 : n + m ≤ maxLen) (hbytes : (n + m) * bytes ≤ 140737488355328) (hbase : base ≤ w.heap.size)
    (h : ∀ v' w', w'.ownsRow base e size v' (n + m) (xs ++ news) → w.grownBy w' v.ownBlock → wpList P ops Q rest (a.put o.dst v') w') : wpList P ops Q (o :: rest) a w := by
  refine wpList_plain hgd fun K hK => ?_
  have key : ∃ v' w', (Builtin.append_ #[t, u] o.type #[v, v2]).run P w = .ok v' w' ∧ w'.ownsRow base e size v' (n + m) (xs ++ news) ∧ w.grownBy w' v.ownBlock := by
    obtain ⟨va, vc, hv⟩ : ∃ va vc, v = .slice va n vc := by
      rcases hown.2 with ⟨rfl, rfl⟩ | ⟨g, cap, cur, rfl, _⟩
      · exact ⟨_, _, rfl⟩
      · exact ⟨_, _, rfl⟩
    rw [hv, append_type ht hu, ← hv]
    rcases hown2.2 with ⟨rfl, rfl⟩ | ⟨g, cap, cur, rfl, h2⟩
    · refine ⟨v, w, run_append_owned_none (P := P) w base t o.type e i size ht hi v n xs hown, ?_, grownBy_same _ _⟩
      have l := hown2.1
      rw [Nat.zero_mul] at l
      rw [List.length_eq_zero_iff.1 l, List.append_nil]
      exact hown
    · obtain ⟨v', w', hr, h2, h3, _⟩ := run_append_own (P := P) w base t o.type e i z size bytes ht hi hz hsize hby hzs hsz v n xs hown ⟨g, 0, none⟩ m cap news hown2.1 (World.ownsRow.cells hown2 rfl) h1 h63 hbytes hbase
      exact ⟨v', w', hr, h2, h3⟩
  obtain ⟨v', w', hr, h2, h3⟩ := key
  unfold Oper.wp execOp
  simp only [ho, resolve, invoke, builtin, Sem.run_bind, Sem.run_pure, Result.andThen_ok, List.map_toArray, List.map_cons, List.map_nil, hs, hx, hr]
  exact hK _ _ (h v' w' h2 h3)

theorem ownP_slice {w0 w : World} {B : Nat} {ks : List Kn} {L : List Nat} {v : Value} (h : OwnP w0 B ks L v w) : ∃ a cap, v = .slice a L.length cap ∧ ∀ p i, L[p]? = some i → ∃ g u, a = some ⟨g, 0, none⟩ ∧ B ≤ g ∧ g < w.heap.size ∧ PlCells w0 (knAt ks i) (dep ks i) u ∧ ∀ r, r < 5 → w.cell? ⟨g, p * 5 + r, none⟩ = u[r]? := by
  obtain ⟨xs, h1, h2⟩ := h
  rcases h1.2 with ⟨rfl, e⟩ | ⟨g, cap, cur, rfl, hg, hb, _⟩
  · rw [List.length_eq_zero_iff] at e; subst e; exact ⟨none, 0, rfl, fun p i hp => by simp at hp⟩
  · refine ⟨_, cap, rfl, fun p i hp => ?_⟩
    obtain ⟨u, hu, hr⟩ := rowP_get h2 hp
    refine ⟨g, u, rfl, hg, lt_of_block hb, hu, fun r hr5 => ?_⟩
    have l := plCells_len hu
    have e := hr r hr5
    have hur : u[r]? = some (u[r]'(by omega)) := List.getElem?_eq_getElem _
    rw [hur] at e ⊢
    have := World.ownsRow.cells h1 (g := g) rfl _ _ e
    have ea : (⟨g, 0, none⟩ : Addr).add (p * 5 + r) = ⟨g, p * 5 + r, none⟩ := by unfold Addr.add; split <;> simp_all
    rw [ea] at this; exact this
theorem ownP_grow {w0 w' : World} {B : Nat} {ks : List Kn} {L M : List Nat} {xs ys : List Value} {v : Value} (h : RowP w0 ks L xs) (k : RowP w0 ks M ys) (ho : w'.ownsRow B 63 5 v (L.length + M.length) (xs ++ ys)) : OwnP w0 B ks (L ++ M) v w' :=
  ⟨_, by rw [List.length_append]; exact ho, rowP_app h k⟩
theorem bf_first (ks : List Kn) (m : Nat) : (bf ks m).length ≤ (bf ks (m + 1)).length := by simp only [bf]; rw [List.length_append]; omega

set_option maxRecDepth 100000 in
set_option maxHeartbeats 3200000 in
theorem iGrow_any (w0 w : World) (ks : List Kn) (T : TreeOk ks) (SM : KsSmall ks) (ad : Option Addr) (c tb B : Nat) (v0 : Value) (hw : w0.heap.size ≤ B) (hB : Below w0.heap.size w0 w) (hc : KnotsIn w0 ad ks) (ht : w.cell? ⟨tb, 0, none⟩ = some (.slice ad ks.length c)) (htb : tb < B) (hBw : B ≤ w.heap.size)
    (hO : OwnP w0 B ks [0] v0 w) :
    Calls Try.prog 52 #[v0, .func (.func 53) #[] #[.pointer (some ⟨tb, 0, none⟩)]] w fun e w' => ∃ v m, e = .returned v ∧ OwnP w0 B ks (bf ks m) v w' ∧ (∀ p, p < m → p < (bf ks p).length) ∧ (bf ks m).length = m ∧ Below B w w' := by
  obtain ⟨i0, hi0, hz0, hz1, hz2⟩ := info_parts info_place
  have nl := T.2.1
  have C := Lib.hid hc
  have BB := Lib.hid hB
  have O0 := Lib.hid hO
  have LEN := Lib.hid fun m (h : ∀ p, p < m → p < (bf ks p).length) => bf_len T h
  have IN := Lib.hid fun m (h : ∀ p, p < m → p < (bf ks p).length) => (bf_ok T m h).1
  have KK := Lib.hid fun i (hi : i < ks.length) W h1 h2 f va na ca vl vc nc cl cc hN m => iKids_any w0 W ks T SM i hi ad c tb h1 hc h2 f va na ca vl vc nc cl cc hN m
  have ST := Lib.hid fun m i h => bf_step (ks := ks) (m := m) (i := i) h
  clear hB hc SM T hO
  go_enter Try.func52, Try.ntmps52
  go_wp2
  go_loopw [0, 5] (fun t at_ wr => ∃ (m : Nat), at_ = .int .i64 m ∧ OwnP w0 B ks (bf ks m) t wr ∧ (∀ p, p < m → p < (bf ks p).length) ∧ m ≤ (bf ks m).length ∧ Below B w wr) (fun _ ix _ => 120 - (intOf ix).toNat)
  case atStart => exact ⟨0, rfl, O0.out, fun p hp => absurd hp (Nat.not_lt_zero _), Nat.zero_le _, Below.refl _ _⟩
  case round =>
    obtain ⟨m, rfl, hO, hS, hml, hA⟩ := hrel
    have L := LEN.out m hS
    obtain ⟨a0, c0, hv, hg⟩ := ownP_slice hO
    subst hv
    have OO := Lib.hid hO
    have AA := Lib.hid hA
    have SS := Lib.hid hS
    by_cases hlt : m < (bf ks m).length
    · have hd : decide ((m : Int) < ((bf ks m).length : Int)) = true := by simpa using hlt
      have hi := List.getElem?_eq_getElem hlt
      obtain ⟨g, u, rfl, hg1, hg2, hu, hr⟩ := hg m _ hi
      have hin := IN.out m hS _ (List.getElem_mem hlt)
      have E := Lib.hid (ST.out m _ hi)
      generalize (bf ks m)[m] = i at *
      obtain ⟨va, vc, na, nc, ca, cc, rfl, p1, p2, p3⟩ := hu
      have d0 := hr 0 (by omega)
      have d1 := hr 1 (by omega)
      have d2 := hr 2 (by omega)
      have d3 := hr 3 (by omega)
      have d4 := hr 4 (by omega)
      simp only [Nat.add_zero, List.getElem?_cons_zero, List.getElem?_cons_succ] at d0 d1 d2 d3 d4
      have BW := BB.out.trans (Below.mono hA hw)
      have tc := (hA.cell (p := ⟨tb, 0, none⟩) htb).trans ht
      have K0 := Lib.hid fun W (h : Below wr.heap.size wr W) => KK.out i hin W (BW.trans (Below.mono h BW.size)) ((h.cell (p := ⟨tb, 0, none⟩) (World.block_lt_of_cell? _ _ tc)).trans tc) (knAt ks i).f va na ca (knAt ks i).vs.length vc nc (knAt ks i).cs.length cc p2 ((bf ks m).length : Int)
      have S1 := Lib.hid (show ∀ p, p < m + 1 → p < (bf ks p).length from fun p hp => by
        by_cases e : p < m
        · exact hS p e
        · rw [show p = m by omega]; exact hlt)
      have L1 := LEN.out (m + 1) S1.out
      rw [E.out, List.length_append] at L1
      have M1 := Nat.le_trans (show m + 1 ≤ (bf ks m).length from hlt) (bf_first ks m)
      obtain ⟨xs, o1, r1⟩ := OO.out
      have R1 := Lib.hid o1
      have R2 := Lib.hid r1
      have hbw := hA.size
      clear hr p1 p2 p3 hO hA hS hi hg BW o1 r1
      go_wp2_with (first
        | (go_at_call 53; refine (K0.out _ (Below.refl _ _)).mono ?_; rintro e w1 ⟨v1, rfl, hK, hB1⟩; obtain ⟨ys, k1, k2⟩ := hK; have Y1 := Lib.hid k1; have Y2 := Lib.hid k2; have b1 := Lib.hid hB1; have O1 := Lib.hid (ownsRow_belowP R1.out hB1); have s1 := hB1.size; clear k1 k2 hB1)
        | (at_builtin; refine wpList_append_rows rfl _ _ 60 59 rfl B wr.heap.size 63 63 i0 (.agg #[.int .i16 0, .slice none 0 0, .slice none 0 0, .slice none 0 0, .int .i64 0]) 5 88 Try.underlying60 Try.underlying59 hi0 hz0 hz1 hz2 rfl (by decide) _ v1 _ _ xs ys rfl O1.out rfl Y1.out (rowP_one Y2.out) (by unfold maxLen; omega) (by omega) (by omega) ?_; intro v' w2 hown hgrow; have P := Lib.hid hown; have G := Lib.hid hgrow; clear hown hgrow))
      have hb3 := Below.grown (Below.refl B _) G.out (by omega) (fun j hj => (World.ownsRow.lt O1.out j hj).1)
      have PP : OwnP w0 B ks (bf ks (m + 1)) v' w2 := by rw [E.out]; exact ownP_grow R2.out Y2.out P.out
      exact ⟨⟨m + 1, by rw [Int.natCast_succ], PP, S1.out, M1, (AA.out.trans (Below.mono b1.out (by omega))).trans hb3⟩, by simp [intOf]; omega⟩
    · have e : (bf ks m).length = m := by omega
      have hd : decide ((m : Int) < ((bf ks m).length : Int)) = false := by simp; omega
      clear hO hA hS hg
      go_wp2
      go_ret
      exact ⟨_, m, rfl, OO.out, SS.out, e, AA.out⟩
end Go.Proofs.Ytdbkplfkilaoeac
