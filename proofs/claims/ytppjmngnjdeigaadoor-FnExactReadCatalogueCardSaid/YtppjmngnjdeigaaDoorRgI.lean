/- Contract: impl.ReadCatalogue. -/
import Derived.Test.YtppjmngnjdeigaaDoorRgS
import Derived.Test.YtppjmngnjdeigaaDoorRgP
import Derived.Test.YtppjmngnjdeigaaDoorFloatQ
import Derived.Test.YtppjmngnjdeigaaDoorRngO
import Derived.Maps.OwnIn
import Derived.Carry
import Derived.Sort.CutIn
import Derived.OwnWalkIn
import Derived.TacticsInMore
import Derived.Defers
import Derived.RangeFuncCalls
import Derived.RangeFuncBox
namespace Go.Proofs.YtppjmngnjdeigaaDoor
open Go.ChangeShapes Go.WideShapes Go.ChangeAt Go.RowKit
attribute [local go_sem] Oper.semAt_some

/-! ### What has been read from the first lines -/
def N0 (pre : List ByteArray) : List ByteArray := (pre.map trimB).map nmB
def E0 (pre : List ByteArray) : List Et := (N0 pre).map fun x => ⟨x, 0, 0⟩
def T0 (pre : List ByteArray) : List ByteArray := (pre.map trimB).map fun t => mkS (tdL t)
theorem N0_next (pre : List ByteArray) (x : ByteArray) : N0 (pre ++ [x]) = N0 pre ++ [nmB (trimB x)] := by unfold N0; simp
theorem E0_next (pre : List ByteArray) (x : ByteArray) : E0 (pre ++ [x]) = E0 pre ++ [⟨nmB (trimB x), 0, 0⟩] := by unfold E0; rw [N0_next]; simp
theorem T0_next (pre : List ByteArray) (x : ByteArray) : T0 (pre ++ [x]) = T0 pre ++ [mkS (tdL (trimB x))] := by unfold T0; simp
theorem N0_len (pre : List ByteArray) : (N0 pre).length = pre.length := by unfold N0; simp
theorem E0_len (pre : List ByteArray) : (E0 pre).length = pre.length := by unfold E0; rw [List.length_map, N0_len]
theorem T0_len (pre : List ByteArray) : (T0 pre).length = pre.length := by unfold T0; simp
theorem trimG_le (s : ByteArray) : (trimB s).size ≤ s.size := by
  unfold trimB trimL Lib.trimSuffix
  rw [show ∀ l, (mkS l).size = l.length from fun l => List.size_toArray]
  have : s.data.toList.length = s.size := Array.length_toList
  split
  · rw [List.length_take]; omega
  · omega
theorem lnB_sub : ∀ (l acc p : List UInt8), p ∈ lnB acc l → p.length ≤ acc.length + l.length
  | [], acc, p, h => by
    rw [lnB] at h
    split at h
    · cases h
    · rw [List.mem_singleton.1 h]; simp
  | x :: xs, acc, p, h => by
    rw [lnB] at h
    split at h
    · rcases List.mem_cons.1 h with rfl | h
      · simp
      · have := lnB_sub xs [] p h
        simp at this ⊢
        omega
    · have := lnB_sub xs _ p h
      simp at this ⊢
      omega
theorem lnsG_fit {s p : ByteArray} (h : p ∈ lns s) : p.size ≤ s.size := by
  obtain ⟨q, hq, rfl⟩ := List.mem_map.1 h
  have := lnB_sub _ _ _ hq
  have h3 : s.data.toList.length = s.size := Array.length_toList
  rw [show (mkS q).size = q.length from List.size_toArray]
  simp at this
  omega
theorem PlsO.same {w w' : World} {b : Nat} {ns : List ByteArray} (h : PlsO w b ns) (hb : w'.heap[b]? = w.heap[b]?) : PlsO w' b ns := by
  obtain ⟨es, clock, hc, F, hs, hD⟩ := h
  exact ⟨es, clock, hb.trans hc, F, hs, hD⟩
theorem plsO_of {w : World} {b : Nat} (h : w.heap[b]? = some (.map #[] 0)) : PlsO w b [] := ⟨#[], 0, h, ⟨by simp, Go.MapKept.stamped_empty 0, by simp⟩, Nat.le_refl _, rfl⟩
theorem plsO_next {w : World} {b : Nat} {ns : List ByteArray} {x : ByteArray} (h : w.ownsMap Tryd.prog 9 (plainElem Tryd.prog 2) b (ns.length + 1) ((dP ns ns.length).put (kN x) (.lit (.int .i64 (ns.length : Int))))) : PlsO w b (ns ++ [x]) := by
  unfold PlsO
  have e : dP (ns ++ [x]) (ns ++ [x]).length = (dP ns ns.length).put (kN x) (.lit (.int .i64 (ns.length : Int))) := by
    rw [List.length_append, List.length_singleton, dP, dP_app _ _ _ (Nat.le_refl _)]
    congr 2
    simp [List.getD]
  rw [e, List.length_append]
  exact h
theorem ownStrsG_oth {B g : Nat} {ps : List ByteArray} {v : Value} {w w' : World} (h : OwnStrs B ps v w) (hb : Oth g w w') (hg : g < B) : OwnStrs B ps v w' := by
  obtain ⟨h1, h2⟩ := h
  refine ⟨h1, ?_⟩
  rcases h2 with hn | ⟨b, cap, cur, rfl, hB, hh, rest⟩
  · exact .inl hn
  · exact .inr ⟨b, cap, cur, rfl, hB, (hb.block b (by omega) (Array.getElem?_eq_some_iff.1 hh).1).trans hh, rest⟩
theorem ownStrsG_nil (B : Nat) (w : World) : OwnStrs B [] (.slice none 0 0) w := ⟨rfl, .inl ⟨rfl, rfl⟩⟩
/-- The two slices do not lie in one block. -/
def Dj (v u : Value) : Prop := ∀ b, v.ownBlock = some b → u.ownBlock ≠ some b
/-- An append as the last operation of a region, of nothing too. -/
theorem yld_append {P : Program} (w : World) {o : Oper} {a : Act} {R : Value → World → Prop} (s x : Operand) (t : TypeId)
    (ho : o.op = .call { callee := .builtin .append, args := #[s, x], argTypes := #[t, t] })
    (base : Nat) (e : TypeId) (i : TypeInfo) (z : Value) (size bytes : Nat) (ht : P.underlying t = some (.slice e)) (hi : P.info? e = some i) (hz : i.zero = some z)
    (hsize : i.size = size) (hby : i.bytes = bytes) (hzs : z.cells.size = size) (hsz : 0 < size)
    (v : Value) (n : Nat) (xs : List Value) (hs : a.eval s = v) (hown : w.ownsRow base e size v n xs)
    (ad : Addr) (m c : Nat) (news : List Value) (hx : a.eval x = .slice (some ad) m c) (hl : news.length = m * size) (hnews : ∀ j u, news[j]? = some u → w.cell? (ad.add j) = some u) (h1 : ∀ u ∈ news, u.oneCell' = true)
    (h63 : n + m ≤ maxLen) (hbytes : (n + m) * bytes ≤ 140737488355328) (hbase : base ≤ w.heap.size)
    (h : ∀ v' w', w'.ownsRow base e size v' (n + m) (xs ++ news) → w.grownBy w' v.ownBlock → (v'.ownBlock = v.ownBlock ∨ v'.ownBlock = some w.heap.size) → R v' w') : Yld P R w ((execOp a.eval o).run P w) := by
  obtain ⟨v', w', hr, h2, h3, _, h5⟩ := run_append_own_at (P := P) w base t o.type e i z size bytes ht hi hz hsize hby hzs hsz v n xs hown ad m c news hl hnews h1 h63 hbytes hbase
  unfold execOp
  simp only [ho, resolve, invoke, builtin, Sem.run_bind, Sem.run_pure, Result.andThen_ok, List.map_toArray, List.map_cons, List.map_nil, hs, hx, hr]
  exact h v' w' h2 h3 h5
theorem wpListIn_append_at {F : Fence} {n : Nat} {P : Program} (w : World) {ops : Array Oper} {rest : List Oper} {o : Oper} {a : Act} {Q : Exit → Act → World → Prop}
    (hg : o.guard = none) (s x : Operand) (t : TypeId) (hop : o.op = Op.call { callee := Callee.builtin Builtin.append, args := #[s, x], argTypes := #[t, t] })
    (base : Nat) (e : TypeId) (i : TypeInfo) (z : Value) (size bytes : Nat) (h1 : P.underlying t = some (.slice e)) (h2 : P.info? e = some i) (h3 : i.zero = some z) (h4 : i.size = size) (h5 : i.bytes = bytes) (h6 : z.cells.size = size) (h7 : 0 < size)
    (v : Value) (k : Nat) (xs : List Value) (hs : a.eval s = v) (hown : w.ownsRow base e size v k xs) (ad : Addr) (m c : Nat) (news : List Value) (hx : a.eval x = .slice (some ad) m c) (hn : news.length = m * size)
    (hc : ∀ j u, news[j]? = some u → w.cell? (ad.add j) = some u) (h1c : ∀ u ∈ news, u.oneCell' = true) (b1 : k + m ≤ maxLen) (b2 : (k + m) * bytes ≤ 140737488355328) (b3 : base ≤ w.heap.size)
    (hK : ∀ v' w', w'.ownsRow base e size v' (k + m) (xs ++ news) → w.grownBy w' v.ownBlock → (v'.ownBlock = v.ownBlock ∨ v'.ownBlock = some w.heap.size) → wpListIn F n P ops Q rest (a.put o.dst v') w') :
    wpListIn F n P ops Q (o :: rest) a w := by
  refine wpListIn_plain hg fun K hK' => ?_
  obtain ⟨v', w', hrun, r1, r2, _, r3⟩ := run_append_own_at (P := P) w base t o.type e i z size bytes h1 h2 h3 h4 h5 h6 h7 v k xs hown ad m c news hn hc h1c b1 b2 b3
  unfold Oper.wpIn
  refine ⟨?_, ?_⟩
  · simp [Oper.about, hop, resolve, Target.leads, Sem.run_pure]
  · rw [Oper.semAt_plain F _ _ (by rw [hop]; intro c hc'; cases hc')]
    simp [execOp, hop, resolve, invoke, builtin, hs, hx, hrun, Result.andThen]
    exact hK' _ _ (hK v' w' r1 r2 r3)
theorem new1G (w : World) (n : Nat) (hn : n = w.heap.size) (x : Value) (t : TypeId) : ∀ j u, [x][j]? = some u → (w.alloc (.cells #[x] t)).cell? ((⟨n, 0, none⟩ : Addr).add j) = some u := by
  subst hn
  intro j u h
  match j, h with
  | 0, h => simp at h; subst h; simp [Addr.add]
theorem litG {k : Nat} (h : k ≤ 1048577) : (Lit.int .i64 (k : Int)).wf = true := by
  simp [Lit.wf, IntKind.min, IntKind.max, IntKind.signed, IntKind.bits]; omega
/-- What stands between two rounds over the lines. -/
structure RgA (w w1 : World) (pre : List ByteArray) (v u : Value) (W : World) : Prop where
  n : pre.length ≤ 40
  lc : W.cell? ⟨w.heap.size + 1 + 1, 0, none⟩ = some v
  lo : OwnEnts (w1.heap.size + 2) (E0 pre) v W
  tc : W.cell? ⟨w.heap.size + 1 + 1 + 1, 0, none⟩ = some u
  tO : OwnStrs (w1.heap.size + 2) (T0 pre) u W
  dj : Dj v u
  pc : W.cell? ⟨w.heap.size + 1 + 1 + 1 + 1 + 1, 0, none⟩ = some (.map (some (w.heap.size + 1 + 1 + 1 + 1)))
  po : PlsO W (w.heap.size + 1 + 1 + 1 + 1) (N0 pre)
  c0 : W.cell? ⟨w.heap.size, 0, none⟩ = some (.slice none 0 0)
  c1 : W.cell? ⟨w.heap.size + 1, 0, none⟩ = some (.int .i64 0)
  f0 : W.frozen? ⟨w.heap.size, 0, none⟩ = false
  f1 : W.frozen? ⟨w.heap.size + 1, 0, none⟩ = false
  f2 : W.frozen? ⟨w.heap.size + 1 + 1, 0, none⟩ = false
  f3 : W.frozen? ⟨w.heap.size + 1 + 1 + 1, 0, none⟩ = false
  le : w1.heap.size ≤ W.heap.size
  be : Below w.heap.size w W
theorem cellG {A B : World} {b o : Nat} (h : B.heap[b]? = A.heap[b]?) : B.cell? ⟨b, o, none⟩ = A.cell? ⟨b, o, none⟩ := by unfold World.cell?; simp only [h]
theorem frozenG {A B : World} {b o : Nat} (h : B.heap[b]? = A.heap[b]?) : B.frozen? ⟨b, o, none⟩ = A.frozen? ⟨b, o, none⟩ := by unfold World.frozen?; simp only [h]
theorem RgA.keep {w w1 A B : World} {pre : List ByteArray} {v u : Value} (sz1 : w1.heap.size = w.heap.size + 7) (h : RgA w w1 pre v u A) (hs : ∀ k, k < w1.heap.size → k ≠ w.heap.size + 1 + 1 + 1 + 1 + 1 + 1 → B.heap[k]? = A.heap[k]?)
    (lo : OwnEnts (w1.heap.size + 2) (E0 pre) v B) (tO : OwnStrs (w1.heap.size + 2) (T0 pre) u B) (le : w1.heap.size ≤ B.heap.size) (be : Below w.heap.size w B) : RgA w w1 pre v u B :=
  ⟨h.n, (cellG (hs _ (by omega) (by omega))).trans h.lc, lo, (cellG (hs _ (by omega) (by omega))).trans h.tc, tO, h.dj, (cellG (hs _ (by omega) (by omega))).trans h.pc, h.po.same (hs _ (by omega) (by omega)), (cellG (hs _ (by omega) (by omega))).trans h.c0, (cellG (hs _ (by omega) (by omega))).trans h.c1,
    (frozenG (hs _ (by omega) (by omega))).trans h.f0, (frozenG (hs _ (by omega) (by omega))).trans h.f1, (frozenG (hs _ (by omega) (by omega))).trans h.f2, (frozenG (hs _ (by omega) (by omega))).trans h.f3, le, be⟩
/-- What stands where a round has left the function. -/
structure RgX (w w1 : World) (W : World) : Prop where
  c0 : W.cell? ⟨w.heap.size, 0, none⟩ = some (.slice none 0 0)
  c1 : W.cell? ⟨w.heap.size + 1, 0, none⟩ = some (.int .i64 5)
  le : w1.heap.size ≤ W.heap.size
  be : Below w.heap.size w W
theorem RgX.keep {w w1 A B : World} (sz1 : w1.heap.size = w.heap.size + 7) (h : RgX w w1 A) (hs : ∀ k, k < w1.heap.size → k ≠ w.heap.size + 1 + 1 + 1 + 1 + 1 + 1 → B.heap[k]? = A.heap[k]?) (le : w1.heap.size ≤ B.heap.size) (be : Below w.heap.size w B) : RgX w w1 B :=
  ⟨(cellG (hs _ (by omega) (by omega))).trans h.c0, (cellG (hs _ (by omega) (by omega))).trans h.c1, le, be⟩
theorem told_is {y : ByteArray} : y.extract (nmB y).size y.size = mkS (tdL y) := by
  apply data_inj
  rw [Lib.extract_to_end, nm_td]
  rfl
theorem blocks7 (w : World) (o0 o1 o2 o3 o4 o5 o6 : Obj) (W : World) (h : ((((((w.alloc o0).alloc o1).alloc o2).alloc o3).alloc o4).alloc o5).alloc o6 = W) :
    W.heap[w.heap.size]? = some o0 ∧ W.heap[w.heap.size + 1]? = some o1 ∧ W.heap[w.heap.size + 1 + 1]? = some o2 ∧ W.heap[w.heap.size + 1 + 1 + 1]? = some o3 ∧ W.heap[w.heap.size + 1 + 1 + 1 + 1]? = some o4 ∧ W.heap[w.heap.size + 1 + 1 + 1 + 1 + 1]? = some o5 ∧ W.heap[w.heap.size + 1 + 1 + 1 + 1 + 1 + 1]? = some o6 ∧ W.heap.size = w.heap.size + 7 := by
  have sz : ∀ (V : World) o, (V.alloc o).heap.size = V.heap.size + 1 := fun V o => by simp
  have up : ∀ (V : World) o k O, V.heap[k]? = some O → (V.alloc o).heap[k]? = some O := fun V o k O hk => (Below.heap_alloc _ _ _ (Array.getElem?_eq_some_iff.1 hk).1).trans hk
  subst h
  refine ⟨?_, ?_, ?_, ?_, ?_, ?_, ?_, by simp⟩
  · exact up _ _ _ _ (up _ _ _ _ (up _ _ _ _ (up _ _ _ _ (up _ _ _ _ (up _ _ _ _ (block_alloc _ _))))))
  · exact up _ _ _ _ (up _ _ _ _ (up _ _ _ _ (up _ _ _ _ (up _ _ _ _ (by rw [← sz w o0]; exact block_alloc _ _)))))
  · exact up _ _ _ _ (up _ _ _ _ (up _ _ _ _ (up _ _ _ _ (by rw [← sz w o0, ← sz _ o1]; exact block_alloc _ _))))
  · exact up _ _ _ _ (up _ _ _ _ (up _ _ _ _ (by rw [← sz w o0, ← sz _ o1, ← sz _ o2]; exact block_alloc _ _)))
  · exact up _ _ _ _ (up _ _ _ _ (by rw [← sz w o0, ← sz _ o1, ← sz _ o2, ← sz _ o3]; exact block_alloc _ _))
  · exact up _ _ _ _ (by rw [← sz w o0, ← sz _ o1, ← sz _ o2, ← sz _ o3, ← sz _ o4]; exact block_alloc _ _)
  · rw [← sz w o0, ← sz _ o1, ← sz _ o2, ← sz _ o3, ← sz _ o4, ← sz _ o5]; exact block_alloc _ _
/-! ### The second loop -/
def fE (L : List ByteArray) (t : ByteArray) : Et := ⟨nmB t, gI L seeL t, gI L belL t⟩
def f0E (t : ByteArray) : Et := ⟨nmB t, 0, 0⟩
def mixE (L : List ByteArray) (j : Nat) : List Et := (L.take j).map (fE L) ++ (L.drop j).map f0E
theorem mixE_len (L : List ByteArray) (j : Nat) : (mixE L j).length = L.length := by unfold mixE; simp; omega
theorem mixE_zero (pre : List ByteArray) : mixE (pre.map trimB) 0 = E0 pre := by unfold mixE E0 N0 f0E; simp
theorem mixE_all (L : List ByteArray) : mixE L L.length = esI L := by unfold mixE esI fE; simp
theorem mixE_at {L : List ByteArray} {j : Nat} (h : j < L.length) : etAt (mixE L j) j = f0E L[j] := by
  unfold etAt mixE
  rw [List.getD, List.getElem?_append_right (by simp; omega)]
  simp [Nat.min_eq_left (Nat.le_of_lt h), h]
theorem mixE_next {L : List ByteArray} {j : Nat} (h : j < L.length) : (mixE L j).set j (fE L L[j]) = mixE L (j + 1) := by
  have e1 : ((L.take j).map (fE L)).length = j := by rw [List.length_map, List.length_take]; omega
  have e2 : (L.drop j).map f0E = f0E L[j] :: (L.drop (j + 1)).map f0E := by rw [List.drop_eq_getElem_cons h, List.map_cons]
  have e3 : (L.take (j + 1)).map (fE L) = (L.take j).map (fE L) ++ [fE L L[j]] := by rw [List.take_add_one, List.getElem?_eq_getElem h, List.map_append]; rfl
  unfold mixE
  rw [List.set_append_right _ _ (by omega), e1, Nat.sub_self, e2, List.set_cons_zero, e3, List.append_assoc]
  rfl
theorem gI_pl (L : List ByteArray) (sg : List UInt8) (t : ByteArray) : gI L sg t = plI (L.map nmB) (mkS sg) (mkS (tdL t)) := by
  unfold gI plI Lib.hasPrefix
  rw [data_mkS, data_mkS, List.length_map]
  split
  · rename_i h
    unfold Lib.trimPrefix Lib.hasPrefix
    rw [if_pos h]
  · rfl
theorem flatE_two {ds : List Et} {j : Nat} (h : j < ds.length) (a b : Int) : ((flatE ds).set (j * 3 + 1) (.int .i64 a)).set (j * 3 + 2) (.int .i64 b) = flatE (ds.set j ⟨(etAt ds j).s, a, b⟩) := by
  have e := flatE_set ds j ⟨(etAt ds j).s, a, b⟩
  have e0 : (flatE ds).set (j * 3) (.string (etAt ds j).s) = flatE ds := by
    refine List.ext_getElem? fun k => ?_
    rw [List.getElem?_set]
    split
    · rename_i hk
      subst hk
      rw [(flatE_get ds j h).1, if_pos (by rw [flatE_len]; omega)]
    · rfl
  simp only [e0] at e
  exact e
theorem own_formE {B n : Nat} {av : Option Addr} {cv : Nat} {xs : List Value} {w : World} (h : w.ownsRow B 81 3 (.slice av n cv) n xs) (hn : 0 < n) : ∃ g, av = some ⟨g, 0, none⟩ ∧ B ≤ g ∧ g < w.heap.size := by
  obtain ⟨_, h2⟩ := h
  rcases h2 with ⟨_, h0⟩ | ⟨g, cap, cur, hv, hB, hg, _⟩
  · omega
  · injection hv with h1
    exact ⟨g, h1, hB, (Array.getElem?_eq_some_iff.1 hg).1⟩
theorem td_le (t : ByteArray) : (mkS (tdL t)).size ≤ t.size := by
  rw [← told_is]
  simp
theorem esI_fits {L : List ByteArray} (hn : L.length ≤ 40) (h : ∀ t ∈ L, t.size ≤ 1048576) : ∀ i, i < (esI L).length → (etAt (esI L) i).fits := by
  intro i hi
  unfold esI at hi ⊢
  rw [List.length_map] at hi
  have e : etAt (L.map fun t => (⟨nmB t, gI L seeL t, gI L belL t⟩ : Et)) i = ⟨nmB L[i], gI L seeL L[i], gI L belL L[i]⟩ := by unfold etAt; simp [List.getD, hi]
  rw [e]
  have h1 := nm_le L[i]
  have h2 := h L[i] (List.getElem_mem hi)
  have gb : ∀ sg t, -1 ≤ gI L sg t ∧ gI L sg t < 41 := fun sg t => by
    unfold gI
    have := lastN_lt (L.map nmB) (mkS ((tdL t).drop sg.length)) L.length
    split <;> omega
  have h3 := gb seeL L[i]
  have h4 := gb belL L[i]
  unfold Et.fits I64 maxLen
  simp only
  refine ⟨by omega, ?_, ?_⟩ <;> omega
theorem rgI_long {s : ByteArray} {pre : List ByteArray} (h : pre <+: lns s) (hl : 40 < pre.length) : rgI s = none := by
  unfold rgI
  rw [if_neg]
  rintro ⟨h1, _⟩
  have := h.length_le
  unfold tl at h1
  rw [List.length_map] at h1
  omega

set_option maxRecDepth 100000 in
set_option maxHeartbeats 6400000 in
theorem iReadCat_any (s : ByteArray) (hs : s.size ≤ 1048576) (w : World) :
    Calls Tryd.prog 20 #[.string s] w (RgR (rgI s) w) := by
  obtain ⟨i0, hi, hz0, hz1, hz2⟩ := info_parts info_entry
  obtain ⟨j0, hj, hj0, hj1, hj2⟩ := info_parts info_str
  refine (callsIn_wide (n := 0)).1 (callsIn_of_wp_marks Tryd.func20 rfl trivial ?_ rfl)
  simp only [Tryd.ntmps20, List.size_toArray, List.length_cons, List.length_nil, Nat.reduceAdd, Nat.reduceSub, Array.replicate_succ, Array.replicate_zero, List.push_toArray, List.append_toArray, List.nil_append, List.cons_append]
  refine wpIn_wide.2 ?_
  have hmm := fun W => run_makeMap (P := Tryd.prog) 85 W
  go_wp2_with (go_at_call 50; refine (lines_any s _).mono ?_; rintro e w1 ⟨rfl, hw⟩; have HW := Lib.hid hw; clear hw)
  obtain ⟨q0, q1, q2, q3, q4, q5, q6, sz1⟩ := blocks7 _ _ _ _ _ _ _ _ _ HW.out
  have M0 := plsO_of q4
  have c0 := cell_of_block q0 0
  have c1 := cell_of_block q1 0
  have c2 := cell_of_block q2 0
  have c3 := cell_of_block q3 0
  have c5 := cell_of_block q5 0
  have c6 := cell_of_block q6 0
  have f0 := free_of_block q0 0
  have f1 := free_of_block q1 0
  have f2 := free_of_block q2 0
  have f3 := free_of_block q3 0
  have f6 := free_of_block q6 0
  have B0 : Below w.heap.size w w1 := by rw [← HW.out]; exact (by repeat' (first | (with_reducible exact Below.refl _ _) | (with_reducible assumption) | (with_reducible refine below_drewN ?_ _) | (with_reducible refine Below.drew ?_) | (with_reducible refine below_new ?_ _) | (with_reducible refine below_next ?_ (by with_reducible assumption)) | (with_reducible refine Below.setCell ?_ ?_ _) | go_size))
  clear HW q0 q1 q2 q3 q4 q5 q6
  have hq := lines_by _ s (by unfold maxLen; omega) w1 (by omega) c6 f6
  have hfit := fun x (hx : x ∈ lns s) => Nat.le_trans (Nat.le_trans (trimG_le x) (lnsG_fit hx)) hs
  refine wp_rangeO rfl (enters_of Tryd.func81 (by kernel_rfl) rfl) hq (fun _ => rfl) (fun h k => ⟨Nat.le_trans h.1 k.1, k.2.trans h.2⟩)
    (fun A B hAB => ⟨hAB.size, hAB.block _ (by omega)⟩) (fun A B hAB k hk hk2 => hAB.block k (by omega) hk2)
    (fun pre W => ∃ v u, RgA w w1 pre v u W)
    (fun c pre W => (c = .ret ∧ 40 < pre.length) ∧ RgX w w1 W)
    ?i1 ?i2 ?i3 ?i4 ?i5 (fun _ _ _ => trivial) ⟨_, _, ⟨by simp, c2, ownE_nil _ _, c3, ownStrsG_nil _ _, (fun b e => by cases e), c5, M0, c0, c1, f0, f1, f2, f3, Nat.le_refl _, B0⟩⟩
    (fun x => { tmps := #[.string s, undef, .pointer (some ⟨w.heap.size, 0, none⟩), .pointer (some ⟨w.heap.size + 1, 0, none⟩), .pointer (some ⟨w.heap.size + 1 + 1, 0, none⟩), .pointer (some ⟨w.heap.size + 1 + 1 + 1, 0, none⟩), .pointer (some ⟨w.heap.size + 1 + 1 + 1 + 1 + 1, 0, none⟩), .string x, undef, undef, undef, undef, .map (some (w.heap.size + 1 + 1 + 1 + 1)), .string s, .func (.func 81) #[] #[.pointer (some ⟨w.heap.size + 1 + 1 + 1 + 1 + 1 + 1, 0, none⟩)], .string x, undef, undef, undef, undef, undef, undef, undef, undef, undef, undef, undef, undef, undef, undef, undef, undef, undef, undef, undef, undef, undef, undef, undef, undef, undef, undef, undef, undef, undef, undef, undef, undef, undef, undef, undef, undef, undef, undef, undef, undef, undef, undef, undef, undef, undef, undef, undef, undef, undef, undef, undef, undef, undef, undef, undef, undef, undef, undef], defers := [] }) ?assign ?body ?done ?stop
  case i1 =>
    rintro pre A B ⟨v, u, h⟩ hs
    exact ⟨v, u, h.keep sz1 (fun k hk hne => hs.block k hne (by have := h.le; omega)) (ownEnts_oth h.lo hs (by omega)) (ownStrsG_oth h.tO hs (by omega)) (Nat.le_trans h.le hs.size) (h.be.trans (Below.mono (hs.below (by have := h.le; omega)) (by omega)))⟩
  case i2 =>
    rintro c pre A B ⟨h1, h⟩ hs
    exact ⟨h1, h.keep sz1 (fun k hk hne => hs.block k hne (by have := h.le; omega)) (Nat.le_trans h.le hs.size) (h.be.trans (Below.mono (hs.below (by have := h.le; omega)) (by omega)))⟩
  case i3 =>
    rintro pre A o hA ⟨v, u, h⟩
    have hs := below_new (Below.refl A.heap.size A) o
    exact ⟨v, u, h.keep sz1 (fun k hk _ => hs.block k (by omega)) (World.ownsRow.alloc h.lo _) (World.ownsRow.alloc h.tO _) (Nat.le_trans h.le hs.size) (h.be.trans (hs.mono (by omega)))⟩
  case i4 =>
    rintro pre A k o o' hk hl ho ⟨v, u, h⟩
    have hs : Below w1.heap.size A (A.putObj k o') := below_put hk
    exact ⟨v, u, h.keep sz1 (fun k hk _ => hs.block k hk) (ownsRow_putObj h.lo o' hl ho) (ownsRow_putObj h.tO o' hl ho) (by simpa using h.le) (h.be.trans (hs.mono (by omega)))⟩
  case i5 =>
    rintro c pre A k o o' hk hl ho ⟨h1, h⟩
    have hs : Below w1.heap.size A (A.putObj k o') := below_put hk
    exact ⟨h1, h.keep sz1 (fun k hk _ => hs.block k hk) (by simpa using h.le) (h.be.trans (hs.mono (by omega)))⟩
  case assign =>
    intro l x W K hK
    gi_wp2
    exact hK
  case stop =>
    rintro c pre W hpre ⟨⟨rfl, h1⟩, h⟩ hK
    go_wp2
    refine ⟨by simp, .inl ⟨_, _, rfl, run_takeDeferred hK, ?_⟩⟩
    have c5 : (W.putObj w1.heap.size (.deferred none)).cell? ⟨w.heap.size, 0, none⟩ = some (.slice none 0 0) := (cellG (World.putObj_heap_other (by omega))).trans h.c0
    have c6 : (W.putObj w1.heap.size (.deferred none)).cell? ⟨w.heap.size + 1, 0, none⟩ = some (.int .i64 5) := (cellG (World.putObj_heap_other (by omega))).trans h.c1
    refine ⟨.tuple #[.slice none 0 0, .int .i64 5], ?_, .slice none 0 0, ?_, ?_, h.be.trans (below_put (by omega))⟩
    · simp [results, Tryd.results20, go_sem, c5, c6]
    · rw [rgI_long hpre h1]; rfl
    · rw [rgI_long hpre h1]; exact ownE_nil _ _
  case body =>
    rintro l pre x W ⟨v, u, h⟩ hask hlt
    have hx := hask.subset (show x ∈ pre ++ [x] by simp)
    have fx := hfit x hx
    have T := Lib.hid fun W => trim_any x (by have := lnsG_fit hx; unfold maxLen; omega) W
    have NN := Lib.hid (N0_next pre x)
    have EE := Lib.hid (E0_next pre x)
    have TT := Lib.hid (T0_next pre x)
    have nl := Lib.hid (N0_len pre)
    have el := E0_len pre
    have tL := T0_len pre
    have h40 := h.n
    have C2 := h.lc
    have C3 := h.tc
    have C5 := h.pc
    have K0 := h.c0
    have K1 := h.c1
    have F0 := h.f0
    have F1 := h.f1
    have F2 := h.f2
    have F3 := h.f3
    obtain ⟨av, cv, hv, _⟩ := ownEnts_in h.lo
    rw [el] at hv
    have HH := Lib.hid h
    have y2 : w.heap.size + 1 + 1 < W.heap.size := by have := h.le; omega
    clear hq hask hfit hx c0 c1 c2 c3 c5 c6 f0 f1 f2 f3 f6 h
    generalize trimB x = y at *
    by_cases hp : pre.length = 40
    · have d1 : decide ((pre.length : Int) = 40) = true := by rw [hp]; rfl
      have d2 : ((pre.length : Int) == 40) = true := by rw [hp]; rfl
      rw [hp] at hv
      subst hv
      gi_wp2
      refine ⟨(Kept.set W 0 _ (by omega)).trans (Kept.set _ 0 _ (by omega)), ⟨rfl, by simp; omega⟩, ?_, ?_, by simp [World.setCell]; exact HH.out.le, (HH.out.be.setCell (p := ⟨w.heap.size, 0, none⟩) (Nat.le_refl _) _).setCell (p := ⟨w.heap.size + 1, 0, none⟩) (by simp) _⟩
      · rw [World.cell?_setCell_other (h := by simp)]
        exact World.cell?_setCell_same' _ _ _ (by rw [K0]; rfl)
      · exact World.cell?_setCell_same' _ _ _ (by rw [World.cell?_setCell_other (h := by simp), K1]; rfl)
    · have d1 : decide ((pre.length : Int) = 40) = false := decide_eq_false (by omega)
      have d2 : ((pre.length : Int) == 40) = false := by rw [beq_eq_false_iff_ne]; omega
      obtain ⟨bt, mt, HC⟩ := cutC_any y fx
      have CU := Lib.hid HC
      have ny := nm_le y
      have TI := Lib.hid (told_is (y := y))
      clear HC
      generalize nmB y = nx at *
      subst hv
      have KY := Lib.hid (show keyOf Tryd.prog 9 (.string nx) = some (kN nx) from Go.WideMaps.keyOf_string_mk Tryd.underlying9 (by unfold maxLen; omega))
      have VL := Lib.hid (show plainElem (H := Unit) Tryd.prog 2 (.int .i64 (pre.length : Int)) = some (.lit (.int .i64 (pre.length : Int)), []) from plainElem_int Tryd.underlying2 (litG (by omega)))
      gi_upto_region 12 with (first
        | (refine ⟨trivial, rfl, ?_⟩; gi_at_call 51; refine (CallsIn.inRound l (callsIn_wide.2 (T.out _))).mono ?_; rintro e w2 ⟨rfl, rfl⟩)
        | (refine ⟨trivial, rfl, ?_⟩; gi_at_call 52; refine (CallsIn.inRound l (callsIn_wide.2 (CU.out _))).mono ?_; rintro e w3 ⟨rfl, hB⟩; go_loud (
            have le3 := HH.out.le
            have s3 := hB.size
            have k5 := (hB.cell (p := ⟨w.heap.size + 1 + 1 + 1 + 1 + 1, 0, none⟩) (by simp; omega)).trans C5
            have k2 := (hB.cell (p := ⟨w.heap.size + 1 + 1, 0, none⟩) (by simp; omega)).trans C2
            obtain ⟨w4, U, M4, G4⟩ := Go.World.ownsMap.update (HH.out.po.below hB) (Maps.string_keyed Tryd.underlying9) Tryd.underlying85 (show (N0 pre).length < maxLen by rw [nl.out]; unfold maxLen; omega) KY.out VL.out
            have M4 := Lib.hid M4
            have bk : ∀ k, k < w1.heap.size + 2 → k ≠ w.heap.size + 1 + 1 + 1 + 1 → w4.heap[k]? = w2.heap[k]? := (fun k hk hne => (G4.block k (by omega) (by simpa using hne)).trans (hB.block k (by omega)))
            have j2 := (cellG (o := 0) (bk (w.heap.size + 1 + 1) (by omega) (by omega))).trans C2
            have j3 := (cellG (o := 0) (bk (w.heap.size + 1 + 1 + 1) (by omega) (by omega))).trans C3
            have g2 := (frozenG (o := 0) (bk (w.heap.size + 1 + 1) (by omega) (by omega))).trans F2
            have g3 := (frozenG (o := 0) (bk (w.heap.size + 1 + 1 + 1) (by omega) (by omega))).trans F3
            have s4 := G4.size
            have z2 : w.heap.size + 1 + 1 < w4.heap.size := (by omega)
            have z3 : w.heap.size + 1 + 1 + 1 < w4.heap.size := (by omega)
            have L4 := Lib.hid (World.ownsRow.kept (ownEnts_kept HH.out.lo hB) G4 (.inr (fun e => by have := (World.ownsRow.lt HH.out.lo _ e).1; omega)))
            have T4 := Lib.hid (World.ownsRow.kept (ownStrs_kept HH.out.tO hB) G4 (.inr (fun e => by have := (World.ownsRow.lt HH.out.tO _ e).1; omega)))
            have BK := Lib.hid bk
            have B3 := Lib.hid hB
            have G4 := Lib.hid G4
            clear bk hB))
        | (gi_at_builtin; go_loud (refine wpListIn_append_at _ rfl _ _ 44 rfl (w1.heap.size + 2) 81 i0 (.agg #[.string ByteArray.empty, .int .i64 0, .int .i64 0]) 3 32 Tryd.underlying44 hi hz0 hz1 hz2 rfl (by decide) _ _ _ rfl (World.ownsRow.alloc L4.out _) ⟨w4.heap.size, 0, none⟩ 1 1 [.string nx, .int .i64 0, .int .i64 0] rfl rfl (new3G _ _ rfl _ _ _ _) (fun x hx => by simp at hx; rcases hx with rfl | rfl | rfl <;> rfl) (by unfold maxLen; omega) (by omega) (by simp; omega) ?_; intro v' w5 hown hgrow hat
                                   have P0 := ownE_push hown
                                   obtain ⟨a5, c5, hv5, _⟩ := ownEnts_in P0
                                   rw [List.length_append, el] at hv5
                                   change v' = .slice a5 (pre.length + 1) c5 at hv5
                                   have own2 : ∀ k, k < w1.heap.size + 2 → some k ≠ (Value.slice av pre.length cv).ownBlock := (fun k hk e => by have := (World.ownsRow.lt HH.out.lo _ e.symm).1; omega)
                                   have a4 : ∀ o k, k < w4.heap.size → (w4.alloc o).heap[k]? = w4.heap[k]? := (fun o k hk => Below.heap_alloc _ _ _ hk)
                                   have b5 : ∀ k, k < w1.heap.size + 2 → w5.heap[k]? = w4.heap[k]? := (fun k hk => (hgrow.block k (by simp; omega) (own2 k hk)).trans (a4 _ k (by omega)))
                                   have j2 := (cellG (o := 0) (b5 (w.heap.size + 1 + 1) (by omega))).trans j2
                                   have j3 := (cellG (o := 0) (b5 (w.heap.size + 1 + 1 + 1) (by omega))).trans j3
                                   have g2 := (frozenG (o := 0) (b5 (w.heap.size + 1 + 1) (by omega))).trans g2
                                   have g3 := (frozenG (o := 0) (b5 (w.heap.size + 1 + 1 + 1) (by omega))).trans g3
                                   have s5 := hgrow.size
                                   rw [show ∀ o, (w4.alloc o).heap.size = w4.heap.size + 1 from (fun o => by simp)] at s5
                                   have z2 : w.heap.size + 1 + 1 < w5.heap.size := (by omega)
                                   have z3 : w.heap.size + 1 + 1 + 1 < w5.heap.size := (by omega)
                                   have T5 := Lib.hid (World.ownsRow.kept (World.ownsRow.alloc T4.out _) hgrow (by
                                     cases eu : u.ownBlock with
                                     | none => exact .inl rfl
                                     | some b => exact .inr (fun e => HH.out.dj b e.symm eu)))
                                   have D5 : Hid (Dj v' u) := Lib.hid (fun b e eu => by
                                     rcases hat with h | h
                                     · rw [h] at e; exact HH.out.dj b e eu
                                     · rw [h] at e; have := (World.ownsRow.lt T4.out b eu).2; simp at e; omega)
                                   have P5 := Lib.hid P0
                                   have G5 := Lib.hid hgrow
                                   have BB5 := Lib.hid b5
                                   subst hv5
                                   clear hown hgrow hat P0 own2 a4 b5)))
      have e3 : (w5.setCell ⟨w.heap.size + 1 + 1, 0, none⟩ (.slice a5 (pre.length + 1) c5)).cell? ⟨w.heap.size + 1 + 1 + 1, 0, none⟩ = some u := by
        rw [World.cell?_setCell_other (h := by simp)]; exact j3
      have e2 : (w5.setCell ⟨w.heap.size + 1 + 1, 0, none⟩ (.slice a5 (pre.length + 1) c5)).cell? ⟨w.heap.size + 1 + 1, 0, none⟩ = some (.slice a5 (pre.length + 1) c5) := World.cell?_setCell_same' _ _ _ (by rw [j2]; rfl)
      have e4 : ∀ k, k < w1.heap.size + 2 → k ≠ w.heap.size + 1 + 1 → (w5.setCell ⟨w.heap.size + 1 + 1, 0, none⟩ (.slice a5 (pre.length + 1) c5)).heap[k]? = w4.heap[k]? := fun k hk hne => (Below.heap_setCell _ _ _ _ hne).trans (BB5.out k hk)
      have e5 := ownsRow_setCell_below P5.out (a := ⟨w.heap.size + 1 + 1, 0, none⟩) (show w.heap.size + 1 + 1 < w1.heap.size + 2 by omega) (.slice a5 (pre.length + 1) c5)
      have e6 := ownsRow_setCell_below T5.out (a := ⟨w.heap.size + 1 + 1, 0, none⟩) (show w.heap.size + 1 + 1 < w1.heap.size + 2 by omega) (.slice a5 (pre.length + 1) c5)
      have e7 : (w5.setCell ⟨w.heap.size + 1 + 1, 0, none⟩ (.slice a5 (pre.length + 1) c5)).heap.size = w5.heap.size := by simp
      have e8 : Below w.heap.size w (w5.setCell ⟨w.heap.size + 1 + 1, 0, none⟩ (.slice a5 (pre.length + 1) c5)) := by
        have b3 := HH.out.be.trans (Below.mono B3.out HH.out.be.size)
        have b4 := Below.grown b3 G4.out b3.size (fun k hk => by cases hk; omega)
        have b5 := below_new b4 (.cells #[.string nx, .int .i64 0, .int .i64 0] 81)
        have b6 := Below.grown b5 G5.out b5.size (fun k hk => by have := (World.ownsRow.lt HH.out.lo k hk).1; omega)
        exact b6.setCell (p := ⟨w.heap.size + 1 + 1, 0, none⟩) (by show w.heap.size ≤ w.heap.size + 1 + 1; omega) _
      have e9 : (w5.setCell ⟨w.heap.size + 1 + 1, 0, none⟩ (.slice a5 (pre.length + 1) c5)).frozen? ⟨w.heap.size + 1 + 1, 0, none⟩ = false := by rw [World.frozen?_setCell]; exact g2
      generalize w5.setCell ⟨w.heap.size + 1 + 1, 0, none⟩ (.slice a5 (pre.length + 1) c5) = w6 at *
      have hbw := cell_bw
      refine FS.wpR_region_maw 5 l (.cells #[.string (mkS (tdL y))] 9) (fun b => .slice (some ⟨b, 0, none⟩) 1 1) (by kernel_rfl) (by kernel_rfl) rfl rfl (by kernel_rfl) (by kernel_rfl) (by kernel_rfl) rfl rfl rfl ?_
      simp only [List.take_succ_cons, List.take_zero]
      intro w7 h7
      have k3 := (h7.cell (p := ⟨w.heap.size + 1 + 1 + 1, 0, none⟩) (by simp; omega)).trans e3
      have z7 := h7.size
      have z3 : w.heap.size + 1 + 1 + 1 < w7.heap.size := by omega
      clear j2 j3 g2 z2
      repeat (go_big_quiet_step (fail))
      refine wpQuiet_nil ⟨fun w8 h8 => ?_, fun b hb w8 h8 hz => ?_⟩
      · simp only [TI.out]
        go_simp
      · simp only [TI.out]
        have k8 := (h8.cell (p := ⟨w.heap.size + 1 + 1 + 1, 0, none⟩) (by simp; omega)).trans e3
        have s8 := h8.size
        refine yld_append _ _ _ 49 (by rfl) (w1.heap.size + 2) 9 j0 (.string ⟨#[]⟩) 1 16 Tryd.underlying49 hj hj0 hj1 hj2 rfl (by decide) _ _ _ (by rfl) (ownStrs_kept e6 h8) ⟨b, 0, none⟩ 1 1 [.string (mkS (tdL y))] (by rfl) rfl (fun j u hju => by
          match j, hju with
          | 0, hju => simp at hju; subst hju; simp [Addr.add, World.cell?, hz]) (fun x hx => by simp at hx; subst hx; rfl) (by unfold maxLen; omega) (by omega) (by omega) ?_
        intro v9 w9 hown hgrow hat
        have P9 := ownStrs_push hown
        obtain ⟨a9, c9, hv9, _⟩ := ownStrs_in P9
        rw [List.length_append, tL] at hv9
        change v9 = .slice a9 (pre.length + 1) c9 at hv9
        have D9 : Dj (.slice a5 (pre.length + 1) c5) v9 := fun b' e eu => by
          rcases hat with h | h
          · rw [h] at eu; exact D5.out b' e eu
          · rw [h] at eu; have := (World.ownsRow.lt e5 b' e).2; simp at eu; omega
        have L9 := World.ownsRow.kept (ownEnts_kept e5 h8) hgrow (by
          cases eu : (Value.slice a5 (pre.length + 1) c5).ownBlock with
          | none => exact .inl rfl
          | some b' => exact .inr (fun e => D5.out b' eu e.symm))
        have own3 : ∀ k, k < w1.heap.size + 2 → some k ≠ u.ownBlock := fun k hk e => by have := (World.ownsRow.lt e6 _ e.symm).1; omega
        have b9 : ∀ k, k < w1.heap.size + 2 → w9.heap[k]? = w6.heap[k]? := fun k hk => (hgrow.block k (by omega) (own3 k hk)).trans (Below.block h8 k (by omega))
        have k9 := (cellG (o := 0) (b9 (w.heap.size + 1 + 1 + 1) (by omega))).trans e3
        have s9 := hgrow.size
        have z9 : w.heap.size + 1 + 1 + 1 < w9.heap.size := by omega
        have g9 : w9.frozen? ⟨w.heap.size + 1 + 1 + 1, 0, none⟩ = false := (frozenG (o := 0) ((b9 (w.heap.size + 1 + 1 + 1) (by omega)).trans (e4 _ (by omega) (by omega)))).trans ((frozenG (o := 0) (BK.out _ (by omega) (by omega))).trans F3)
        have B9 : Below w.heap.size w w9 := Below.grown (e8.trans (Below.mono h8 e8.size)) hgrow (by have := e8.size; omega) (fun k hk => by have := (World.ownsRow.lt e6 k hk).1; omega)
        subst hv9
        go_simp
        simp only [Yld]
        gi_wp2
        have bF : ∀ k, k < w1.heap.size + 2 → k ≠ w.heap.size + 1 + 1 + 1 → (w9.setCell ⟨w.heap.size + 1 + 1 + 1, 0, none⟩ (.slice a9 (pre.length + 1) c9)).heap[k]? = w6.heap[k]? := fun k hk hne => (Below.heap_setCell _ _ _ _ hne).trans (b9 k hk)
        have bG : ∀ k, k < w1.heap.size + 2 → k ≠ w.heap.size + 1 + 1 + 1 → k ≠ w.heap.size + 1 + 1 → k ≠ w.heap.size + 1 + 1 + 1 + 1 → (w9.setCell ⟨w.heap.size + 1 + 1 + 1, 0, none⟩ (.slice a9 (pre.length + 1) c9)).heap[k]? = w2.heap[k]? := fun k hk h1 h2 h3 => (bF k hk h1).trans ((e4 k hk h2).trans (BK.out k hk h3))
        refine ⟨⟨bG _ (by omega) (by omega) (by omega) (by omega), bG _ (by omega) (by omega) (by omega) (by omega)⟩, ⟨by simp [World.setCell]; omega, bG _ (by omega) (by omega) (by omega) (by omega)⟩, .slice a5 (pre.length + 1) c5, .slice a9 (pre.length + 1) c9, ?_⟩
        exact {
          n := by rw [List.length_append]; simp; omega
          lc := (cellG (bF _ (by omega) (by omega))).trans e2
          lo := by rw [EE.out]; exact ownsRow_setCell_below L9 (by simp; omega) _
          tc := World.cell?_setCell_same' _ _ _ (by rw [k9]; rfl)
          tO := by rw [TT.out]; exact ownsRow_setCell_below P9 (by simp; omega) _
          dj := D9
          pc := (cellG (bG _ (by omega) (by omega) (by omega) (by omega))).trans C5
          po := by
            rw [NN.out]
            refine PlsO.same (w := w4) (plsO_next (by rw [nl.out]; have := M4.out; rw [nl.out] at this; exact this)) ((bF _ (by omega) (by omega)).trans (e4 _ (by omega) (by omega)))
          c0 := (cellG (bG _ (by omega) (by omega) (by omega) (by omega))).trans K0
          c1 := (cellG (bG _ (by omega) (by omega) (by omega) (by omega))).trans K1
          f0 := (frozenG (bG _ (by omega) (by omega) (by omega) (by omega))).trans F0
          f1 := (frozenG (bG _ (by omega) (by omega) (by omega) (by omega))).trans F1
          f2 := (frozenG (bF _ (by omega) (by omega))).trans e9
          f3 := by rw [World.frozen?_setCell]; exact g9
          le := by simp [World.setCell]; omega
          be := B9.setCell (p := ⟨w.heap.size + 1 + 1 + 1, 0, none⟩) (by show w.heap.size ≤ w.heap.size + 1 + 1 + 1; omega) _ }
  case done =>
    rintro xs W rfl ⟨v, u, h⟩ hK
    have sza : w1.heap.size ≤ w.heap.size + 7 := by omega
    have szb : w.heap.size + 7 ≤ w1.heap.size := by omega
    clear sz1
    have sx := h.n
    have el := E0_len (lns s)
    have tL := T0_len (lns s)
    have nl := Lib.hid (N0_len (lns s))
    obtain ⟨av, cv, hv, _⟩ := ownEnts_in h.lo
    rw [el] at hv
    obtain ⟨at_, ct, hu, hTS⟩ := ownStrs_in h.tO
    rw [tL] at hu
    subst hv hu
    have HH := Lib.hid h
    have TS := Lib.hid hTS
    have C2 := h.lc
    have C3 := h.tc
    have C5 := h.pc
    have ltW : w1.heap.size < W.heap.size := (Array.getElem?_eq_some_iff.1 hK).1
    have HK := Lib.hid hK
    have FT := Lib.hid (fun t (ht : t ∈ tl s) => (show t.size ≤ 1048576 by
      obtain ⟨q, hq, rfl⟩ := List.mem_map.1 ht
      exact hfit q hq))
    have LN : Hid ((tl s).length = (lns s).length) := Lib.hid (by unfold tl; rw [List.length_map])
    have ME : Hid (mixE (tl s) 0 = E0 (lns s)) := Lib.hid (mixE_zero (lns s))
    have NS : Hid (N0 (lns s) = (tl s).map nmB) := Lib.hid rfl
    have TD : Hid (T0 (lns s) = (tl s).map fun t => mkS (tdL t)) := Lib.hid rfl
    have ER : Hid (rgI s = if (lns s).length ≤ 40 ∧ cgT (esI (tl s)) = s then some (esI (tl s)) else none) := Lib.hid (by unfold rgI; rw [LN.out])
    have lo := h.lo
    unfold OwnEnts at lo
    rw [el] at lo
    have LO := Lib.hid lo
    clear hq hfit hTS h hK lo c0 c1 c2 c3 c5 c6 f0 f1 f2 f3 f6
    generalize (lns s).length = n at *
    clear nl el tL
    go_upto_region 14 with fail
    go_loopw [45] (fun i wr => ∃ j : Nat, i = .int .i64 (j : Int) ∧ j ≤ n ∧ wr.ownsRow (w1.heap.size + 2) 81 3 (.slice av n cv) n (flatE (mixE (tl s) j)) ∧ (∀ k, k < w1.heap.size + 1 → wr.heap[k]? = W.heap[k]?) ∧ OwnStrs (w1.heap.size + 2) (T0 (lns s)) (.slice at_ n ct) wr ∧ Below w.heap.size w wr ∧ W.heap.size ≤ wr.heap.size) (fun i _ => n - (intOf i).toNat)
    case atStart => exact ⟨0, rfl, Nat.zero_le _, by rw [ME.out]; exact LO.out, fun _ _ => rfl, HH.out.tO, HH.out.be, Nat.le_refl _⟩
    case round =>
      obtain ⟨j, rfl, hj, hO, hb, hT, hB, hz⟩ := hrel
      have HB := Lib.hid hb
      have BB := Lib.hid hB
      have OO := Lib.hid hO
      have TT := Lib.hid hT
      by_cases hjn : j < n
      · have dl : decide ((j : Int) < (n : Int)) = true := decide_eq_true (by omega)
        have i1 : (0 : Int) ≤ (j : Int) := by omega
        have i2 : (j : Int) < (n : Int) := by omega
        have x1 : IntKind.i64.wrap ((j : Int) + 1) = (j : Int) + 1 := IntWalk.i64_in _ (by omega)
        obtain ⟨g, hav, hg, lg⟩ := own_formE hO (by omega)
        subst hav
        obtain ⟨a', c', e', hI⟩ := ownStrs_in hT
        have e1 : at_ = a' := by injection e'
        subst e1
        clear e'
        have hjl : j < (tl s).length := by rw [LN.out]; exact hjn
        have tlen : (T0 (lns s)).length = (tl s).length := by rw [TD.out, List.length_map]
        obtain ⟨bt, ot, hat, lbt, hct⟩ := strsG_at hI (by omega)
        subst hat
        have kt := hct j (by omega)
        have htd : (T0 (lns s)).getD j ⟨#[]⟩ = mkS (tdL (tl s)[j]) := by rw [TD.out]; simp [List.getD, hjl]
        rw [htd] at kt
        have tsz := Nat.le_trans (td_le (tl s)[j]) (FT.out _ (List.getElem_mem hjl))
        have hne : bt ≠ g := fun e => HH.out.dj g rfl (by rw [e]; rfl)
        have PO := Lib.hid (HH.out.po.same (hb (w.heap.size + 1 + 1 + 1 + 1) (by omega)))
        have k2 := (cellG (o := 0) (hb (w.heap.size + 1 + 1) (by omega))).trans C2
        have k3 := (cellG (o := 0) (hb (w.heap.size + 1 + 1 + 1) (by omega))).trans C3
        have k5 := (cellG (o := 0) (hb (w.heap.size + 1 + 1 + 1 + 1 + 1) (by omega))).trans C5
        have l2 : w.heap.size + 1 + 1 < wr.heap.size := by omega
        have l3 : w.heap.size + 1 + 1 + 1 < wr.heap.size := by omega
        have l5 : w.heap.size + 1 + 1 + 1 + 1 + 1 < wr.heap.size := by omega
        have ml := mixE_len (tl s) j
        have GA := Lib.hid (gI_pl (tl s) seeL (tl s)[j])
        have GB := Lib.hid (gI_pl (tl s) belL (tl s)[j])
        rw [← NS.out] at GA GB
        have MX := Lib.hid (mixE_next hjl)
        have AT := Lib.hid (mixE_at hjl)
        have F2 := Lib.hid (flatE_two (ds := mixE (tl s) j) (j := j) (by omega))
        have rr1 : wr.cell? ⟨g, j * 3 + 1, none⟩ = some (.int .i64 (etAt (mixE (tl s) j) j).a) := (World.ownsRow.cellAt hO (j * 3 + 1) (by omega)).trans (flatE_get _ j (by omega)).2.1
        have rr2 : wr.cell? ⟨g, j * 3 + 2, none⟩ = some (.int .i64 (etAt (mixE (tl s) j) j).b) := (World.ownsRow.cellAt hO (j * 3 + 2) (by omega)).trans (flatE_get _ j (by omega)).2.2
        have FZ := Lib.hid (fun q => World.ownsRow.frozenAt hO q)
        have PA : Hid (∀ V, PlsO V (w.heap.size + 1 + 1 + 1 + 1) (N0 (lns s)) → Calls Tryd.prog 53 #[.string ⟨#[59, 115, 101, 101, 32]⟩, .string (mkS (tdL (tl s)[j])), .map (some (w.heap.size + 1 + 1 + 1 + 1))] V fun e w' => e = .returned (.int .i64 (gI (tl s) seeL (tl s)[j])) ∧ Below V.heap.size V w') := Lib.hid (fun V h => by rw [GA.out]; exact iPlace_any (mkS seeL) _ _ _ V h tsz)
        have PB : Hid (∀ V, PlsO V (w.heap.size + 1 + 1 + 1 + 1) (N0 (lns s)) → Calls Tryd.prog 53 #[.string ⟨#[59, 98, 101, 108, 111, 119, 32]⟩, .string (mkS (tdL (tl s)[j])), .map (some (w.heap.size + 1 + 1 + 1 + 1))] V fun e w' => e = .returned (.int .i64 (gI (tl s) belL (tl s)[j])) ∧ Below V.heap.size V w') := Lib.hid (fun V h => by rw [GB.out]; exact iPlace_any (mkS belL) _ _ _ V h tsz)
        have FE : Hid (fE (tl s) (tl s)[j] = ⟨(etAt (mixE (tl s) j) j).s, gI (tl s) seeL (tl s)[j], gI (tl s) belL (tl s)[j]⟩) := Lib.hid (by rw [AT.out]; rfl)
        clear hO hT hI hct htd tlen GA GB hB hb
        generalize gI (tl s) seeL (tl s)[j] = za at *
        generalize gI (tl s) belL (tl s)[j] = zb at *
        have hbw := cell_bw
        go_upto_region 16 with fail
        refine wp_region_last 10 (by kernel_rfl) rfl rfl (by kernel_rfl) (by kernel_rfl) rfl ?_
        simp only [List.take_succ_cons, List.take_zero]
        intro v5 h5
        have m2 := (h5.cell (p := ⟨w.heap.size + 1 + 1, 0, none⟩) l2).trans k2
        have m3 := (h5.cell (p := ⟨w.heap.size + 1 + 1 + 1, 0, none⟩) l3).trans k3
        have m5 := (h5.cell (p := ⟨w.heap.size + 1 + 1 + 1 + 1 + 1, 0, none⟩) l5).trans k5
        have mt := (h5.cell (p := ⟨bt, ot + j, none⟩) lbt).trans kt
        have mz := h5.size
        have y2 := Nat.lt_of_lt_of_le l2 mz
        have y3 := Nat.lt_of_lt_of_le l3 mz
        have y5 := Nat.lt_of_lt_of_le l5 mz
        have yt := Nat.lt_of_lt_of_le lbt mz
        have MP := Lib.hid (PO.out.below h5)
        repeat (go_big_quiet_step ((go_at_call 53; exact calls_bw (PA.out _ (PlsO.below MP.out (below_bw _ _))))))
        refine wpQuiet_nil ?_
        clear m2 m3 m5 mt mz y2 y3 y5 yt MP h5
        intro w5 h5
        have r1 := (h5.cell (p := ⟨g, j * 3 + 1, none⟩) lg).trans rr1
        have fz := (h5.frozen (p := ⟨g, j * 3 + 1, none⟩) lg).trans (FZ.out (j * 3 + 1))
        have lg5 := Nat.lt_of_lt_of_le lg h5.size
        go_simp
        simp only [Yld]
        have b6 : ∀ k, k ≠ g → k < wr.heap.size → (w5.setCell ⟨g, j * 3 + 1, none⟩ (.int .i64 za)).heap[k]? = wr.heap[k]? := fun k hk hl => (Below.heap_setCell _ _ _ _ hk).trans (Below.block h5 k hl)
        have O6 := (World.ownsRow.stored (ownsRow_belowE OO.out h5) (j * 3 + 1) (.int .i64 za)).1
        have T6 := ownsRow_setCell_other (a := ⟨g, j * 3 + 1, none⟩) (ownStrs_kept TT.out h5) (fun e => hne (Option.some.inj e)) (.int .i64 za)
        have B6 := (BB.out.trans (Below.mono h5 BB.out.size)).setCell (p := ⟨g, j * 3 + 1, none⟩) (show w.heap.size ≤ g by omega) (.int .i64 za)
        have q2 := (World.cell?_setCell_other (w := w5) (a := ⟨g, j * 3 + 1, none⟩) (v := .int .i64 za) (b := ⟨g, j * 3 + 2, none⟩) (h := by simp)).trans ((h5.cell (p := ⟨g, j * 3 + 2, none⟩) lg).trans rr2)
        have q3 : ∀ q, (w5.setCell ⟨g, j * 3 + 1, none⟩ (.int .i64 za)).frozen? ⟨g, q, none⟩ = false := fun q => by rw [World.frozen?_setCell]; exact (h5.frozen (p := ⟨g, q, none⟩) lg).trans (FZ.out q)
        have q4 : wr.heap.size ≤ (w5.setCell ⟨g, j * 3 + 1, none⟩ (.int .i64 za)).heap.size := by simp; exact h5.size
        clear r1 fz lg5 h5 rr1 FZ
        generalize w5.setCell ⟨g, j * 3 + 1, none⟩ (.int .i64 za) = w6 at *
        replace k2 := (cellG (o := 0) (b6 (w.heap.size + 1 + 1) (by omega) l2)).trans k2
        replace k3 := (cellG (o := 0) (b6 (w.heap.size + 1 + 1 + 1) (by omega) l3)).trans k3
        replace k5 := (cellG (o := 0) (b6 (w.heap.size + 1 + 1 + 1 + 1 + 1) (by omega) l5)).trans k5
        replace kt := (cellG (o := ot + j) (b6 bt hne lbt)).trans kt
        replace PO := Lib.hid (PO.out.same (b6 (w.heap.size + 1 + 1 + 1 + 1) (by omega) (by omega)))
        have H6 := Lib.hid (fun k (hk : k < w1.heap.size + 1) => (b6 k (by omega) (by omega)).trans (HB.out k hk))
        have rr2 := q2
        have FZ := Lib.hid q3
        replace l2 := Nat.lt_of_lt_of_le l2 q4
        replace l3 := Nat.lt_of_lt_of_le l3 q4
        replace l5 := Nat.lt_of_lt_of_le l5 q4
        replace lbt := Nat.lt_of_lt_of_le lbt q4
        replace lg := Nat.lt_of_lt_of_le lg q4
        have O6 := Lib.hid O6
        have T6 := Lib.hid T6
        have B6 := Lib.hid B6
        clear b6 q2 q3
        go_upto_region 17 with fail
        refine wp_region_last 10 (by kernel_rfl) rfl rfl (by kernel_rfl) (by kernel_rfl) rfl ?_
        simp only [List.take_succ_cons, List.take_zero]
        intro v7 h7
        have m2 := (h7.cell (p := ⟨w.heap.size + 1 + 1, 0, none⟩) l2).trans k2
        have m3 := (h7.cell (p := ⟨w.heap.size + 1 + 1 + 1, 0, none⟩) l3).trans k3
        have m5 := (h7.cell (p := ⟨w.heap.size + 1 + 1 + 1 + 1 + 1, 0, none⟩) l5).trans k5
        have mt := (h7.cell (p := ⟨bt, ot + j, none⟩) lbt).trans kt
        have mz := h7.size
        have y2 := Nat.lt_of_lt_of_le l2 mz
        have y3 := Nat.lt_of_lt_of_le l3 mz
        have y5 := Nat.lt_of_lt_of_le l5 mz
        have yt := Nat.lt_of_lt_of_le lbt mz
        have MP := Lib.hid (PO.out.below h7)
        repeat (go_big_quiet_step ((go_at_call 53; exact calls_bw (PB.out _ (PlsO.below MP.out (below_bw _ _))))))
        refine wpQuiet_nil ?_
        clear m2 m3 m5 mt mz y2 y3 y5 yt MP h7
        intro w7 h7
        have r1 := (h7.cell (p := ⟨g, j * 3 + 2, none⟩) lg).trans rr2
        have fz := (h7.frozen (p := ⟨g, j * 3 + 2, none⟩) lg).trans (FZ.out (j * 3 + 2))
        have lg7 := Nat.lt_of_lt_of_le lg h7.size
        go_simp
        simp only [Yld]
        have O8 := (World.ownsRow.stored (ownsRow_belowE O6.out h7) (j * 3 + 2) (.int .i64 zb)).1
        rw [F2.out, ← FE.out, MX.out] at O8
        have O8 := Lib.hid O8
        have T8 := Lib.hid (ownsRow_setCell_other (a := ⟨g, j * 3 + 2, none⟩) (ownStrs_kept T6.out h7) (fun e => hne (Option.some.inj e)) (.int .i64 zb))
        have B8 := Lib.hid ((B6.out.trans (Below.mono h7 B6.out.size)).setCell (p := ⟨g, j * 3 + 2, none⟩) (show w.heap.size ≤ g by omega) (.int .i64 zb))
        have q8 : W.heap.size ≤ (w7.setCell ⟨g, j * 3 + 2, none⟩ (.int .i64 zb)).heap.size := by simp; have := h7.size; omega
        have H8 := Lib.hid (fun k (hk : k < w1.heap.size + 1) => ((Below.heap_setCell w7 ⟨g, j * 3 + 2, none⟩ (.int .i64 zb) k (show k ≠ g by omega)).trans (Below.block h7 k (by omega))).trans (H6.out k hk))
        clear r1 fz lg7 h7 rr2 FZ k2 k3 k5 kt PO
        generalize w7.setCell ⟨g, j * 3 + 2, none⟩ (.int .i64 zb) = w8 at *
        go_wp2
        exact ⟨⟨j + 1, by go_num, hjn, O8.out, H8.out, T8.out, B8.out, q8⟩, by (simp [intOf]) <;> omega⟩
      · have e : j = n := by omega
        subst e
        have dl : decide ((j : Int) < (j : Int)) = false := by simp
        have MA : Hid (mixE (tl s) j = esI (tl s)) := Lib.hid (by rw [← LN.out]; exact mixE_all _)
        rw [MA.out] at hO OO
        have el : (esI (tl s)).length = j := by rw [← MA.out, mixE_len, LN.out]
        have OE : OwnEnts (w1.heap.size + 2) (esI (tl s)) (.slice av j cv) wr := by unfold OwnEnts; rw [el]; exact hO
        obtain ⟨a', c', e', hC⟩ := ownEnts_in OE
        have e1 : av = a' := by injection e'
        have e2 : cv = c' := by injection e'
        subst e1 e2
        clear e'
        have CI := Lib.hid (entsIn_of hC (esI_fits (by rw [LN.out]; exact sx) FT.out))
        have X := Lib.hid (fun V (h : EntsIn V av (esI (tl s))) => (show Calls Tryd.prog 54 #[.slice av j cv] V fun e w' => e = .returned (.string (cgT (esI (tl s)))) ∧ Below V.heap.size V w' by rw [← el]; exact iCgText_any av (esI (tl s)) cv V h))
        have OE := Lib.hid OE
        have er := ER.out
        have k2 := (cellG (o := 0) (hb (w.heap.size + 1 + 1) (by omega))).trans C2
        have k0 := (cellG (o := 0) (hb (w.heap.size) (by omega))).trans HH.out.c0
        have k1 := (cellG (o := 0) (hb (w.heap.size + 1) (by omega))).trans HH.out.c1
        have z0 := (frozenG (o := 0) (hb (w.heap.size) (by omega))).trans HH.out.f0
        have z1 := (frozenG (o := 0) (hb (w.heap.size + 1) (by omega))).trans HH.out.f1
        have kD := (hb w1.heap.size (by omega)).trans HK.out
        have l0 : w.heap.size < wr.heap.size := by omega
        have l1 : w.heap.size + 1 < wr.heap.size := by omega
        have l2 : w.heap.size + 1 + 1 < wr.heap.size := by omega
        have lD : w1.heap.size < wr.heap.size := by omega
        clear hO OO hC hb hT hB hz TT TS C3 C5 LO ME MA el
        generalize esI (tl s) = es at *
        generalize hT0 : cgT es = T at *
        by_cases hT : T = s
        · subst hT
          rw [if_pos ⟨sx, rfl⟩] at er
          have n1 : (T.toList == T.toList) = true := by simp
          have EQ := Lib.hid er
          clear er hT0
          go_wp2_with (go_at_call 54; refine (X.out _ CI.out).mono ?_; rintro e w4 ⟨rfl, hB⟩; have BL := Lib.hid hB; have k2 := (hB.cell (p := ⟨w.heap.size + 1 + 1, 0, none⟩) l2).trans k2; have k0 := (hB.cell (p := ⟨w.heap.size, 0, none⟩) l0).trans k0; have k1 := (hB.cell (p := ⟨w.heap.size + 1, 0, none⟩) l1).trans k1; have z0 := (hB.frozen (p := ⟨w.heap.size, 0, none⟩) l0).trans z0; have z1 := (hB.frozen (p := ⟨w.heap.size + 1, 0, none⟩) l1).trans z1; have s4 := hB.size; have l0 := Nat.lt_of_lt_of_le l0 s4; have l1 := Nat.lt_of_lt_of_le l1 s4; have l2 := Nat.lt_of_lt_of_le l2 s4; clear hB)
          have c5 : ((w4.setCell ⟨w.heap.size, 0, none⟩ (.slice av j cv)).setCell ⟨w.heap.size + 1, 0, none⟩ (.int .i64 0)).cell? ⟨w.heap.size, 0, none⟩ = some (.slice av j cv) := by
            rw [World.cell?_setCell_other (h := by simp)]
            exact World.cell?_setCell_same' _ _ _ (by rw [k0]; rfl)
          have c6 : ((w4.setCell ⟨w.heap.size, 0, none⟩ (.slice av j cv)).setCell ⟨w.heap.size + 1, 0, none⟩ (.int .i64 0)).cell? ⟨w.heap.size + 1, 0, none⟩ = some (.int .i64 0) := World.cell?_setCell_same' _ _ _ (by rw [World.cell?_setCell_other (h := by simp), k1]; rfl)
          have k9 : ((w4.setCell ⟨w.heap.size, 0, none⟩ (.slice av j cv)).setCell ⟨w.heap.size + 1, 0, none⟩ (.int .i64 0)).heap[w1.heap.size]? = some (.deferred (some [])) := (Below.heap_setCell _ _ _ _ (show w1.heap.size ≠ w.heap.size + 1 by omega)).trans ((Below.heap_setCell _ _ _ _ (show w1.heap.size ≠ w.heap.size by omega)).trans ((Below.block BL.out _ lD).trans kD))
          have BF : Below w.heap.size w ((w4.setCell ⟨w.heap.size, 0, none⟩ (.slice av j cv)).setCell ⟨w.heap.size + 1, 0, none⟩ (.int .i64 0)) := ((BB.out.trans (Below.mono BL.out BB.out.size)).setCell (p := ⟨w.heap.size, 0, none⟩) (Nat.le_refl _) _).setCell (p := ⟨w.heap.size + 1, 0, none⟩) (by simp) _
          have OF : OwnEnts (w1.heap.size + 2) es (.slice av j cv) ((w4.setCell ⟨w.heap.size, 0, none⟩ (.slice av j cv)).setCell ⟨w.heap.size + 1, 0, none⟩ (.int .i64 0)) := ownsRow_setCell_below (ownsRow_setCell_below (ownEnts_kept OE.out BL.out) (show w.heap.size < w1.heap.size + 2 by omega) _) (show w.heap.size + 1 < w1.heap.size + 2 by omega) _
          generalize (w4.setCell ⟨w.heap.size, 0, none⟩ (.slice av j cv)).setCell ⟨w.heap.size + 1, 0, none⟩ (.int .i64 0) = w9 at *
          refine ⟨by simp, .inl ⟨_, _, rfl, run_takeDeferred k9, ?_⟩⟩
          have c7 := (cellG (o := 0) (World.putObj_heap_other (w := w9) (o := .deferred none) (show w.heap.size ≠ w1.heap.size by omega))).trans c5
          have c8 := (cellG (o := 0) (World.putObj_heap_other (w := w9) (o := .deferred none) (show w.heap.size + 1 ≠ w1.heap.size by omega))).trans c6
          refine ⟨.tuple #[(.slice av j cv), (.int .i64 0)], ?_, (.slice av j cv), by rw [EQ.out]; rfl, ?_, BF.trans (below_put (by omega))⟩
          · simp [results, Tryd.results20, go_sem, c7, c8]
          · rw [EQ.out]; exact ownEnts_weaken (ownsRow_putObj OF _ k9 rfl) (by omega)
        · rw [if_neg (fun q => hT q.2)] at er
          have n1 := str_eqX hT
          have EQ := Lib.hid er
          clear er hT0
          go_wp2_with (go_at_call 54; refine (X.out _ CI.out).mono ?_; rintro e w4 ⟨rfl, hB⟩; have BL := Lib.hid hB; have k2 := (hB.cell (p := ⟨w.heap.size + 1 + 1, 0, none⟩) l2).trans k2; have k0 := (hB.cell (p := ⟨w.heap.size, 0, none⟩) l0).trans k0; have k1 := (hB.cell (p := ⟨w.heap.size + 1, 0, none⟩) l1).trans k1; have z0 := (hB.frozen (p := ⟨w.heap.size, 0, none⟩) l0).trans z0; have z1 := (hB.frozen (p := ⟨w.heap.size + 1, 0, none⟩) l1).trans z1; have s4 := hB.size; have l0 := Nat.lt_of_lt_of_le l0 s4; have l1 := Nat.lt_of_lt_of_le l1 s4; have l2 := Nat.lt_of_lt_of_le l2 s4; clear hB)
          have c5 : ((w4.setCell ⟨w.heap.size, 0, none⟩ (.slice none 0 0)).setCell ⟨w.heap.size + 1, 0, none⟩ (.int .i64 5)).cell? ⟨w.heap.size, 0, none⟩ = some (.slice none 0 0) := by
            rw [World.cell?_setCell_other (h := by simp)]
            exact World.cell?_setCell_same' _ _ _ (by rw [k0]; rfl)
          have c6 : ((w4.setCell ⟨w.heap.size, 0, none⟩ (.slice none 0 0)).setCell ⟨w.heap.size + 1, 0, none⟩ (.int .i64 5)).cell? ⟨w.heap.size + 1, 0, none⟩ = some (.int .i64 5) := World.cell?_setCell_same' _ _ _ (by rw [World.cell?_setCell_other (h := by simp), k1]; rfl)
          have k9 : ((w4.setCell ⟨w.heap.size, 0, none⟩ (.slice none 0 0)).setCell ⟨w.heap.size + 1, 0, none⟩ (.int .i64 5)).heap[w1.heap.size]? = some (.deferred (some [])) := (Below.heap_setCell _ _ _ _ (show w1.heap.size ≠ w.heap.size + 1 by omega)).trans ((Below.heap_setCell _ _ _ _ (show w1.heap.size ≠ w.heap.size by omega)).trans ((Below.block BL.out _ lD).trans kD))
          have BF : Below w.heap.size w ((w4.setCell ⟨w.heap.size, 0, none⟩ (.slice none 0 0)).setCell ⟨w.heap.size + 1, 0, none⟩ (.int .i64 5)) := ((BB.out.trans (Below.mono BL.out BB.out.size)).setCell (p := ⟨w.heap.size, 0, none⟩) (Nat.le_refl _) _).setCell (p := ⟨w.heap.size + 1, 0, none⟩) (by simp) _
          generalize (w4.setCell ⟨w.heap.size, 0, none⟩ (.slice none 0 0)).setCell ⟨w.heap.size + 1, 0, none⟩ (.int .i64 5) = w9 at *
          refine ⟨by simp, .inl ⟨_, _, rfl, run_takeDeferred k9, ?_⟩⟩
          have c7 := (cellG (o := 0) (World.putObj_heap_other (w := w9) (o := .deferred none) (show w.heap.size ≠ w1.heap.size by omega))).trans c5
          have c8 := (cellG (o := 0) (World.putObj_heap_other (w := w9) (o := .deferred none) (show w.heap.size + 1 ≠ w1.heap.size by omega))).trans c6
          refine ⟨.tuple #[(.slice none 0 0), (.int .i64 5)], ?_, (.slice none 0 0), by rw [EQ.out]; rfl, ?_, BF.trans (below_put (by omega))⟩
          · simp [results, Tryd.results20, go_sem, c7, c8]
          · rw [EQ.out]; exact ownE_nil _ _
end Go.Proofs.YtppjmngnjdeigaaDoor
