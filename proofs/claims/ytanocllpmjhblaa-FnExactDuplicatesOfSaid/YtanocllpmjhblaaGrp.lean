/- A map's entry looked for: it reads the map's block alone, so two worlds with the same block give the same answer. -/
import Derived.Test.YtanocllpmjhblaaAlk
import Derived.WideKeyEntry
import Derived.Maps.OwnRows
namespace Go.Proofs.Ytanocllpmjhblaa
open Go.ChangeShapes Go.WideShapes Go.ChangeAt Go.RowKit Go.MapKept Go.ChangeMaps Go.WideElems

theorem nodup_at {α β : Type} {f : α → β} : ∀ {l : List α} {i j : Nat} {x y : α}, (l.map f).Nodup → l[i]? = some x → l[j]? = some y → f x = f y → i = j
  | [], i, _, _, _, _, h, _, _ => by simp at h
  | a :: r, 0, 0, _, _, _, _, _, _ => rfl
  | a :: r, 0, j + 1, x, y, hn, hx, hy, e => by
    simp only [List.map_cons, List.nodup_cons] at hn
    simp at hx hy
    subst hx
    exact absurd (List.mem_map.2 ⟨y, List.mem_of_getElem? hy, e.symm⟩) hn.1
  | a :: r, i + 1, 0, x, y, hn, hx, hy, e => by
    simp only [List.map_cons, List.nodup_cons] at hn
    simp at hx hy
    subst hy
    exact absurd (List.mem_map.2 ⟨x, List.mem_of_getElem? hx, e⟩) hn.1
  | a :: r, i + 1, j + 1, x, y, hn, hx, hy, e => by
    simp only [List.map_cons, List.nodup_cons] at hn
    have := nodup_at (i := i) (j := j) (x := x) (y := y) hn.2 (by simpa using hx) (by simpa using hy) e
    omega

theorem entry_world {P : Program} {w u : World} {t k e : TypeId} {b : Nat} {es : Array MapEntry} {clock : Nat} (K : WideMaps.KeyLaw P k) (ht : P.underlying t = some (.map k e)) {z : Value} (hz : ∀ v : World, (zeroValue e).run P v = .ok z v) (hw : w.heap[b]? = some (.map es clock)) (hu : u.heap[b]? = some (.map es clock))
    (hk : ∀ x ∈ es.toList, ∃ l, keyOf P k x.key = some l) (hn : (es.toList.map (·.key)).Nodup) {key : Value} {kl : Lit} (hkey : keyOf P k key = some kl) :
    ∃ r es1 clock1, (Instr.mapEntry t (.map (some b)) key).run P w = .ok r (setBlock w b (.map es1 clock1)) ∧ (Instr.mapEntry t (.map (some b)) key).run P u = .ok r (setBlock u b (.map es1 clock1)) := by
  rcases K.find w hkey es.toList hk with ⟨h1, h2⟩ | ⟨j, e0, h1, h2, h3⟩ <;> rcases K.find u hkey es.toList hk with ⟨g1, g2⟩ | ⟨i, e1, g1, g2, g3⟩
  · refine ⟨.tuple #[z, goInt clock], es.push ⟨key, z, clock⟩, clock + 1, ?_, ?_⟩
    · simp [Instr.mapEntry, run_underlying ht, MapKept.run_getObj_map hw, K.check w false hkey, h1, hz, MapKept.run_setObj_map _ hw, Result.andThen, setBlock]
    · simp [Instr.mapEntry, run_underlying ht, MapKept.run_getObj_map hu, K.check u false hkey, g1, hz, MapKept.run_setObj_map _ hu, Result.andThen, setBlock]
  · exact absurd g3 (h2 _ (List.mem_of_getElem? g2))
  · exact absurd h3 (g2 _ (List.mem_of_getElem? h2))
  · have ij := nodup_at hn h2 g2 (h3.trans g3.symm)
    subst ij
    have e2 : e0 = e1 := by rw [h2] at g2; exact Option.some.inj g2
    subst e2
    have hj : es[j]? = some e0 := by simpa using h2
    refine ⟨.tuple #[e0.val, goInt e0.born], es.modify j (fun x => { x with key := key }), clock, ?_, ?_⟩
    · simp [Instr.mapEntry, run_underlying ht, MapKept.run_getObj_map hw, K.check w false hkey, h1, hj, h3, K.stays w hkey, MapKept.run_setObj_map _ hw, Result.andThen, setBlock]
    · simp [Instr.mapEntry, run_underlying ht, MapKept.run_getObj_map hu, K.check u false hkey, g1, hj, h3, K.stays u hkey, MapKept.run_setObj_map _ hu, Result.andThen, setBlock]

theorem setBlock_inj {w : World} {b : Nat} {o o' p : Obj} (hb : w.heap[b]? = some p) (h : setBlock w b o = setBlock w b o') : o = o' := by
  have hl := (Array.getElem?_eq_some_iff.1 hb).1
  have e := congrArg (fun x : World => x.heap[b]?) h
  simp [setBlock, hl] at e
  exact e
theorem setBlock_two (w : World) (b : Nat) (o o' : Obj) : setBlock (setBlock w b o) b o' = setBlock w b o' := by
  unfold setBlock; simp

/-- 'm[k] = append(m[k], ..)' on a map of slices of the call's own, where the entry is looked for once: the look-up's part, and the way back. -/
theorem groups_entry {H : Type} {P : Program} {w : World} {t k E e : TypeId} {q : IntKind} {base b n : Nat} {D : DataW H} (h : w.ownsGroups P k base e q b n D) (K : WideMaps.KeyLaw P k) (ht : P.underlying t = some (.map k E)) (hz : ∀ v : World, (zeroValue E).run P v = .ok (.slice none 0 0) v) (hn : n < maxLen) {key : Value} {kl : Lit} (hkey : keyOf P k key = some kl) :
    ∃ (v : Value) (zs : List Int) (st : Nat) (es1 : Array MapEntry) (clock1 : Nat), (Instr.mapEntry t (.map (some b)) key).run P w = .ok (.tuple #[v, goInt st]) (setBlock w b (.map es1 clock1)) ∧ D.atKey kl .nil = rowDatum q v zs ∧ w.ownsInts base e q v zs ∧ zs.length ≤ n ∧
      ∀ (w1 : World) (v' : Value) (zs' : List Int), (setBlock w b (.map es1 clock1)).grownBy w1 v.ownBlock → w1.ownsInts base e q v' zs' → zs'.length ≤ n + 1 → (v'.ownBlock = v.ownBlock ∨ ∃ g, v'.ownBlock = some g ∧ w.heap.size ≤ g) →
        ∃ w2, (Instr.entryStore t (.map (some b)) (goInt st) v').run P w1 = .ok () w2 ∧ w2.ownsGroups P k base e q b (n + 1) (D.put kl (rowDatum q v' zs')) ∧ w1.grownBy w2 (some b) := by
  obtain ⟨v, zs, hlook, hat, hown, hlen, hback⟩ := h.at (Maps.Keyed.of_law K) ht (hz w) hn hkey
  obtain ⟨es, clock, hb, F, hs, hD, hbb, hl, hap⟩ := h
  obtain ⟨v0, st, es1, clock1, hm, hv0, hfin⟩ := entry_then_store K ht hz hb F hkey
  have hvv : v0 = v := by
    rcases Maps.fit_look false (Maps.Keyed.of_law K) ht (hz w) hb F hkey with ⟨hrun, hno, _⟩ | ⟨e0, y, hm0, h3, hrun, _⟩
    · rw [hlook] at hrun
      simp at hrun
      rcases hv0 with ⟨e1, he1, h4, _⟩ | ⟨_, h5⟩
      · exact absurd h4 (hno e1 he1)
      · rw [h5, hrun]
    · rw [hlook] at hrun
      simp at hrun
      rcases hv0 with ⟨e1, he1, h4, h5⟩ | ⟨hno, _⟩
      · obtain ⟨i, hi⟩ := List.getElem?_of_mem he1
        obtain ⟨j, hj⟩ := List.getElem?_of_mem hm0
        have ij := nodup_at F.stamped.2.2 hi hj (h4.trans h3.symm)
        subst ij
        rw [hi] at hj
        rw [h5, hrun, Option.some.inj hj]
      · exact absurd h3 (hno e0 hm0)
  subst hvv
  have hbl : b < w.heap.size := (Array.getElem?_eq_some_iff.1 hb).1
  refine ⟨v0, zs, st, es1, clock1, hm, hat, hown, hlen, fun w1 v' zs' hg hown' hl' hloc => ?_⟩
  have hvb : v0.ownBlock ≠ some b := fun e1 => by have := (hown.1.lt b e1).1; omega
  have hb1 : w1.heap[b]? = some (.map es1 clock1) := (hg.block b (by simpa [setBlock] using hbl) (fun e1 => hvb e1.symm)).trans (heap_setBlock_same hb _)
  have hbu : (setBlock w1 b (.map es clock)).heap[b]? = some (.map es clock) := heap_setBlock_same hb1 _
  have g1 : w1.grownBy (setBlock w1 b (.map es clock)) (some b) := ⟨rfl, rfl, rfl, by simp [setBlock], fun i _ hi => heap_setBlock_other hb1 _ (fun e1 => hi (by rw [e1]))⟩
  have gu : w.grownBy (setBlock w1 b (.map es clock)) v0.ownBlock := by
    refine ⟨hg.os, hg.tape, hg.output, by simpa [setBlock] using hg.size, fun i hi hne => ?_⟩
    by_cases eb : i = b
    · subst eb; rw [hbu, hb]
    · rw [heap_setBlock_other hb1 _ eb, hg.block i (by simpa [setBlock] using hi) hne, heap_setBlock_other hb _ eb]
  have ou := hown'.kept g1 (by
    cases hx : v'.ownBlock with
    | none => exact Or.inl rfl
    | some g => exact Or.inr (fun e1 => by have := (hown'.1.lt g hx).1; cases e1; omega))
  obtain ⟨w2, hup, hgr, hg2⟩ := hback _ v' zs' gu ou hl' hloc
  obtain ⟨vu, su, esu, clu, hmu, _, hfu⟩ := entry_then_store K ht hz hbu F hkey
  obtain ⟨r, esr, clr, hr1, hr2⟩ := entry_world K ht hz hb hbu F.keys F.stamped.2.2 hkey
  rw [hm] at hr1
  rw [hmu] at hr2
  have a1 := setBlock_inj hb (Result.ok.inj hr1).2
  have a2 := setBlock_inj hbu (Result.ok.inj hr2).2
  have a3 := (Result.ok.inj hr1).1.trans (Result.ok.inj hr2).1.symm
  have a4 := a1.trans a2.symm
  have es_ : su = st := by
    have := congrArg (fun x : Value => x) a3
    simp [goInt] at this
    have := this.2
    omega
  injection a4 with a5 a6
  subst es_
  obtain ⟨es', clock', hst, hup2⟩ := hfu w1 v' (by rw [← a5, ← a6]; exact hb1)
  rw [hup2] at hup
  have e2 := (Result.ok.inj hup).2
  rw [setBlock_two] at e2
  refine ⟨w2, by rw [hst, e2], hgr, ?_⟩
  rw [← e2]
  exact ⟨rfl, rfl, rfl, by simp [setBlock], fun i _ hi => heap_setBlock_other hb1 _ (fun e1 => hi (by rw [e1]))⟩
end Go.Proofs.Ytanocllpmjhblaa
