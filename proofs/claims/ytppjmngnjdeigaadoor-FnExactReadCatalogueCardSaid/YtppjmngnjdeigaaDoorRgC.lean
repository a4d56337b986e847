/- The text of a catalogue read back: mathematics; the model's l05Index (LnP, RgM, RgN, RgX in one). -/
import Derived.Test.YtppjmngnjdeigaaDoorLnI
import Derived.Test.YtppjmngnjdeigaaDoorCgT
import Derived.Test.YtppjmngnjdeigaaDoorSplS
namespace Go.Proofs.YtppjmngnjdeigaaDoor
open Go.ChangeShapes Go.WideShapes Go.ChangeAt Go.RowKit

theorem joinC_last (c : UInt8) (q : List UInt8) : ∀ xs : List (List UInt8), joinC c (xs ++ [q]) = joinC c (xs ++ [[]]) ++ q
  | [] => by simp [joinC]
  | a :: r => by rw [List.cons_append, List.cons_append, joinC_cons c a (by simp), joinC_cons c a (by simp), joinC_last c q r, List.append_assoc]; rfl
/-- The lines without their ends. -/
def tl (s : ByteArray) : List ByteArray := (lns s).map trimB
theorem tl_pieces (s : ByteArray) : ((pieces 10 s).getLast? = some ByteArray.empty ∧ pieces 10 s = tl s ++ [ByteArray.empty]) ∨ ((pieces 10 s).getLast? ≠ some ByteArray.empty ∧ pieces 10 s = tl s) := by
  obtain ⟨z, hz, hh⟩ := lines_pieces s.data.toList [] (by simp)
  have ht : tl s = ((lnB [] s.data.toList).map trimL).map mkS := by
    unfold tl lns
    rw [List.map_map, List.map_map]
    rfl
  have hp : (pieces 10 s).getLast? = some (mkS z) := by unfold pieces; rw [List.getLast?_map, hz]; rfl
  rcases hh with ⟨h1, h2⟩ | ⟨h1, h2⟩
  · left
    subst h1
    refine ⟨hp, ?_⟩
    unfold pieces
    rw [h2, List.map_append, ht]; rfl
  · right
    refine ⟨?_, by unfold pieces; rw [h2, ht]⟩
    rw [hp]
    intro e
    apply h1
    have := congrArg (fun p : ByteArray => p.data.toList) (Option.some.inj e)
    exact this

/-! ### Bytes of names -/
theorem mem_joinC (c : UInt8) : ∀ {ps : List (List UInt8)} {x : UInt8}, x ∈ joinC c ps → x = c ∨ ∃ p ∈ ps, x ∈ p
  | [], x, h => by simp [joinC] at h
  | [a], x, h => .inr ⟨a, List.mem_cons_self, h⟩
  | a :: b :: r, x, h => by
    rw [joinC, List.mem_append, List.mem_cons] at h
    rcases h with h | h | h
    · exact .inr ⟨a, List.mem_cons_self, h⟩
    · exact .inl h
    · rcases mem_joinC c h with h | ⟨p, hp, hx⟩
      · exact .inl h
      · exact .inr ⟨p, List.mem_cons_of_mem _ hp, hx⟩
theorem wordOk_byte {p : ByteArray} (h : wordOk p = true) {c : UInt8} (hc : c ∈ p.data.toList) : c ∈ plainSet.data.toList := by
  unfold wordOk at h
  rw [Bool.and_eq_true] at h
  have h2 := h.2
  unfold allIn at h2
  simpa using List.all_eq_true.1 h2 c hc
theorem plain_no : ∀ c ∈ plainSet.data.toList, c ≠ 59 ∧ c ≠ 10 := by decide
theorem ename_byte {s : ByteArray} (h : ename s = true) {c : UInt8} (hc : c ∈ s.data.toList) : c ≠ 59 ∧ c ≠ 10 := by
  rw [pieces_join 32 s] at hc
  rcases mem_joinC 32 hc with rfl | ⟨p, hp, hx⟩
  · decide
  · obtain ⟨q, hq, rfl⟩ := List.mem_map.1 hp
    unfold ename at h
    rw [Bool.and_eq_true] at h
    exact plain_no c (wordOk_byte (List.all_eq_true.1 h.2 q hq) hx)

/-! ### A line: the name, and what stands behind it -/
def nmB (t : ByteArray) : ByteArray := mkS (t.data.toList.takeWhile (fun c => c != 59))
def tdL (t : ByteArray) : List UInt8 := t.data.toList.dropWhile (fun c => c != 59)
def seeL : List UInt8 := [59, 115, 101, 101, 32]
def belL : List UInt8 := [59, 98, 101, 108, 111, 119, 32]
/-- What stands behind the name of an entry. -/
def bhL (es : List Et) (a b : Int) : List UInt8 := if a = -1 then (if b = -1 then [] else belL ++ (etAt es b.toNat).s.data.toList) else seeL ++ (etAt es a.toNat).s.data.toList
theorem behind_data (es : List Et) (a b : Int) (s : ByteArray) : (behindB es a b s).data.toList = s.data.toList ++ bhL es a b := by
  unfold behindB bhL
  split
  · split
    · rw [List.append_nil]
    · simp [belowSignB, belL]
  · simp [seeSignB, seeL]
def lineE (es : List Et) (i : Nat) : ByteArray := behindB es (etAt es i).a (etAt es i).b (etAt es i).s
def linesE (es : List Et) (n : Nat) : List ByteArray := (List.range n).map (lineE es)
theorem linesE_len (es : List Et) (n : Nat) : (linesE es n).length = n := by unfold linesE; simp
theorem linesE_next (es : List Et) (n : Nat) : linesE es (n + 1) = linesE es n ++ [lineE es n] := by unfold linesE; rw [List.range_succ, List.map_append]; rfl
theorem linesE_at (es : List Et) {n i : Nat} (h : i < n) : (linesE es n).getD i ByteArray.empty = lineE es i := by unfold linesE; simp [List.getD, h]
theorem line_data (es : List Et) (i : Nat) : (lineE es i).data.toList = (etAt es i).s.data.toList ++ bhL es (etAt es i).a (etAt es i).b := behind_data _ _ _ _
theorem bhL_head (es : List Et) (a b : Int) : bhL es a b = [] ∨ ∃ r, bhL es a b = 59 :: r := by
  unfold bhL
  split
  · split
    · exact .inl rfl
    · exact .inr ⟨_, rfl⟩
  · exact .inr ⟨_, rfl⟩
theorem line_nm {es : List Et} {i : Nat} (h : ename (etAt es i).s = true) : nmB (lineE es i) = (etAt es i).s := by
  unfold nmB
  rw [line_data, List.takeWhile_append_of_pos (fun c hc => by simpa using (ename_byte h hc).1)]
  rcases bhL_head es (etAt es i).a (etAt es i).b with e | ⟨r, e⟩ <;> rw [e] <;> simp [mkS_data]
theorem line_td {es : List Et} {i : Nat} (h : ename (etAt es i).s = true) : tdL (lineE es i) = bhL es (etAt es i).a (etAt es i).b := by
  unfold tdL
  rw [line_data, List.dropWhile_append_of_pos (fun c hc => by simpa using (ename_byte h hc).1)]
  rcases bhL_head es (etAt es i).a (etAt es i).b with e | ⟨r, e⟩ <;> rw [e] <;> simp
theorem bhL_byte {es : List Et} (hk : catOk es = true) {i : Nat} (hi : i < es.length) {c : UInt8} (hc : c ∈ bhL es (etAt es i).a (etAt es i).b) : c ≠ 10 := by
  have nm : ∀ j, j < es.length → ename (etAt es j).s = true := fun j hj => (eTo_at (catOk_to hk) hj).1
  have O := cat_one hk hi
  unfold EtOne at O
  unfold bhL at hc
  split at hc
  · split at hc
    · cases hc
    · rcases List.mem_append.1 hc with hc | hc
      · exact (by decide : ∀ c ∈ belL, c ≠ 10) c hc
      · exact (ename_byte (nm _ (by omega)) hc).2
  · rcases List.mem_append.1 hc with hc | hc
    · exact (by decide : ∀ c ∈ seeL, c ≠ 10) c hc
    · exact (ename_byte (nm _ (by omega)) hc).2
theorem line_free {es : List Et} (hk : catOk es = true) {i : Nat} (hi : i < es.length) : (10 : UInt8) ∉ (lineE es i).data.toList := by
  intro hc
  rw [line_data] at hc
  rcases List.mem_append.1 hc with hc | hc
  · exact (ename_byte (eTo_at (catOk_to hk) hi).1 hc).2 rfl
  · exact bhL_byte hk hi hc rfl

/-! ### The lines of a catalogue's text -/
theorem joinC_snocE (c : UInt8) (q : List UInt8) : ∀ xs : List (List UInt8), joinC c ((xs ++ [q]) ++ [[]]) = joinC c (xs ++ [[]]) ++ (q ++ [c])
  | [] => by simp [joinC]
  | a :: r => by rw [List.cons_append, List.cons_append, joinC_cons c a (by simp), List.cons_append, joinC_cons c a (by simp), joinC_snocE c q r]; simp
theorem cgN_join (es : List Et) : ∀ n, (cgN es n).data.toList = joinC 10 ((linesE es n).map (fun p => p.data.toList) ++ [[]])
  | 0 => rfl
  | n + 1 => by
    rw [linesE_next, List.map_append, List.map_cons, List.map_nil, joinC_snocE, ← cgN_join es n, line_data, cgN_next]
    simp [behind_data]
theorem cg_pieces {es : List Et} (hk : catOk es = true) : pieces 10 (cgN es es.length) = linesE es es.length ++ [ByteArray.empty] := by
  refine pieces_of (by rw [cgN_join, List.map_append]; rfl) (by simp) fun p hp => ?_
  rcases List.mem_append.1 hp with hp | hp
  · obtain ⟨i, hi, rfl⟩ := List.mem_map.1 hp
    exact line_free hk (List.mem_range.1 hi)
  · rw [List.mem_singleton.1 hp]
    exact List.not_mem_nil
theorem cg_tl {es : List Et} (hk : catOk es = true) : tl (cgN es es.length) = linesE es es.length := by
  have h := cg_pieces hk
  rcases tl_pieces (cgN es es.length) with ⟨_, h2⟩ | ⟨h1, _⟩
  · rw [h] at h2
    exact (List.append_cancel_right h2).symm
  · rw [h, List.getLast?_append] at h1
    exact absurd rfl h1
theorem cg_drop {es : List Et} (hk : catOk es = true) : (pieces 10 (cgN es es.length)).dropLast = linesE es es.length := by
  rw [cg_pieces hk, List.dropLast_concat]

/-! ### The program's way -/
/-- The last one of the first n names that is x; -1 if none is. -/
def lastN (ns : List ByteArray) (x : ByteArray) : Nat → Int
  | 0 => -1
  | n + 1 => if ns.getD n ByteArray.empty = x then (n : Int) else lastN ns x n
theorem lastN_hit {ns : List ByteArray} {x : ByteArray} {i : Nat} (hx : ns.getD i ByteArray.empty = x) : ∀ n, i < n → (∀ k, i < k → k < n → ns.getD k ByteArray.empty ≠ x) → lastN ns x n = (i : Int)
  | 0, h, _ => absurd h (Nat.not_lt_zero _)
  | n + 1, h, hn => by
    rw [lastN]
    by_cases e : i = n
    · subst e; rw [if_pos hx]
    · rw [if_neg (hn n (by omega) (by omega)), lastN_hit hx n (by omega) (fun k h1 h2 => hn k h1 (by omega))]
theorem lastN_lt (ns : List ByteArray) (x : ByteArray) : ∀ n, -1 ≤ lastN ns x n ∧ lastN ns x n < n
  | 0 => ⟨by rw [lastN]; omega, by rw [lastN]; omega⟩
  | n + 1 => by
    have := lastN_lt ns x n
    rw [lastN]
    split <;> omega
/-- The place of the name that is told behind a sign. -/
def gI (L : List ByteArray) (sg : List UInt8) (t : ByteArray) : Int := if sg.isPrefixOf (tdL t) = true then lastN (L.map nmB) (mkS ((tdL t).drop sg.length)) L.length else -1
def esI (L : List ByteArray) : List Et := L.map fun t => ⟨nmB t, gI L seeL t, gI L belL t⟩
def rgI (s : ByteArray) : Option (List Et) := if (tl s).length ≤ 40 ∧ cgT (esI (tl s)) = s then some (esI (tl s)) else none

/-! ### The model's way -/
/-- The first one of the first n names that is x; -2 if none is. -/
def fstN (ns : List ByteArray) (x : ByteArray) : Nat → Int
  | 0 => -2
  | n + 1 => if fstN ns x n ≠ -2 then fstN ns x n else if ns.getD n ByteArray.empty = x then (n : Int) else -2
theorem fstN_none {ns : List ByteArray} {x : ByteArray} : ∀ n, (∀ k, k < n → ns.getD k ByteArray.empty ≠ x) → fstN ns x n = -2
  | 0, _ => rfl
  | n + 1, h => by rw [fstN, fstN_none n (fun k hk => h k (by omega)), if_neg (by simp), if_neg (h n (by omega))]
theorem fstN_hit {ns : List ByteArray} {x : ByteArray} {i : Nat} (hx : ns.getD i ByteArray.empty = x) (hn : ∀ k, k < i → ns.getD k ByteArray.empty ≠ x) : ∀ n, i < n → fstN ns x n = (i : Int)
  | 0, h => absurd h (Nat.not_lt_zero _)
  | n + 1, h => by
    rw [fstN]
    by_cases e : i = n
    · subst e; rw [fstN_none i hn, if_neg (by simp), if_pos hx]
    · rw [fstN_hit hx hn n (by omega), if_pos (by omega)]
def seeS : List UInt8 := [115, 101, 101, 32]
def belS : List UInt8 := [98, 101, 108, 111, 119, 32]
def gS (L : List ByteArray) (sg : List UInt8) (t : ByteArray) : Int :=
  if (pieces 59 t).length = 2 ∧ sg.length < ((pieces 59 t).getD 1 ByteArray.empty).size ∧ ((pieces 59 t).getD 1 ByteArray.empty).data.toList.take sg.length = sg then fstN (L.map nmB) (mkS (((pieces 59 t).getD 1 ByteArray.empty).data.toList.drop sg.length)) L.length else -1
def esS (L : List ByteArray) : List Et := L.map fun t => ⟨nmB t, gS L seeS t, gS L belS t⟩
def rgS (s : ByteArray) : Option (List Et) := if catOk (esS (pieces 10 s).dropLast) = true ∧ cgN (esS (pieces 10 s).dropLast) (esS (pieces 10 s).dropLast).length = s then some (esS (pieces 10 s).dropLast) else none
theorem spl_head (c : UInt8) : ∀ l acc : List UInt8, (spl c acc l).getD 0 [] = acc ++ l.takeWhile (fun x => x != c)
  | [], acc => by rw [spl]; simp
  | x :: xs, acc => by
    rw [spl]
    by_cases h : x = c
    · rw [if_pos h, h]; simp
    · rw [if_neg h, spl_head c xs, List.takeWhile_cons_of_pos (by simpa using h)]; simp
theorem pieces_head (t : ByteArray) : (pieces 59 t).getD 0 ByteArray.empty = nmB t := by
  have h := spl_head 59 t.data.toList []
  unfold pieces nmB
  cases e : spl 59 [] t.data.toList with
  | nil => exact absurd e (spl_ne _ _ _)
  | cons a r =>
    rw [e] at h
    have h2 : a = t.data.toList.takeWhile (fun x => x != 59) := by simpa using h
    simp [h2]

/-! ### What is read from the lines of a valid catalogue -/
theorem enames_ne {es : List Et} : ∀ {n i j : Nat}, eTo es n = true → j < i → i < n → (etAt es j).s ≠ (etAt es i).s
  | n + 1, i, j, h, hj, hi => by
    have h' := h
    unfold eTo at h
    simp only [Bool.and_eq_true, Bool.not_eq_true'] at h
    by_cases e : i = n
    · subst e
      intro hs
      have := ehasN_mono (cs := es) (k := j) (s := (etAt es i).s) (by rw [hs, ebytes_beq]; simp) i hj
      rw [this] at h
      exact absurd h.2.2 (by simp)
    · exact enames_ne h.1 hj (by omega)
theorem lines_names {es : List Et} (hk : catOk es = true) (i : Nat) (hi : i < es.length) : ((linesE es es.length).map nmB).getD i ByteArray.empty = (etAt es i).s := by
  have := line_nm (eTo_at (catOk_to hk) hi).1
  unfold linesE
  simp [List.getD, hi, this]
theorem last_name {es : List Et} (hk : catOk es = true) {i : Nat} (hi : i < es.length) : lastN ((linesE es es.length).map nmB) (etAt es i).s es.length = (i : Int) :=
  lastN_hit (lines_names hk i hi) _ hi fun k h1 h2 => by rw [lines_names hk k h2]; exact (enames_ne (catOk_to hk) h1 h2).symm
theorem fst_name {es : List Et} (hk : catOk es = true) {i : Nat} (hi : i < es.length) : fstN ((linesE es es.length).map nmB) (etAt es i).s es.length = (i : Int) :=
  fstN_hit (lines_names hk i hi) (fun k h1 => by rw [lines_names hk k (by omega)]; exact enames_ne (catOk_to hk) h1 hi) _ hi
theorem pre_self (p q : List UInt8) : p.isPrefixOf (p ++ q) = true := by rw [List.isPrefixOf_iff_prefix]; exact List.prefix_append _ _
theorem gI_see {es : List Et} (hk : catOk es = true) {i : Nat} (hi : i < es.length) : gI (linesE es es.length) seeL (lineE es i) = (etAt es i).a := by
  unfold gI
  rw [line_td (eTo_at (catOk_to hk) hi).1, linesE_len]
  have O := cat_one hk hi
  unfold bhL
  rcases O with ⟨ha, hb⟩ | ⟨ha, hb, h1, h2⟩ | ⟨ha, h1, h2, hb⟩
  · rw [ha, hb]; rfl
  · rw [ha, if_pos rfl, if_neg hb, if_neg (by simp [seeL, belL])]
  · rw [if_neg ha, if_pos (pre_self _ _), List.drop_left, mkS_data, last_name hk (by omega)]; omega
theorem gI_bel {es : List Et} (hk : catOk es = true) {i : Nat} (hi : i < es.length) : gI (linesE es es.length) belL (lineE es i) = (etAt es i).b := by
  unfold gI
  rw [line_td (eTo_at (catOk_to hk) hi).1, linesE_len]
  have O := cat_one hk hi
  unfold bhL
  rcases O with ⟨ha, hb⟩ | ⟨ha, hb, h1, h2⟩ | ⟨ha, h1, h2, hb⟩
  · rw [ha, hb]; rfl
  · rw [ha, if_pos rfl, if_neg hb, if_pos (pre_self _ _), List.drop_left, mkS_data, last_name hk (by omega)]; omega
  · rw [if_neg ha, hb, if_neg (by simp [seeL, belL])]
theorem lines_back {es : List Et} (f : ByteArray → Et) (h : ∀ i, i < es.length → f (lineE es i) = etAt es i) : (linesE es es.length).map f = es := by
  unfold linesE
  rw [List.map_map]
  refine List.ext_getElem (by simp) fun i h1 h2 => ?_
  rw [List.getElem_map, List.getElem_range, Function.comp_apply, h i h2]
  unfold etAt
  simp [List.getD, h2]
theorem esI_lines {es : List Et} (hk : catOk es = true) : esI (linesE es es.length) = es :=
  lines_back _ fun i hi => by rw [line_nm (eTo_at (catOk_to hk) hi).1, gI_see hk hi, gI_bel hk hi]
theorem name_free59 {s : ByteArray} (h : ename s = true) : (59 : UInt8) ∉ s.data.toList := fun hc => (ename_byte h hc).1 rfl
theorem line_pieces0 {es : List Et} {i : Nat} (h : ename (etAt es i).s = true) (hb : bhL es (etAt es i).a (etAt es i).b = []) : pieces 59 (lineE es i) = [(etAt es i).s] :=
  pieces_of (by rw [line_data, hb, List.append_nil]; rfl) (by simp) fun p hp => by rw [List.mem_singleton.1 hp]; exact name_free59 h
theorem line_pieces2 {es : List Et} {i : Nat} {r : List UInt8} (h : ename (etAt es i).s = true) (hb : bhL es (etAt es i).a (etAt es i).b = 59 :: r) (hr : (59 : UInt8) ∉ r) : pieces 59 (lineE es i) = [(etAt es i).s, mkS r] :=
  pieces_of (by rw [line_data, hb]; rfl) (by simp) fun p hp => by
    rcases List.mem_cons.1 hp with rfl | hp
    · exact name_free59 h
    · rw [List.mem_singleton.1 hp]; exact hr
theorem name_some {s : ByteArray} (h : ename s = true) : 0 < s.data.toList.length := by
  by_cases k : s.size < 1
  · rw [ename_none k] at h; cases h
  · have := Lib.size_eq s; omega
theorem gS_hit {L : List ByteArray} {t a : ByteArray} {sg q : List UInt8} (hp : pieces 59 t = [a, mkS (sg ++ q)]) (hq : 0 < q.length) : gS L sg t = fstN (L.map nmB) (mkS q) L.length := by
  unfold gS
  rw [hp]
  have e : ([a, mkS (sg ++ q)].getD 1 ByteArray.empty) = mkS (sg ++ q) := rfl
  rw [e, data_mkS, List.take_left, List.drop_left, if_pos ⟨rfl, by show sg.length < (sg ++ q).toArray.size; simp; omega, rfl⟩]
theorem gS_miss {L : List ByteArray} {t a : ByteArray} {sg r : List UInt8} (hp : pieces 59 t = [a, mkS r]) (hq : r.take sg.length ≠ sg) : gS L sg t = -1 := by
  unfold gS
  rw [hp]
  have e : ([a, mkS r].getD 1 ByteArray.empty) = mkS r := rfl
  rw [e, data_mkS, if_neg (fun h => hq h.2.2)]
theorem gS_none {L : List ByteArray} {t a : ByteArray} {sg : List UInt8} (hp : pieces 59 t = [a]) : gS L sg t = -1 := by
  unfold gS
  rw [hp, if_neg (fun h => by simp at h)]
theorem gS_both {es : List Et} (hk : catOk es = true) {i : Nat} (hi : i < es.length) : gS (linesE es es.length) seeS (lineE es i) = (etAt es i).a ∧ gS (linesE es es.length) belS (lineE es i) = (etAt es i).b := by
  have nm : ∀ j, j < es.length → ename (etAt es j).s = true := fun j hj => (eTo_at (catOk_to hk) hj).1
  have O := cat_one hk hi
  rcases O with ⟨ha, hb⟩ | ⟨ha, hb, h1, h2⟩ | ⟨ha, h1, h2, hb⟩
  · have hp := line_pieces0 (nm i hi) (by unfold bhL; rw [ha, hb]; rfl)
    rw [gS_none hp, gS_none hp, ha, hb]; exact ⟨rfl, rfl⟩
  · have hj : (etAt es i).b.toNat < es.length := by omega
    have hp := line_pieces2 (r := belS ++ (etAt es (etAt es i).b.toNat).s.data.toList) (nm i hi) (by unfold bhL; rw [ha, if_pos rfl, if_neg hb]; rfl) (fun hc => by
      rcases List.mem_append.1 hc with hc | hc
      · exact absurd hc (by decide)
      · exact name_free59 (nm _ hj) hc)
    rw [gS_miss hp (by simp [seeS, belS]), gS_hit hp (name_some (nm _ hj)), mkS_data, linesE_len, fst_name hk hj, ha]
    exact ⟨rfl, by omega⟩
  · have hj : (etAt es i).a.toNat < es.length := by omega
    have hp := line_pieces2 (r := seeS ++ (etAt es (etAt es i).a.toNat).s.data.toList) (nm i hi) (by unfold bhL; rw [if_neg ha]; rfl) (fun hc => by
      rcases List.mem_append.1 hc with hc | hc
      · exact absurd hc (by decide)
      · exact name_free59 (nm _ hj) hc)
    rw [gS_hit hp (name_some (nm _ hj)), gS_miss hp (by simp [seeS, belS]), mkS_data, linesE_len, fst_name hk hj, hb]
    exact ⟨by omega, rfl⟩
theorem esS_lines {es : List Et} (hk : catOk es = true) : esS (linesE es es.length) = es :=
  lines_back _ fun i hi => by rw [line_nm (eTo_at (catOk_to hk) hi).1, (gS_both hk hi).1, (gS_both hk hi).2]

/-! ### The two ways -/
theorem cgT_yes {es : List Et} (h : catOk es = true) : cgT es = cgN es es.length := by unfold cgT; rw [if_pos h]
theorem catOk_nil : catOk [] = true := cat_yes (by simp) rfl fun j hj => absurd hj (Nat.not_lt_zero _)
theorem rgI_hit {es : List Et} (hk : catOk es = true) : rgI (cgN es es.length) = some es := by
  unfold rgI
  rw [cg_tl hk, esI_lines hk, linesE_len, if_pos ⟨catOk_40 hk, cgT_yes hk⟩]
theorem rgS_hit {es : List Et} (hk : catOk es = true) : rgS (cgN es es.length) = some es := by
  unfold rgS
  rw [cg_drop hk, esS_lines hk, if_pos ⟨hk, rfl⟩]
theorem rgS_some {s : ByteArray} {es : List Et} (h : rgS s = some es) : catOk es = true ∧ cgN es es.length = s := by
  unfold rgS at h
  split at h
  · rename_i hc
    injection h with h
    rw [h] at hc
    exact hc
  · cases h
theorem rgI_some {s : ByteArray} {es : List Et} (h : rgI s = some es) : catOk es = true ∧ cgN es es.length = s := by
  unfold rgI at h
  split at h
  · rename_i hc
    injection h with h
    by_cases hk : catOk es = true
    · refine ⟨hk, ?_⟩
      rw [← cgT_yes hk, ← h]; exact hc.2
    · exfalso
      have e : s = ByteArray.empty := by
        rw [← hc.2, h]
        unfold cgT
        rw [if_neg hk]
      subst e
      have e2 : tl ByteArray.empty = [] := by unfold tl; rw [lns_empty rfl]; rfl
      rw [e2] at h
      apply hk
      rw [← h]
      exact catOk_nil
  · cases h
theorem rg_same (s : ByteArray) : rgI s = rgS s := by
  cases hI : rgI s with
  | some es =>
    obtain ⟨h1, h2⟩ := rgI_some hI
    rw [← h2, rgS_hit h1]
  | none =>
    cases hS : rgS s with
    | none => rfl
    | some es =>
      obtain ⟨h1, h2⟩ := rgS_some hS
      rw [← h2, rgI_hit h1] at hI
      cases hI

theorem strsG_at {w : World} {a : Option Addr} {zs : List ByteArray} (h : StrsIn w a zs) (h0 : 0 < zs.length) : ∃ b off, a = some ⟨b, off, none⟩ ∧ b < w.heap.size ∧ ∀ i, i < zs.length → w.cell? ⟨b, off + i, none⟩ = some (.string (zs.getD i ⟨#[]⟩)) := by
  obtain ⟨b, off, rfl, hb, _⟩ := h 0 h0
  refine ⟨b, off, rfl, hb, fun i hi => ?_⟩
  obtain ⟨b', off', e, _, hc⟩ := h i hi
  cases e
  exact hc
theorem fstN_app (ns ms : List ByteArray) (x : ByteArray) : ∀ n, n ≤ ns.length → fstN (ns ++ ms) x n = fstN ns x n
  | 0, _ => rfl
  | n + 1, h => by
    have e : (ns ++ ms).getD n ByteArray.empty = ns.getD n ByteArray.empty := by
      unfold List.getD
      rw [List.getElem?_append_left (by omega)]
    rw [fstN, fstN, fstN_app ns ms x n (by omega), e]
theorem fstN_at {ps : List ByteArray} {x : ByteArray} {j : Nat} (h0 : fstN (ps.map nmB) x j = -2) (hj : j < ps.length) : fstN (ps.map nmB) x (j + 1) = if nmB (ps.getD j ⟨#[]⟩) = x then (j : Int) else -2 := by
  have e : (ps.map nmB).getD j ByteArray.empty = nmB (ps.getD j ⟨#[]⟩) := by simp [List.getD, hj]
  rw [fstN, h0, if_neg (by simp), e]
theorem fstN_stay {ns : List ByteArray} {x : ByteArray} {j : Nat} (h : fstN ns x j ≠ -2) : ∀ n, j ≤ n → fstN ns x n = fstN ns x j
  | 0, hj => by rw [show j = 0 by omega]
  | n + 1, hj => by
    by_cases e : j = n + 1
    · rw [e]
    · rw [fstN, fstN_stay h n (by omega), if_pos h]
theorem str_eqX {x y : ByteArray} (h : x ≠ y) : (x.toList == y.toList) = false := by
  rw [beq_eq_false_iff_ne, Lib.toList_data, Lib.toList_data]
  exact fun e => h (data_inj e)

set_option maxRecDepth 100000 in
set_option maxHeartbeats 3200000 in
theorem sIndex_any (a : Option Addr) (ps : List ByteArray) (c : Nat) (x : ByteArray) (w : World) (hI : StrsIn w a ps) (hn1 : 1 ≤ ps.length) (hn : ps.length ≤ 1048577) (hfit : ∀ i, i < ps.length → (ps.getD i ⟨#[]⟩).size ≤ 1048576) :
    Calls Tryd.prog 47 #[.slice a ps.length c, .string x] w fun e w' => e = .returned (.int .i64 (fstN (ps.map nmB) x (ps.length - 1))) ∧ Below w.heap.size w w' := by
  obtain ⟨bq, oq, rfl, hlt, hc⟩ := strsG_at hI hn1
  have AT := Lib.hid fun j (h0 : fstN (ps.map nmB) x j = -2) (hj : j < ps.length) => fstN_at h0 hj
  have ST := Lib.hid fun (j : Nat) (h0 : fstN (ps.map nmB) x j ≠ -2) (hj : j ≤ ps.length - 1) => fstN_stay h0 (ps.length - 1) hj
  have Z := Lib.hid (show fstN (ps.map nmB) x 0 = -2 from rfl)
  have FT := Lib.hid hfit
  have DD := Lib.hid hc
  have LT := Lib.hid hlt
  generalize fstN (ps.map nmB) x = F at *
  obtain ⟨n, hN⟩ : ∃ n, ps.length = n := ⟨_, rfl⟩
  rw [hN] at hn1 hn AT ST FT DD ⊢
  have HN := Lib.hid hN
  clear hI hfit hc hlt hN
  go_enter Tryd.func47, Tryd.ntmps47
  go_wp2
  go_loopw [5] (fun i wr => ∃ j : Nat, i = .int .i64 (j : Int) ∧ j + 1 ≤ n ∧ F j = -2 ∧ Below w.heap.size w wr) (fun i _ => n - (intOf i).toNat)
  case atStart => exact ⟨0, rfl, by omega, Z.out, Below.refl _ _⟩
  case round =>
    obtain ⟨j, rfl, hj, hF, hB⟩ := hrel
    have BB := Lib.hid hB
    have FF := Lib.hid hF
    have x1 : IntKind.i64.wrap ((j : Int) + 1) = (j : Int) + 1 := IntWalk.i64_in _ (by omega)
    clear hB hF
    by_cases hjn : j + 1 < n
    · have dl : decide ((j : Int) + 1 < (n : Int)) = true := decide_eq_true (by omega)
      have c1 : wr.cell? ⟨bq, oq + j, none⟩ = some (.string (ps.getD j ⟨#[]⟩)) := (BB.out.cell (p := ⟨bq, oq + j, none⟩) LT.out).trans (DD.out j (by omega))
      have l1 := Nat.lt_of_lt_of_le LT.out BB.out.size
      have fw := FT.out j (by omega)
      have j1 : (0 : Int) ≤ (j : Int) := by omega
      have j2 : (j : Int) < (n : Int) := by omega
      have A1 := Lib.hid (AT.out j FF.out (by omega))
      generalize ps.getD j ⟨#[]⟩ = y at *
      have SP := fun W => sSplitAt_any y 59 (by omega) W
      have hne := pieces_ne 59 y
      have hd := pieces_head y
      generalize pieces 59 y = qs at *
      obtain ⟨q, hq⟩ : ∃ q, qs.length = q := ⟨_, rfl⟩
      have HQ := Lib.hid hq
      have q1 : 0 < q := by rw [← hq]; exact List.length_pos_iff.2 hne
      have q2 : (0 : Int) < (q : Int) := by omega
      have HD := Lib.hid (show qs.getD 0 ⟨#[]⟩ = nmB y from hd)
      have SP := Lib.hid SP
      clear hne hd hq
      generalize nmB y = ny at *
      by_cases he : ny = x
      · subst he
        have n1 : (ny.toList == ny.toList) = true := by simp
        have EQ := Lib.hid (show F (j + 1) = (j : Int) by rw [A1.out, if_pos rfl])
        go_wp2_with (go_at_call 24; refine (SP.out _).mono ?_; rintro e w1 ⟨v, rfl, hO, hB⟩; obtain ⟨a1, k1, hv, hI⟩ := ownStrs_in hO; rw [HQ.out] at hv; subst hv; obtain ⟨b1, o1, rfl, hb1, h0⟩ := hI 0 (by rw [HQ.out]; omega); rw [HD.out, Nat.add_zero] at h0; have B1 := Lib.hid (BB.out.trans (Below.mono hB BB.out.size)); clear hO hB hI)
        go_returns
        exact ⟨by rw [ST.out (j + 1) (by rw [EQ.out]; omega) (by omega), EQ.out]; rfl, B1.out⟩
      · have n1 := str_eqX he
        have EQ := Lib.hid (show F (j + 1) = -2 by rw [A1.out, if_neg he])
        go_wp2_with (go_at_call 24; refine (SP.out _).mono ?_; rintro e w1 ⟨v, rfl, hO, hB⟩; obtain ⟨a1, k1, hv, hI⟩ := ownStrs_in hO; rw [HQ.out] at hv; subst hv; obtain ⟨b1, o1, rfl, hb1, h0⟩ := hI 0 (by rw [HQ.out]; omega); rw [HD.out, Nat.add_zero] at h0; have B1 := Lib.hid (BB.out.trans (Below.mono hB BB.out.size)); clear hO hB hI)
        exact ⟨⟨j + 1, by go_num, by omega, EQ.out, B1.out⟩, by (simp [intOf]) <;> omega⟩
    · have dl : decide ((j : Int) + 1 < (n : Int)) = false := decide_eq_false (by omega)
      go_wp2
      go_returns
      exact ⟨by rw [show n - 1 = j by omega, FF.out]; rfl, BB.out⟩
end Go.Proofs.YtppjmngnjdeigaaDoor
