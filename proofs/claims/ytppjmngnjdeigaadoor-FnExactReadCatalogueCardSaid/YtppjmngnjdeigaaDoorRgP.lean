/- Contracts: strings.Cut at a semicolon; names and their places in a map; impl.placeBehind. -/
import Derived.Test.YtppjmngnjdeigaaDoorRgC
import Derived.Test.YtppjmngnjdeigaaDoorSeq
import Derived.Maps.OwnOps
import Derived.Maps.OwnSet
import Derived.Maps.Views
import Derived.StringKeys
import Derived.Deep.DeepCutAuto
namespace Go.Proofs.YtppjmngnjdeigaaDoor
open Go.ChangeShapes Go.WideShapes Go.ChangeAt Go.RowKit

/-! ### strings.Cut at a semicolon -/
theorem takeWhile_take {c : UInt8} : ∀ (l : List UInt8) (k : Nat), l[k]? = some c → c ∉ l.take k → l.takeWhile (fun x => x != c) = l.take k
  | [], k, h, _ => by simp at h
  | x :: xs, 0, h, _ => by
    simp at h
    rw [List.takeWhile_cons_of_neg (by simp [h]), List.take_zero]
  | x :: xs, k + 1, h, hn => by
    have hx : x ≠ c := fun e => hn (by rw [List.take_succ_cons, e]; exact List.mem_cons_self)
    rw [List.takeWhile_cons_of_pos (by simpa using hx), takeWhile_take xs k (by simpa using h) (fun e => hn (by rw [List.take_succ_cons]; exact List.mem_cons_of_mem _ e)), List.take_succ_cons]
theorem dropWhile_drop {c : UInt8} : ∀ (l : List UInt8) (k : Nat), l[k]? = some c → c ∉ l.take k → l.dropWhile (fun x => x != c) = l.drop k
  | [], k, h, _ => by simp at h
  | x :: xs, 0, h, _ => by
    simp at h
    rw [List.dropWhile_cons_of_neg (by simp [h]), List.drop_zero]
  | x :: xs, k + 1, h, hn => by
    have hx : x ≠ c := fun e => hn (by rw [List.take_succ_cons, e]; exact List.mem_cons_self)
    rw [List.dropWhile_cons_of_pos (by simpa using hx), dropWhile_drop xs k (by simpa using h) (fun e => hn (by rw [List.take_succ_cons]; exact List.mem_cons_of_mem _ e)), List.drop_succ_cons]
theorem takeWhile_all {c : UInt8} : ∀ l : List UInt8, c ∉ l → l.takeWhile (fun x => x != c) = l
  | [], _ => rfl
  | x :: xs, h => by
    have hx : x ≠ c := fun e => h (by rw [e]; exact List.mem_cons_self)
    rw [List.takeWhile_cons_of_pos (by simpa using hx), takeWhile_all xs (fun e => h (List.mem_cons_of_mem _ e))]
theorem nm_none {s : ByteArray} (h : (59 : UInt8) ∉ s.data.toList) : nmB s = s := by
  unfold nmB
  rw [takeWhile_all _ h, mkS_data]
theorem nm_at {s : ByteArray} {k : Nat} (hk : s.data.toList[k]? = some 59) (hn : (59 : UInt8) ∉ s.data.toList.take k) : nmB s = s.extract 0 k := by
  unfold nmB
  rw [takeWhile_take _ k hk hn, Lib.extract_eq]; rfl
theorem nm_td (t : ByteArray) : tdL t = t.data.toList.drop (nmB t).size := by
  unfold tdL nmB
  have h := List.takeWhile_append_dropWhile (p := fun c : UInt8 => c != 59) (l := t.data.toList)
  have e : (mkS (t.data.toList.takeWhile fun c => c != 59)).size = (t.data.toList.takeWhile fun c => c != 59).length := List.size_toArray
  rw [e]
  generalize t.data.toList.takeWhile (fun c => c != 59) = a at *
  generalize t.data.toList.dropWhile (fun c => c != 59) = b at *
  rw [← h, List.drop_left]
theorem nm_le (t : ByteArray) : (nmB t).size ≤ t.size := by
  have h : (mkS (t.data.toList.takeWhile fun c => c != 59)).size = (t.data.toList.takeWhile fun c => c != 59).length := List.size_toArray
  unfold nmB
  rw [h]
  have := List.Sublist.length_le (List.takeWhile_sublist (l := t.data.toList) (fun c : UInt8 => c != 59))
  have h3 : t.data.toList.length = t.size := Array.length_toList
  omega
def CutC (a b : ByteArray) (m : Bool) (W : World) (e : Ending) (w' : World) : Prop := e = .returned (.tuple #[.string a, .string b, .bool m]) ∧ Below W.heap.size W w'
theorem liteC_none (s : ByteArray) (h : (59 : UInt8) ∉ s.data.toList) (w : World) :
    Calls Tryd.prog 84 #[.string s, .string ⟨#[59]⟩] w (CutC s ⟨#[]⟩ false w) := by
  have V := Lib.hid fun W => Any.stringslite_Index_one { Tryd.lays143 with } s 59 W
  rcases ib_spec s.data.toList 59 with ⟨hi, hn⟩ | ⟨k, hi, hk, hg, hn⟩
  · rw [hi] at V
    clear h
    go_enter Tryd.func84, Tryd.ntmps84
    go_wp2_with (go_at_call 108; refine (V.out _).mono ?_; rintro e w1 ⟨rfl, rfl⟩)
    go_returns
    exact ⟨rfl, Below.refl _ _⟩
  · exact absurd (List.mem_of_getElem? hg) h
theorem liteC_some (s : ByteArray) (k : Nat) (hi : Lib.indexByte s.data.toList 59 = (k : Int)) (hk : k < s.size) (hs : s.size ≤ 1048576) (w : World) :
    Calls Tryd.prog 84 #[.string s, .string ⟨#[59]⟩] w (CutC (s.extract 0 k) (s.extract (k + 1) s.size) true w) := by
  have V := Lib.hid fun W => Any.stringslite_Index_one { Tryd.lays143 with } s 59 W
  rw [hi] at V
  have kn : decide ((0 : Int) ≤ (k : Int)) = true := by simp
  have kw1 : IntKind.i64.wrap ((k : Int) + 1) = ((k + 1 : Nat) : Int) := by rw [Int.natCast_succ]; exact IntWalk.i64_in _ (by omega)
  have sz1 : (ByteArray.mk #[59]).size = 1 := rfl
  have hbw := cell_bw
  clear hi
  go_enter Tryd.func84, Tryd.ntmps84
  go_wp2_with (go_at_call 108; refine (V.out _).mono ?_; rintro e w1 ⟨rfl, rfl⟩)
  refine region_bw (by kernel_rfl) (by kernel_rfl) ?_
  repeat (go_big_quiet_step (fail))
  refine wpQuiet_nil ?_; intro wq hq; replace hq := below_of_bw hq; obtain ⟨qc, qf, qz⟩ := bcell hq
  go_wp2
  go_returns
  exact ⟨rfl, (by repeat' (first | (with_reducible exact Below.refl _ _) | (with_reducible assumption) | (with_reducible refine below_drewN ?_ _) | (with_reducible refine Below.drew ?_) | (with_reducible refine below_new ?_ _) | (with_reducible refine below_next ?_ (by with_reducible assumption)) | (with_reducible refine Below.setCell ?_ ?_ _) | go_size))⟩
theorem cutC_any (s : ByteArray) (hs : s.size ≤ 1048576) : ∃ b m, ∀ W, Calls Tryd.prog 52 #[.string s, .string ⟨#[59]⟩] W (CutC (nmB s) b m W) := by
  rcases ib_spec s.data.toList 59 with ⟨hi, hn⟩ | ⟨k, hi, hk, hg, hn⟩
  · refine ⟨⟨#[]⟩, false, fun W => ?_⟩
    have V := Lib.hid fun W => liteC_none s hn W
    rw [nm_none hn]
    clear hi hn
    go_enter Tryd.func52, Tryd.ntmps52
    go_wp2_with (go_at_call 84; refine (V.out _).mono ?_; rintro e w1 ⟨rfl, hB⟩; have BB := Lib.hid hB; clear hB)
    go_returns
    exact ⟨rfl, BB.out⟩
  · have hk2 : k < s.size := by rw [Array.length_toList] at hk; exact hk
    refine ⟨s.extract (k + 1) s.size, true, fun W => ?_⟩
    have V := Lib.hid fun W => liteC_some s k hi hk2 hs W
    rw [nm_at hg hn]
    clear hi hg hn hk hk2
    go_enter Tryd.func52, Tryd.ntmps52
    go_wp2_with (go_at_call 84; refine (V.out _).mono ?_; rintro e w1 ⟨rfl, hB⟩; have BB := Lib.hid hB; clear hB)
    go_returns
    exact ⟨rfl, BB.out⟩

/-! ### Names and their places in a map -/
def kN (s : ByteArray) : Lit := .string s.data.toList
theorem kN_inj {s t : ByteArray} (h : kN s = kN t) : s = t := by
  unfold kN at h
  injection h with h
  exact data_inj h
theorem kN_lit (s : ByteArray) : WideAt.IsKeyLit (kN s) := trivial
def dP (ns : List ByteArray) : Nat → DataW Unit
  | 0 => .map []
  | n + 1 => (dP ns n).put (kN (ns.getD n ByteArray.empty)) (.lit (.int .i64 (n : Int)))
theorem dP_tidy (ns : List ByteArray) : ∀ n, Maps.Tidy (dP ns n)
  | 0 => Maps.tidy_empty
  | n + 1 => (dP_tidy ns n).put (kN_lit _) _
theorem dP_at (ns : List ByteArray) (x : ByteArray) : ∀ n, (dP ns n).atKey (kN x) (.lit (.int .i64 0)) = .lit (.int .i64 (if lastN ns x n = -1 then 0 else lastN ns x n))
  | 0 => rfl
  | n + 1 => by
    unfold dP
    rw [lastN]
    by_cases e : ns.getD n ByteArray.empty = x
    · rw [e, Maps.atKey_put_same (dP_tidy ns n).isMap (kN_lit _), if_pos rfl, if_neg (by omega)]
    · rw [Maps.atKey_put_other (fun h => e (kN_inj h).symm), dP_at ns x n, if_neg e]
theorem dP_has (ns : List ByteArray) (x : ByteArray) : ∀ n, Maps.has (dP ns n) (kN x) = !(decide (lastN ns x n = -1))
  | 0 => rfl
  | n + 1 => by
    unfold dP
    rw [lastN]
    by_cases e : ns.getD n ByteArray.empty = x
    · rw [e, Maps.has_put_same (dP_tidy ns n).isMap (kN_lit _), if_pos rfl, decide_eq_false (by omega)]; rfl
    · rw [Maps.has_put_other (fun h => e (kN_inj h).symm), dP_has ns x n, if_neg e]
theorem dP_app (ns : List ByteArray) (x : ByteArray) : ∀ n, n ≤ ns.length → dP (ns ++ [x]) n = dP ns n
  | 0, _ => rfl
  | n + 1, h => by
    have e : (ns ++ [x]).getD n ByteArray.empty = ns.getD n ByteArray.empty := by
      unfold List.getD
      rw [List.getElem?_append_left (by omega)]
    unfold dP
    rw [dP_app ns x n (by omega), e]
/-- A map of the call's own from names to the places where they stood last. -/
def PlsO (w : World) (b : Nat) (ns : List ByteArray) : Prop := w.ownsMap Tryd.prog 9 (plainElem Tryd.prog 2) b ns.length (dP ns ns.length)
theorem PlsO.below {w w' : World} {b : Nat} {ns : List ByteArray} (h : PlsO w b ns) (hb : Below w.heap.size w w') : PlsO w' b ns := by
  have hl := Go.World.ownsMap.lt h
  obtain ⟨es, clock, hc, F, hs, hD⟩ := h
  exact ⟨es, clock, (hb.block b hl).trans hc, F, hs, hD⟩
section
variable {P : Program} (w : World) {ops : Array Oper} {rest : List Oper} {o : Oper} {a : Act} {Q : Exit → Act → World → Prop}
theorem wpList_lookup_pl (hg : o.guard = none) (m x : Operand) (t : TypeId) (hop : o.op = Op.lookup t m x true)
    (k e : TypeId) (hk : P.underlying k = some .string) (ht : P.underlying t = some (.map k e)) (he : P.underlying e = some (.int .i64)) (hz : (zeroValue e).run P w = .ok (.int .i64 0) w) (b n : Nat) (D : DataW Unit)
    (hm : a.eval m = .map (some b)) (hown : w.ownsMap P k (plainElem P e) b n D) (s : ByteArray) (hx : a.eval x = .string s) (hkey : keyOf P k (.string s) = some (kN s)) (c : Int) (u : Bool) (hat : D.atKey (kN s) (.lit (.int .i64 0)) = .lit (.int .i64 c)) (hh : Maps.has D (kN s) = u)
    (hK : wpList P ops Q rest (a.put o.dst (.tuple #[.int .i64 c, .bool u])) w) :
    wpList P ops Q (o :: rest) a w :=
  wpList_lookup_own_ok_int w hg m x t hop k e .i64 (Maps.string_keyed hk) ht he hz b n D hm hown (.string s) (kN s) hx hkey (fun c' h1 _ => by
    rw [hat] at h1
    injection h1 with h1
    injection h1 with _ h1
    subst h1
    rw [hh]
    exact hK)
end
/-- The place of the name that is told behind a sign. -/
def plI (ns : List ByteArray) (sg told : ByteArray) : Int := if Lib.hasPrefix told.data.toList sg.data.toList = true then lastN ns (mkS (Lib.trimPrefix told.data.toList sg.data.toList)) ns.length else -1
set_option maxRecDepth 100000 in
set_option maxHeartbeats 1600000 in
theorem iPlace_any (sg told : ByteArray) (ns : List ByteArray) (b : Nat) (w : World) (hM : PlsO w b ns) (hs : told.size ≤ 1048576) :
    Calls Tryd.prog 53 #[.string sg, .string told, .map (some b)] w fun e w' => e = .returned (.int .i64 (plI ns sg told)) ∧ Below w.heap.size w w' := by
  have V := fun W => Any.strings_CutPrefix Tryd.lays103 told sg W
  have M := Lib.hid hM
  have q1 := dP_at ns (mkS (Lib.trimPrefix told.data.toList sg.data.toList)) ns.length
  have q2 := dP_has ns (mkS (Lib.trimPrefix told.data.toList sg.data.toList)) ns.length
  have hsz : (mkS (Lib.trimPrefix told.data.toList sg.data.toList)).size ≤ maxLen := by
    have : (mkS (Lib.trimPrefix told.data.toList sg.data.toList)).size = (Lib.trimPrefix told.data.toList sg.data.toList).length := List.size_toArray
    rw [this]
    have h2 : (Lib.trimPrefix told.data.toList sg.data.toList).length ≤ told.data.toList.length := by
      unfold Lib.trimPrefix
      split
      · rw [List.length_drop]; omega
      · exact Nat.le_refl _
    have h3 : told.data.toList.length = told.size := Array.length_toList
    unfold maxLen
    omega
  have K := Lib.hid (show keyOf Tryd.prog 9 (.string (mkS (Lib.trimPrefix told.data.toList sg.data.toList))) = some (kN (mkS (Lib.trimPrefix told.data.toList sg.data.toList))) from Go.WideMaps.keyOf_string_mk Tryd.underlying9 hsz)
  change (∀ W, Calls Tryd.prog 85 #[.string told, .string sg] W fun e w' => e = .returned (.tuple #[.string (mkS (Lib.trimPrefix told.data.toList sg.data.toList)), .bool (Lib.hasPrefix told.data.toList sg.data.toList)]) ∧ w' = W) at V
  unfold plI
  clear hsz hM hs
  generalize mkS (Lib.trimPrefix told.data.toList sg.data.toList) = q at *
  have hz : (zeroValue 2).run Tryd.prog w = .ok (.int .i64 0) w := by first | rfl | simp [zeroValue, Tryd.zeroValue2]
  generalize Lib.hasPrefix told.data.toList sg.data.toList = hp at *
  by_cases hl : lastN ns q ns.length = -1
  · rw [if_pos hl] at q1
    rw [hl, decide_eq_true rfl] at q2
    have Q1 := Lib.hid q1
    have Q2 := Lib.hid (show Maps.has (dP ns ns.length) (kN q) = false from q2)
    have V := Lib.hid V
    rw [hl]
    clear q1 q2 hl
    cases hp
    · go_enter Tryd.func53, Tryd.ntmps53
      go_wp2_with (first
        | (go_at_call 85; refine (V.out _).mono ?_; rintro e w1 ⟨rfl, rfl⟩)
        | (at_lookup; refine wpList_lookup_pl _ rfl _ _ 85 rfl 9 2 Tryd.underlying9 Tryd.underlying85 Tryd.underlying2 hz _ _ _ rfl M.out q rfl K.out _ _ Q1.out Q2.out ?_))
      go_returns
      exact ⟨rfl, Below.refl _ _⟩
    · go_enter Tryd.func53, Tryd.ntmps53
      go_wp2_with (first
        | (go_at_call 85; refine (V.out _).mono ?_; rintro e w1 ⟨rfl, rfl⟩)
        | (at_lookup; refine wpList_lookup_pl _ rfl _ _ 85 rfl 9 2 Tryd.underlying9 Tryd.underlying85 Tryd.underlying2 hz _ _ _ rfl M.out q rfl K.out _ _ Q1.out Q2.out ?_))
      go_returns
      exact ⟨rfl, Below.refl _ _⟩
  · rw [if_neg hl] at q1
    rw [decide_eq_false hl] at q2
    have Q1 := Lib.hid q1
    have Q2 := Lib.hid (show Maps.has (dP ns ns.length) (kN q) = true from q2)
    have V := Lib.hid V
    clear q1 q2 hl
    generalize lastN ns q ns.length = z at *
    cases hp
    · go_enter Tryd.func53, Tryd.ntmps53
      go_wp2_with (first
        | (go_at_call 85; refine (V.out _).mono ?_; rintro e w1 ⟨rfl, rfl⟩)
        | (at_lookup; refine wpList_lookup_pl _ rfl _ _ 85 rfl 9 2 Tryd.underlying9 Tryd.underlying85 Tryd.underlying2 hz _ _ _ rfl M.out q rfl K.out _ _ Q1.out Q2.out ?_))
      go_returns
      exact ⟨rfl, Below.refl _ _⟩
    · go_enter Tryd.func53, Tryd.ntmps53
      go_wp2_with (first
        | (go_at_call 85; refine (V.out _).mono ?_; rintro e w1 ⟨rfl, rfl⟩)
        | (at_lookup; refine wpList_lookup_pl _ rfl _ _ 85 rfl 9 2 Tryd.underlying9 Tryd.underlying85 Tryd.underlying2 hz _ _ _ rfl M.out q rfl K.out _ _ Q1.out Q2.out ?_))
      go_returns
      exact ⟨rfl, Below.refl _ _⟩
end Go.Proofs.YtppjmngnjdeigaaDoor
