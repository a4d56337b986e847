/- The numbers that follow each other come to each one: a lies in what 1664525 a + 1013904223, modulo 2 to the power 32, makes of every number. -/
import Derived.Test.YtanocllpmjhblaaBit
import Derived.Test.YtanocllpmjhblaaMath
namespace Go.Proofs.Ytanocllpmjhblaa
open Go.ChangeShapes Go.WideShapes Go.ChangeAt Go.RowKit

def lc (a : Int) : Int := (1664525 * a + 1013904223) % 4294967296
def lci : Nat → Int → Int
  | 0, a => a
  | n + 1, a => lc (lci n a)
theorem lc_in (a : Int) : 0 ≤ lc a ∧ lc a < 4294967296 := by unfold lc; omega
theorem lci_in (n : Nat) (a : Int) (h : 0 ≤ a ∧ a < 4294967296) : 0 ≤ lci n a ∧ lci n a < 4294967296 := by
  cases n with
  | zero => exact h
  | succ n => exact lc_in _
theorem lci_add (n m : Nat) (a : Int) : lci (n + m) a = lci n (lci m a) := by
  induction n with
  | zero => rw [Nat.zero_add]; rfl
  | succ n ih => rw [Nat.succ_add]; show lc (lci (n + m) a) = lc (lci n (lci m a)); rw [ih]

/-- After n steps: A a + C. -/
def Lin (n : Nat) (A C : Int) : Prop := ∀ a, 0 ≤ a → a < 4294967296 → lci n a = (A * a + C) % 4294967296
theorem lin_one : Lin 1 1664525 1013904223 := fun _ _ _ => rfl
theorem lin_double {n : Nat} {A C : Int} (A' C' : Int) (h : Lin n A C) (hA : (A * A) % 4294967296 = A') (hC : (A * C + C) % 4294967296 = C') : Lin (n + n) A' C' := fun a h0 h1 => by
  rw [lci_add, h a h0 h1, h _ (by omega) (by omega), ← hA, ← hC]
  have e1 : (A * ((A * a + C) % 4294967296) + C) % 4294967296 = (A * (A * a + C) + C) % 4294967296 := by
    rw [Int.add_emod, Int.mul_emod, Int.emod_emod_of_dvd _ (Int.dvd_refl _), ← Int.mul_emod, ← Int.add_emod]
  have e2 : ((A * A) % 4294967296 * a + (A * C + C) % 4294967296) % 4294967296 = (A * A * a + (A * C + C)) % 4294967296 := by
    rw [Int.add_emod, Int.mul_emod, Int.emod_emod_of_dvd _ (Int.dvd_refl _), Int.emod_emod_of_dvd _ (Int.dvd_refl _), ← Int.mul_emod, ← Int.add_emod]
  rw [e1, e2]
  congr 1
  rw [Int.mul_add, Int.mul_assoc, Int.add_assoc]
theorem lin_65536 : Lin 65536 1338245121 3903127552 := by
  have h1 : Lin 2 389569705 1196435762 := lin_double (n := 1) _ _ lin_one (by kernel_rfl) (by kernel_rfl)
  have h2 : Lin 4 158984081 2868466484 := lin_double (n := 2) _ _ h1 (by kernel_rfl) (by kernel_rfl)
  have h3 : Lin 8 3934847009 2748932008 := lin_double (n := 4) _ _ h2 (by kernel_rfl) (by kernel_rfl)
  have h4 : Lin 16 2001863745 2210837584 := lin_double (n := 8) _ _ h3 (by kernel_rfl) (by kernel_rfl)
  have h5 : Lin 32 666245249 95141024 := lin_double (n := 16) _ _ h4 (by kernel_rfl) (by kernel_rfl)
  have h6 : Lin 64 667185409 1956956480 := lin_double (n := 32) _ _ h5 (by kernel_rfl) (by kernel_rfl)
  have h7 : Lin 128 2305417729 2065617536 := lin_double (n := 64) _ _ h6 (by kernel_rfl) (by kernel_rfl)
  have h8 : Lin 256 1045939201 43164928 := lin_double (n := 128) _ _ h7 (by kernel_rfl) (by kernel_rfl)
  have h9 : Lin 512 1254066177 1585007104 := lin_double (n := 256) _ _ h8 (by kernel_rfl) (by kernel_rfl)
  have h10 : Lin 1024 3451850753 1648530432 := lin_double (n := 512) _ _ h9 (by kernel_rfl) (by kernel_rfl)
  have h11 : Lin 2048 2088640513 1506093056 := lin_double (n := 1024) _ _ h10 (by kernel_rfl) (by kernel_rfl)
  have h12 : Lin 4096 2096906241 143282176 := lin_double (n := 2048) _ _ h11 (by kernel_rfl) (by kernel_rfl)
  have h13 : Lin 8192 167280641 1695850496 := lin_double (n := 4096) _ _ h12 (by kernel_rfl) (by kernel_rfl)
  have h14 : Lin 16384 1408303105 438910976 := lin_double (n := 8192) _ _ h13 (by kernel_rfl) (by kernel_rfl)
  have h15 : Lin 32768 2816606209 1951563776 := lin_double (n := 16384) _ _ h14 (by kernel_rfl) (by kernel_rfl)
  exact lin_double (n := 32768) _ _ h15 (by kernel_rfl) (by kernel_rfl)

/-- 65536 steps leave the low half, and add one odd number to the high half. -/
theorem step_high (a : Int) (h0 : 0 ≤ a) (h1 : a < 4294967296) : lci 65536 a % 65536 = a % 65536 ∧ lci 65536 a / 65536 = (a / 65536 + (20420 * (a % 65536) + 59557)) % 65536 := by
  rw [lin_65536 a h0 h1]
  have e : 1338245121 * a + 3903127552 = a + 65536 * (20420 * a + 59557) := by omega
  rw [e]
  obtain ⟨b, hb⟩ : ∃ b, b = 20420 * a + 59557 := ⟨_, rfl⟩
  rw [← hb]
  obtain ⟨X, hX⟩ : ∃ X, X = a + 65536 * b := ⟨_, rfl⟩
  have q1 : X % 4294967296 / 65536 = X / 65536 % 65536 := by clear hX; omega
  have q2 : X % 4294967296 % 65536 = X % 65536 := by omega
  have q3 : X / 65536 = a / 65536 + b := by omega
  have q4 : X % 65536 = a % 65536 := by omega
  rw [← hX, q1, q2, q3, q4]
  refine ⟨rfl, ?_⟩
  clear q1 q2 q3 q4 hX X e
  obtain ⟨h, l, ha, hl0, hl1⟩ : ∃ h l : Int, a = 65536 * h + l ∧ 0 ≤ l ∧ l < 65536 := ⟨a / 65536, a % 65536, by omega, by omega, by omega⟩
  have r1 : a / 65536 = h := by omega
  have r2 : a % 65536 = l := by omega
  rw [r1, r2]
  have r3 : b = 20420 * l + 59557 + 65536 * (20420 * h) := by omega
  rw [r3]
  omega
theorem steps_high (a : Int) (h0 : 0 ≤ a) (h1 : a < 4294967296) : ∀ i : Nat, lci (65536 * i) a % 65536 = a % 65536 ∧ lci (65536 * i) a / 65536 = (a / 65536 + i * (20420 * (a % 65536) + 59557)) % 65536
  | 0 => ⟨rfl, by show a / 65536 = _; omega⟩
  | i + 1 => by
    obtain ⟨e1, e2⟩ := steps_high a h0 h1 i
    have hin := lci_in (65536 * i) a ⟨h0, h1⟩
    have hs := step_high _ hin.1 hin.2
    have e : lci (65536 * (i + 1)) a = lci 65536 (lci (65536 * i) a) := by rw [Nat.mul_succ, Nat.add_comm, lci_add]
    rw [e]
    refine ⟨by rw [hs.1, e1], ?_⟩
    rw [hs.2, e1, e2]
    obtain ⟨D, hD⟩ : ∃ D, D = 20420 * (a % 65536) + 59557 := ⟨_, rfl⟩
    rw [← hD]
    have : (((i + 1 : Nat) : Int)) * D = i * D + D := by rw [Int.natCast_succ, Int.add_mul, Int.one_mul]
    rw [this]
    generalize (i : Int) * D = E
    omega

/-- An odd number has an inverse, modulo 65536. -/
theorem odd_inv (D : Int) (h : D % 2 = 1) : ∃ v : Int, (65536 : Int) ∣ D * v - 1 := by
  obtain ⟨e, rfl⟩ : ∃ e, D = 2 * e + 1 := ⟨D / 2, by omega⟩
  refine ⟨(1 - 2 * e) * (1 + (2 * e) ^ 2) * (1 + (2 * e) ^ 4) * (1 + (2 * e) ^ 8), -(e ^ 16), ?_⟩
  generalize hy : (2 * e : Int) = y
  have h1 : (y + 1) * ((1 - y) * (1 + y ^ 2) * (1 + y ^ 4) * (1 + y ^ 8)) = 1 - y ^ 16 := by
    have a1 : (y + 1) * (1 - y) = 1 - y ^ 2 := by rw [Int.pow_succ, Int.pow_succ, Int.pow_zero, Int.one_mul, Int.add_mul, Int.mul_sub, Int.mul_one, Int.one_mul]; omega
    have sq : ∀ z : Int, (1 - z) * (1 + z) = 1 - z * z := fun z => by rw [Int.sub_mul, Int.one_mul, Int.mul_add, Int.mul_one]; omega
    have a2 : (1 - y ^ 2) * (1 + y ^ 2) = 1 - y ^ 4 := by rw [sq, ← Int.pow_add]
    have a3 : (1 - y ^ 4) * (1 + y ^ 4) = 1 - y ^ 8 := by rw [sq, ← Int.pow_add]
    have a4 : (1 - y ^ 8) * (1 + y ^ 8) = 1 - y ^ 16 := by rw [sq, ← Int.pow_add]
    rw [← Int.mul_assoc, ← Int.mul_assoc, ← Int.mul_assoc, a1, a2, a3, a4]
  have h2 : y ^ 16 = 65536 * e ^ 16 := by rw [← hy, Int.mul_pow]; rfl
  rw [h1, h2]
  omega

/-- Each number of the high half comes up. -/
theorem lci_reach (a : Int) (h0 : 0 ≤ a) (h1 : a < 4294967296) (j : Int) (j0 : 0 ≤ j) (j1 : j < 65536) : ∃ k : Nat, lci (k + 1) a / 65536 = j := by
  obtain ⟨v, c, hc⟩ := odd_inv (20420 * (a % 65536) + 59557) (by omega)
  obtain ⟨D, hD⟩ : ∃ D, D = 20420 * (a % 65536) + 59557 := ⟨_, rfl⟩
  rw [← hD] at hc
  obtain ⟨i, hi⟩ : ∃ i : Int, i = (v * (j - a / 65536)) % 65536 + 65536 := ⟨_, rfl⟩
  have hi0 : 0 < i := by omega
  obtain ⟨n, rfl⟩ := Int.eq_ofNat_of_zero_le (Int.le_of_lt hi0)
  have hn : 0 < n := by omega
  refine ⟨65536 * n - 1, ?_⟩
  rw [show 65536 * n - 1 + 1 = 65536 * n from by omega, (steps_high a h0 h1 n).2, ← hD]
  obtain ⟨q, hq⟩ : ∃ q : Int, (n : Int) = v * (j - a / 65536) + 65536 * q := ⟨1 - v * (j - a / 65536) / 65536, by rw [hi]; have := Int.emod_add_mul_ediv (v * (j - a / 65536)) 65536; omega⟩
  have e : (n : Int) * D = (j - a / 65536) + 65536 * (c * (j - a / 65536) + q * D) := by
    rw [hq, Int.add_mul]
    have e1 : v * (j - a / 65536) * D = (D * v) * (j - a / 65536) := by rw [Int.mul_comm, ← Int.mul_assoc]
    have e2 : D * v = 1 + 65536 * c := by omega
    rw [e1, e2, Int.add_mul, Int.one_mul, Int.mul_add, Int.mul_assoc, Int.mul_assoc]
    omega
  rw [e]
  generalize c * (j - a / 65536) + q * D = E
  omega

/-! ### The holes of a check, one after the other -/
def B0 (h : Int) : Nat := if h < 64 then 2 ^ h.toNat else 0
def B1 (h : Int) : Nat := if h < 64 then 0 else 2 ^ (h - 64).toNat
theorem b0_B0 (h : Int) : b0 h = (B0 h : Int) := by unfold b0 B0; split <;> simp
theorem b1_B1 (h : Int) : b1 h = (B1 h : Int) := by unfold b1 B1; split <;> simp
def hol (t z a : Int) (k : Nat) : Int := t + lci (k + 1) a / 65536 % z
def N0 (t z a : Int) : Nat → Nat
  | 0 => 0
  | k + 1 => N0 t z a k ||| B0 (hol t z a k)
def N1 (t z a : Int) : Nat → Nat
  | 0 => 0
  | k + 1 => N1 t z a k ||| B1 (hol t z a k)

theorem hol_in {t z a : Int} (ht : 0 ≤ t) (hz : 0 < z) (htz : t + z ≤ 96) (k : Nat) : 0 ≤ hol t z a k ∧ hol t z a k ≤ 95 := by
  unfold hol
  have h1 := Int.emod_nonneg (lci (k + 1) a / 65536) (Int.ne_of_gt hz)
  have h2 := Int.emod_lt_of_pos (lci (k + 1) a / 65536) hz
  omega
theorem B_lt {h : Int} (h1 : h ≤ 95) : B0 h < 2 ^ 64 ∧ B1 h < 2 ^ 64 := by
  unfold B0 B1
  split
  · exact ⟨Nat.pow_lt_pow_right (by decide) (by omega), by decide⟩
  · exact ⟨by decide, Nat.pow_lt_pow_right (by decide) (by omega)⟩
theorem N_lt {t z a : Int} (ht : 0 ≤ t) (hz : 0 < z) (htz : t + z ≤ 96) : ∀ k, N0 t z a k < 2 ^ 64 ∧ N1 t z a k < 2 ^ 64
  | 0 => ⟨by show 0 < 2 ^ 64; decide, by show 0 < 2 ^ 64; decide⟩
  | k + 1 => by
    obtain ⟨a1, a2⟩ := N_lt ht hz htz k
    obtain ⟨c1, c2⟩ := B_lt (hol_in (a := a) ht hz htz k).2
    exact ⟨Nat.or_lt_two_pow a1 c1, Nat.or_lt_two_pow a2 c2⟩

/-- The hole n is in it. -/
def hasHl (x y : Nat) (n : Nat) : Prop := (n < 64 → x.testBit n = true) ∧ (64 ≤ n → y.testBit (n - 64) = true)
theorem hasHl_or {x y n : Nat} (u v : Nat) (h : hasHl x y n) : hasHl (x ||| u) (y ||| v) n :=
  ⟨fun hn => by rw [Nat.testBit_or, h.1 hn, Bool.true_or], fun hn => by rw [Nat.testBit_or, h.2 hn, Bool.true_or]⟩
theorem hasHl_new (x y n : Nat) : hasHl (x ||| B0 n) (y ||| B1 n) n := by
  refine ⟨fun hn => ?_, fun hn => ?_⟩
  · rw [Nat.testBit_or]
    unfold B0
    rw [if_pos (by omega), Int.toNat_natCast, Nat.testBit_two_pow_self, Bool.or_true]
  · rw [Nat.testBit_or]
    unfold B1
    rw [if_neg (by omega), show ((n : Int) - 64).toNat = n - 64 from by omega, Nat.testBit_two_pow_self, Bool.or_true]
theorem hasHl_mono {t z a : Int} {n : Nat} {k : Nat} : ∀ d, hasHl (N0 t z a k) (N1 t z a k) n → hasHl (N0 t z a (k + d)) (N1 t z a (k + d)) n
  | 0, h => h
  | d + 1, h => hasHl_or _ _ (hasHl_mono d h)

theorem has_reach {t z a : Int} (ht : 0 ≤ t) (hz : 0 < z) (hz2 : z ≤ 96) (h0 : 0 ≤ a) (h1 : a < 4294967296) (j : Nat) (hj : (j : Int) < z) : ∃ k, hasHl (N0 t z a k) (N1 t z a k) (t.toNat + j) := by
  obtain ⟨k, hk⟩ := lci_reach a h0 h1 j (by omega) (by omega)
  refine ⟨k + 1, ?_⟩
  have e : hol t z a k = ((t.toNat + j : Nat) : Int) := by
    unfold hol
    rw [hk, Int.emod_eq_of_lt (by omega) hj]
    omega
  show hasHl (N0 t z a k ||| B0 (hol t z a k)) (N1 t z a k ||| B1 (hol t z a k)) _
  rw [e]
  exact hasHl_new _ _ _
theorem has_all {t z a : Int} (ht : 0 ≤ t) (hz : 0 < z) (hz2 : z ≤ 96) (h0 : 0 ≤ a) (h1 : a < 4294967296) : ∀ n : Nat, (n : Int) ≤ z → ∃ k, ∀ j, j < n → hasHl (N0 t z a k) (N1 t z a k) (t.toNat + j)
  | 0, _ => ⟨0, fun j hj => absurd hj (Nat.not_lt_zero _)⟩
  | n + 1, hn => by
    obtain ⟨k, hk⟩ := has_all ht hz hz2 h0 h1 n (by omega)
    obtain ⟨l, hl⟩ := has_reach ht hz hz2 h0 h1 n (by omega)
    refine ⟨k + l, fun j hj => ?_⟩
    by_cases e : j = n
    · subst e; rw [Nat.add_comm]; exact hasHl_mono k hl
    · exact hasHl_mono l (hk j (by omega))

/-! ### Counted -/
def cg (g : Nat → Bool) : Nat → Nat
  | 0 => 0
  | n + 1 => (if g 0 then 1 else 0) + cg (fun i => g (i + 1)) n
theorem pop_ge : ∀ (n : Nat) (g : Nat → Bool) (x : Nat), (∀ i, i < n → g i = true → x.testBit i = true) → cg g n ≤ M.pop n x
  | 0, _, _, _ => Nat.le_refl _
  | n + 1, g, x, h => by
    have ih := pop_ge n (fun i => g (i + 1)) (x / 2) (fun i hi hg => by have := h (i + 1) (by omega) hg; rwa [Nat.testBit_succ] at this)
    show (if g 0 then 1 else 0) + cg (fun i => g (i + 1)) n ≤ x % 2 + M.pop n (x / 2)
    cases hg : g 0 with
    | false => simp; omega
    | true =>
      have := h 0 (by omega) hg
      rw [Nat.testBit_zero] at this
      have : x % 2 = 1 := by simpa using this
      simp; omega
theorem cg_iv : ∀ n lo hi : Nat, lo ≤ hi → cg (fun i => decide (lo ≤ i ∧ i < hi)) n = min hi n - min lo n
  | 0, lo, hi, _ => by simp [cg]
  | n + 1, lo, hi, h => by
    have e : (fun i => decide (lo ≤ i + 1 ∧ i + 1 < hi)) = fun i => decide (lo - 1 ≤ i ∧ i < hi - 1) := by
      funext i
      congr 1
      apply propext
      omega
    show (if decide (lo ≤ 0 ∧ 0 < hi) then 1 else 0) + cg (fun i => decide (lo ≤ i + 1 ∧ i + 1 < hi)) n = _
    rw [e, cg_iv n (lo - 1) (hi - 1) (by omega)]
    by_cases hh : lo ≤ 0 ∧ 0 < hi
    · rw [if_pos (by simpa using hh)]; omega
    · rw [if_neg (by simpa using hh)]; omega

def cnt2 (x y : Nat) : Nat := M.pop 64 x + M.pop 64 y
/-- In the end at least z holes are there. -/
theorem reach_cnt {t z a : Int} (ht : 0 ≤ t) (hz : 0 < z) (htz : t + z ≤ 96) (h0 : 0 ≤ a) (h1 : a < 4294967296) : ∃ k, z ≤ (cnt2 (N0 t z a k) (N1 t z a k) : Int) := by
  obtain ⟨k, hk⟩ := has_all ht hz (by omega) h0 h1 z.toNat (by omega)
  refine ⟨k, ?_⟩
  obtain ⟨T, rfl⟩ := Int.eq_ofNat_of_zero_le ht
  obtain ⟨Z, rfl⟩ := Int.eq_ofNat_of_zero_le (Int.le_of_lt hz)
  rw [Int.toNat_natCast, Int.toNat_natCast] at hk
  have p0 := pop_ge 64 (fun i => decide (T ≤ i ∧ i < T + Z)) (N0 T Z a k) (fun i hi hg => by
    have hg : T ≤ i ∧ i < T + Z := by simpa using hg
    have := (hk (i - T) (by omega)).1
    rw [show T + (i - T) = i from by omega] at this
    exact this hi)
  have p1 := pop_ge 64 (fun i => decide (T - 64 ≤ i ∧ i < T + Z - 64)) (N1 T Z a k) (fun i hi hg => by
    have hg : T - 64 ≤ i ∧ i < T + Z - 64 := by simpa using hg
    have := (hk (i + 64 - T) (by omega)).2
    rw [show T + (i + 64 - T) = i + 64 from by omega] at this
    exact this (by omega))
  rw [cg_iv 64 T (T + Z) (by omega)] at p0
  rw [cg_iv 64 (T - 64) (T + Z - 64) (by omega)] at p1
  unfold cnt2
  omega

/-- The round at which there are enough. -/
def Stops (t z p a : Int) (N : Nat) : Prop := p ≤ (cnt2 (N0 t z a N) (N1 t z a N) : Int) ∧ ∀ k, k < N → (cnt2 (N0 t z a k) (N1 t z a k) : Int) < p
theorem least_of {q : Nat → Prop} (h : ∃ n, q n) : ∃ n, q n ∧ ∀ m, m < n → ¬ q m := by
  obtain ⟨n, hn⟩ := h
  induction n using Nat.strongRecOn with
  | _ n ih =>
    by_cases hm : ∃ m, m < n ∧ q m
    · obtain ⟨m, hlt, hp⟩ := hm
      exact ih m hlt hp
    · exact ⟨n, hn, fun m hlt hp => hm ⟨m, hlt, hp⟩⟩
theorem stops_some {t z p a : Int} (ht : 0 ≤ t) (hz : 0 < z) (htz : t + z ≤ 96) (hp : p ≤ z) (h0 : 0 ≤ a) (h1 : a < 4294967296) : ∃ N, Stops t z p a N := by
  obtain ⟨k, hk⟩ := reach_cnt (a := a) ht hz htz h0 h1
  obtain ⟨N, h, hm⟩ := least_of (q := fun N => p ≤ (cnt2 (N0 t z a N) (N1 t z a N) : Int)) ⟨k, by omega⟩
  exact ⟨N, h, fun k hk => by have := hm k hk; omega⟩
/-- One function tells it for all checks. -/
def StopF (t z p : Int) (F : Int → Nat) : Prop := ∀ a, 0 ≤ a → a < 4294967296 → Stops t z p a (F a)
theorem stopF_some {t z p : Int} (ht : 0 ≤ t) (hz : 0 < z) (htz : t + z ≤ 96) (hp : p ≤ z) : ∃ F, StopF t z p F := by
  have h : ∀ a : Int, ∃ N, 0 ≤ a → a < 4294967296 → Stops t z p a N := fun a => by
    by_cases h0 : 0 ≤ a ∧ a < 4294967296
    · obtain ⟨N, hN⟩ := stops_some (p := p) ht hz htz hp h0.1 h0.2
      exact ⟨N, fun _ _ => hN⟩
    · exact ⟨0, fun x y => absurd ⟨x, y⟩ h0⟩
  exact ⟨fun a => Classical.choose (h a), fun a => Classical.choose_spec (h a)⟩
end Go.Proofs.Ytanocllpmjhblaa
