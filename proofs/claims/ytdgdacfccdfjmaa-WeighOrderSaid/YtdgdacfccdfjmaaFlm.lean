/- Plain mathematics of float64 words: how two words stand to each other is how their signed rungs do; the document's order of weights as one number, 'rk'. No condition but that a word is below 2^64. -/
import GoSem.Core.Float
namespace Go.Proofs.Ytdgdacfccdfjmaa
open Ieee

def B52 : Nat := 4503599627370496
def S63 : Nat := 9223372036854775808
def INF : Nat := 9218868437227405312

theorem binade_eq : Ieee.double.binade = B52 := by decide +kernel
theorem sign_eq : Ieee.double.signWeight = S63 := by decide +kernel
theorem inf_eq : Ieee.double.infRung = INF := by decide +kernel
theorem fmt_eq : FloatKind.f64.format = Ieee.double := rfl

def rung (a : Nat) : Nat := a % S63
def neg (a : Nat) : Bool := a / S63 % 2 == 1
def isN (a : Nat) : Bool := decide (INF < rung a)

/-- A rung's magnitude, in units of the least place. -/
def mag (r : Nat) : Nat := if r < B52 then r else B52 + r % B52
def up (r : Nat) : Nat := if r < B52 then 0 else r / B52 - 1
def val (r : Nat) : Nat := mag r * 2 ^ up r

theorem val_lt {r r' : Nat} (h : r < r') : val r < val r' := by
  have hB : 0 < B52 := by decide
  unfold val mag up
  by_cases h1 : r' < B52
  · have h0 : r < B52 := by omega
    simp only [if_pos h0, if_pos h1, Nat.pow_zero, Nat.mul_one]
    exact h
  · by_cases h0 : r < B52
    · rw [if_pos h0, if_pos h0, if_neg h1, if_neg h1]
      have : 1 ≤ 2 ^ (r' / B52 - 1) := Nat.one_le_two_pow
      have h3 : (B52 + r' % B52) * 1 ≤ (B52 + r' % B52) * 2 ^ (r' / B52 - 1) := Nat.mul_le_mul_left _ this
      simp only [Nat.pow_zero, Nat.mul_one] at *
      omega
    · rw [if_neg h0, if_neg h0, if_neg h1, if_neg h1]
      have q1 : 1 ≤ r / B52 := (Nat.one_le_div_iff hB).2 (by omega)
      have qle : r / B52 ≤ r' / B52 := Nat.div_le_div_right (by omega)
      have d1 := Nat.div_add_mod r B52
      have d2 := Nat.div_add_mod r' B52
      have m1 := Nat.mod_lt r hB
      have m2 := Nat.mod_lt r' hB
      by_cases hq : r / B52 = r' / B52
      · rw [← hq] at d2 ⊢
        have hm : B52 + r % B52 < B52 + r' % B52 := by omega
        exact Nat.mul_lt_mul_of_pos_right hm (Nat.two_pow_pos _)
      · have hlt : r / B52 ≤ r' / B52 - 1 := by omega
        have p1 : 2 ^ (r / B52) ≤ 2 ^ (r' / B52 - 1) := Nat.pow_le_pow_right (by decide) hlt
        have p2 : 2 ^ (r / B52) = 2 ^ (r / B52 - 1) * 2 := by rw [← Nat.pow_succ]; congr 1; omega
        have a1 : (B52 + r % B52) * 2 ^ (r / B52 - 1) < (B52 * 2) * 2 ^ (r / B52 - 1) := Nat.mul_lt_mul_of_pos_right (by omega) (Nat.two_pow_pos _)
        have a2 : (B52 * 2) * 2 ^ (r / B52 - 1) = B52 * 2 ^ (r / B52) := by rw [p2, Nat.mul_assoc, Nat.mul_comm 2]
        have a3 : B52 * 2 ^ (r / B52) ≤ B52 * 2 ^ (r' / B52 - 1) := Nat.mul_le_mul_left _ p1
        have a4 : B52 * 2 ^ (r' / B52 - 1) ≤ (B52 + r' % B52) * 2 ^ (r' / B52 - 1) := Nat.mul_le_mul_right _ (by omega)
        omega

theorem val_lt_iff {r r' : Nat} : val r < val r' ↔ r < r' := by
  constructor
  · intro h
    rcases Nat.lt_trichotomy r r' with h1 | h1 | h1
    · exact h1
    · subst h1; omega
    · have := val_lt h1; omega
  · exact val_lt

/-- A word that is finite, as read. -/
theorem read_num {a : Nat} (h : rung a < INF) : Ieee.double.read a = .number (neg a) (mag (rung a)) (Ieee.double.leastPlace + (up (rung a) : Nat)) := by
  unfold Format.read
  simp only [binade_eq, sign_eq, inf_eq]
  change (if rung a < B52 then Datum.number (neg a) (rung a) _ else if rung a < INF then Datum.number (neg a) (B52 + rung a % B52) _ else _) = _
  unfold mag up
  by_cases h0 : rung a < B52
  · simp only [if_pos h0]
    congr 1
  · simp only [if_neg h0, if_pos h]
    rfl

theorem read_inf {a : Nat} (h : rung a = INF) : Ieee.double.read a = .infinity (neg a) := by
  have hB : ¬ INF < B52 := by decide
  have h' : a % S63 = INF := h
  unfold Format.read
  simp only [binade_eq, sign_eq, inf_eq, h', if_neg hB, Nat.lt_irrefl, if_false, if_true]
  rfl

theorem read_nan {a : Nat} (h : INF < rung a) : ∃ t, Ieee.double.read a = .nan (neg a) t := by
  have hB : ¬ rung a < B52 := by have : B52 < INF := by decide
                                 omega
  refine ⟨rung a - INF, ?_⟩
  unfold Format.read
  simp only [binade_eq, sign_eq, inf_eq]
  change (if rung a < B52 then _ else if rung a < INF then _ else if rung a = INF then _ else Datum.nan (neg a) (rung a - INF)) = _
  rw [if_neg hB, if_neg (by omega), if_neg (by omega)]

def sgn (s : Bool) (x : Nat) : Int := if s then -(x : Int) else x

theorem signed_eq (s : Bool) (m k : Nat) : signed s m k = sgn s (m * 2 ^ k) := by
  unfold signed sgn
  rw [Nat.shiftLeft_eq]

theorem sgn_mul (s : Bool) (x k : Nat) : sgn s (x * k) = sgn s x * (k : Int) := by
  unfold sgn
  split <;> simp [Int.neg_mul]

theorem cmp_int (x y : Int) : compare x y = if x < y then .lt else if x = y then .eq else .gt := rfl

theorem cmp_mul (x y : Int) (k : Nat) (hk : 0 < k) : compare (x * (k : Int)) (y * (k : Int)) = compare x y := by
  have hk' : (0 : Int) < k := by omega
  rw [cmp_int, cmp_int]
  have h1 : x * (k : Int) < y * k ↔ x < y := ⟨fun h => Int.lt_of_mul_lt_mul_right h (by omega), fun h => Int.mul_lt_mul_of_pos_right h hk'⟩
  have h2 : x * (k : Int) = y * k ↔ x = y := ⟨fun h => Int.eq_of_mul_eq_mul_right (by omega) h, fun h => by rw [h]⟩
  simp only [h1, h2]

theorem order_num (s t : Bool) (m n e1 e2 : Nat) (L : Int) : (Datum.number s m (L + e1)).order (.number t n (L + e2)) = some (compare (sgn s (m * 2 ^ e1)) (sgn t (n * 2 ^ e2))) := by
  show some (compare (signed s m _) (signed t n _)) = _
  have hb : min (L + e1) (L + e2) = L + (min e1 e2 : Nat) := by omega
  rw [hb, signed_eq, signed_eq]
  have h1 : (L + (e1 : Int) - (L + (min e1 e2 : Nat))).toNat = e1 - min e1 e2 := by omega
  have h2 : (L + (e2 : Int) - (L + (min e1 e2 : Nat))).toNat = e2 - min e1 e2 := by omega
  rw [h1, h2]
  rw [← cmp_mul _ _ (2 ^ min e1 e2) (Nat.two_pow_pos _), ← sgn_mul, ← sgn_mul, Nat.mul_assoc, Nat.mul_assoc, ← Nat.pow_add, ← Nat.pow_add]
  have e1' : e1 - min e1 e2 + min e1 e2 = e1 := by omega
  have e2' : e2 - min e1 e2 + min e1 e2 = e2 := by omega
  rw [e1', e2']

theorem val_zero : val 0 = 0 := by decide

theorem cmp_sgn_val (s t : Bool) (r r' : Nat) : compare (sgn s (val r)) (sgn t (val r')) = compare (sgn s r) (sgn t r') := by
  have h1 := @val_lt_iff r r'
  have h2 := @val_lt_iff r' r
  have h3 := @val_lt_iff 0 r
  have h4 := @val_lt_iff 0 r'
  rw [val_zero] at h3 h4
  rw [cmp_int, cmp_int]
  unfold sgn
  cases s <;> cases t <;> simp only [Bool.false_eq_true, if_false, if_true]
  all_goals
    congr 1
    · simp only [eq_iff_iff]; omega
    · congr 1
      simp only [eq_iff_iff]; omega

/-- The word's place among all that are numbers: its rung, with its sign. -/
def sr (a : Nat) : Int := sgn (neg a) (rung a)

theorem order_nan_left {a b : Nat} (h : isN a = true) : FloatKind.f64.format.order a b = none := by
  obtain ⟨t, ht⟩ := read_nan (of_decide_eq_true h)
  show (Ieee.double.read a).order (Ieee.double.read b) = none
  rw [ht]
  rfl

theorem order_nan_right {a b : Nat} (h : isN b = true) : FloatKind.f64.format.order a b = none := by
  obtain ⟨t, ht⟩ := read_nan (of_decide_eq_true h)
  show (Ieee.double.read a).order (Ieee.double.read b) = none
  rw [ht]
  cases Ieee.double.read a <;> rfl

theorem order_some {a b : Nat} (ha : isN a = false) (hb : isN b = false) : FloatKind.f64.format.order a b = some (compare (sr a) (sr b)) := by
  have ha' : ¬ INF < rung a := of_decide_eq_false ha
  have hb' : ¬ INF < rung b := of_decide_eq_false hb
  show (Ieee.double.read a).order (Ieee.double.read b) = _
  unfold sr
  have hI : 0 < INF := by decide
  by_cases h1 : rung a = INF
  · rw [read_inf h1, h1]
    by_cases h2 : rung b = INF
    · rw [read_inf h2, h2]
      cases neg a <;> cases neg b <;> decide +kernel
    · rw [read_num (by omega : rung b < INF)]
      show some (if neg a then Ordering.lt else .gt) = _
      rw [cmp_int]
      unfold sgn
      cases neg a <;> cases neg b <;> simp only [Bool.false_eq_true, if_false, if_true, Option.some.injEq]
      all_goals (first | (rw [if_pos (by omega)]) | (rw [if_neg (by omega), if_neg (by omega)]))
  · rw [read_num (by omega : rung a < INF)]
    by_cases h2 : rung b = INF
    · rw [read_inf h2, h2]
      show some (if neg b then Ordering.gt else .lt) = _
      rw [cmp_int]
      unfold sgn
      cases neg a <;> cases neg b <;> simp only [Bool.false_eq_true, if_false, if_true, Option.some.injEq]
      all_goals (first | (rw [if_pos (by omega)]) | (rw [if_neg (by omega), if_neg (by omega)]))
    · rw [read_num (by omega : rung b < INF), order_num]
      congr 1
      exact cmp_sgn_val _ _ _ _

/-- The document's order of weights, as a number. -/
def rk (a : Nat) : Int := if isN a then -18446744073709551616 else if neg a then -(rung a : Int) - 1 else rung a

/-- -1, 0 or 1. -/
def cI (x y : Int) : Int := if x < y then -1 else if y < x then 1 else 0
/-- What Compare tells of two words. -/
def cF (a b : Nat) : Int := cI (rk a) (rk b)

theorem sr_zero (a : Nat) : sr a = 0 ↔ rung a = 0 := by
  unfold sr sgn
  split <;> omega

/-- A zero. -/
def isZ (a : Nat) : Bool := decide (rung a = 0)

theorem isZ_not {a : Nat} (h : isZ a = true) : isN a = false := by
  have h' : rung a = 0 := of_decide_eq_true h
  unfold isN
  rw [h']
  decide +kernel

theorem zero_N : isN 0 = false := by decide +kernel
theorem zero_sr : sr 0 = 0 := by decide +kernel

theorem order_zero (a : Nat) : (FloatKind.f64.format.order a 0 == some .eq) = isZ a := by
  cases hn : isN a
  · rw [order_some hn zero_N, zero_sr, cmp_int]
    have hz := sr_zero a
    by_cases h : rung a = 0
    · have hs : sr a = 0 := hz.2 h
      rw [hs]
      unfold isZ
      rw [h]
      decide +kernel
    · have hs : sr a ≠ 0 := fun e => h (hz.1 e)
      have hi : isZ a = false := decide_eq_false h
      rw [hi]
      by_cases h1 : sr a < 0
      · rw [if_pos h1]; rfl
      · rw [if_neg h1, if_neg hs]; rfl
  · rw [order_nan_left hn]
    cases hz : isZ a
    · rfl
    · rw [isZ_not hz] at hn; cases hn

theorem order_self (a : Nat) : (FloatKind.f64.format.order a a != some .eq) = isN a := by
  cases hn : isN a
  · rw [order_some hn hn, cmp_int, if_neg (Int.lt_irrefl _), if_pos rfl]; rfl
  · rw [order_nan_left hn]; rfl

/-- A word that is a zero is one of two. -/
theorem isZ_cases {a : Nat} (h : isZ a = true) (hl : a < 18446744073709551616) : a = 0 ∨ a = S63 := by
  have h' : rung a = 0 := of_decide_eq_true h
  unfold rung S63 at h'
  unfold S63
  omega

theorem neg_eq {a : Nat} (hl : a < 18446744073709551616) : neg a = decide (S63 ≤ a) := by
  unfold neg S63
  rw [Bool.eq_iff_iff]
  simp
  omega

theorem cI_lt {x y : Int} (h : x < y) : cI x y = -1 := if_pos h
theorem cI_gt {x y : Int} (h : y < x) : cI x y = 1 := by unfold cI; rw [if_neg (by omega), if_pos h]
theorem cI_eq (x : Int) : cI x x = 0 := by unfold cI; rw [if_neg (by omega), if_neg (by omega)]

theorem rk_nan {a : Nat} (h : isN a = true) : rk a = -18446744073709551616 := if_pos h
theorem rk_num {a : Nat} (h : isN a = false) : rk a = if neg a then -(rung a : Int) - 1 else rung a := by unfold rk; rw [h]; rfl
theorem rung_lt (a : Nat) : rung a < 9223372036854775808 := Nat.mod_lt _ (by decide)
theorem rk_ge {a : Nat} (h : isN a = false) : -9223372036854775808 ≤ rk a := by
  have := rung_lt a
  rw [rk_num h]
  split <;> omega

theorem cF_nn {a b : Nat} (ha : isN a = true) (hb : isN b = true) : cF a b = 0 := by unfold cF; rw [rk_nan ha, rk_nan hb]; exact cI_eq _
theorem cF_n {a b : Nat} (ha : isN a = true) (hb : isN b = false) : cF a b = -1 := by
  have := rk_ge hb
  unfold cF
  rw [rk_nan ha]
  exact cI_lt (by omega)
theorem cF_m {a b : Nat} (ha : isN a = false) (hb : isN b = true) : cF a b = 1 := by
  have := rk_ge ha
  unfold cF
  rw [rk_nan hb]
  exact cI_gt (by omega)
theorem cF_num {a b : Nat} (ha : isN a = false) (hb : isN b = false) (hz : (isZ a && isZ b) = false) : cF a b = cI (sr a) (sr b) := by
  have hz' : ¬ (rung a = 0 ∧ rung b = 0) := by
    intro ⟨h1, h2⟩
    have e1 : isZ a = true := decide_eq_true h1
    have e2 : isZ b = true := decide_eq_true h2
    rw [e1, e2] at hz
    cases hz
  unfold cF
  rw [rk_num ha, rk_num hb]
  unfold sr sgn cI
  cases neg a <;> cases neg b <;> simp only [Bool.false_eq_true, if_false, if_true]
  all_goals
    congr 1
    · simp only [eq_iff_iff]; omega
    · congr 1
      simp only [eq_iff_iff]; omega

theorem cF_self (a : Nat) : cF a a = 0 := cI_eq _
theorem cF_anti (a b : Nat) : cF b a = -cF a b := by
  unfold cF cI
  split <;> split <;> (try split) <;> omega

theorem cF_bd (a b : Nat) : cF a b = -1 ∨ cF a b = 0 ∨ cF a b = 1 := by
  unfold cF cI
  split
  · exact .inl rfl
  · split
    · exact .inr (.inr rfl)
    · exact .inr (.inl rfl)

/-- The three ways in which two numbers stand to each other. -/
theorem order_cases {a b : Nat} (ha : isN a = false) (hb : isN b = false) :
    (FloatKind.f64.format.order a b = some .lt ∧ cI (sr a) (sr b) = -1 ∧ sr a ≠ sr b) ∨ (FloatKind.f64.format.order a b = some .eq ∧ cI (sr a) (sr b) = 0 ∧ sr a = sr b) ∨ (FloatKind.f64.format.order a b = some .gt ∧ cI (sr a) (sr b) = 1 ∧ sr a ≠ sr b) := by
  rw [order_some ha hb, cmp_int]
  rcases Int.lt_trichotomy (sr a) (sr b) with h | h | h
  · exact .inl ⟨by rw [if_pos h], cI_lt h, by omega⟩
  · refine .inr (.inl ⟨?_, ?_, h⟩)
    · rw [if_neg (by omega), if_pos h]
    · rw [h]; exact cI_eq _
  · refine .inr (.inr ⟨?_, cI_gt h, by omega⟩)
    rw [if_neg (by omega), if_neg (by omega)]

end Go.Proofs.Ytdgdacfccdfjmaa
