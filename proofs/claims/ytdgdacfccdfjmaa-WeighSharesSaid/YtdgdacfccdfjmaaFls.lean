/- Plain mathematics of float64 sums and shares: a sum of numbers above 0 is never without an answer, nor is a number above 0 divided by it. -/
import Derived.Test.YtdgdacfccdfjmaaFlm
import Derived.Laws.FloatArith
namespace Go.Proofs.Ytdgdacfccdfjmaa
open Ieee

/-- A word that is 0 or above, and a number. -/
def okW (a : Nat) : Prop := a ≤ INF

theorem okW_neg {a : Nat} (h : okW a) : neg a = false ∧ rung a = a := by
  unfold okW INF at h
  unfold neg rung S63
  refine ⟨?_, Nat.mod_eq_of_lt (by omega)⟩
  rw [Nat.div_eq_of_lt (by omega)]
  rfl

def okD : Datum → Prop
  | .number s _ _ => s = false
  | .infinity s => s = false
  | .nan .. => False

theorem okW_read {a : Nat} (h : okW a) : okD (Ieee.double.read a) := by
  obtain ⟨h1, h2⟩ := okW_neg h
  unfold okW at h
  by_cases he : a = INF
  · rw [read_inf (by rw [h2]; exact he)]; exact h1
  · rw [read_num (by rw [h2]; omega)]; exact h1

theorem okD_write {d : Datum} (h : okD d) : okW (Ieee.double.write d) := by
  unfold okW
  cases d with
  | number s m p =>
    have hs : s = false := h
    subst hs
    show Ieee.double.nearest false m p ≤ INF
    unfold Format.nearest
    dsimp only
    split
    · exact Nat.zero_le _
    · unfold Format.word
      rw [if_neg (by decide), inf_eq]
      exact Nat.min_le_right _ _
  | infinity s =>
    have hs : s = false := h
    subst hs
    show Ieee.double.word false Ieee.double.infRung ≤ INF
    unfold Format.word
    rw [if_neg (by decide), inf_eq]
    exact Nat.le_refl _
  | nan s t => exact absurd h id

theorem okD_sum {d d' : Datum} (h : okD d) (h' : okD d') : ∃ s, d.sum d' = some s ∧ okD s := by
  cases d with
  | nan s t => exact absurd h id
  | infinity s =>
    have hs : s = false := h
    subst hs
    cases d' with
    | nan s t => exact absurd h' id
    | infinity t =>
      have ht : t = false := h'
      subst ht
      exact ⟨.infinity false, rfl, rfl⟩
    | number t m p => exact ⟨.infinity false, rfl, rfl⟩
  | number s m p =>
    have hs : s = false := h
    subst hs
    cases d' with
    | nan s t => exact absurd h' id
    | infinity t =>
      have ht : t = false := h'
      subst ht
      exact ⟨.infinity false, rfl, rfl⟩
    | number t n q =>
      have ht : t = false := h'
      subst ht
      refine ⟨_, rfl, ?_⟩
      show (if _ then (false && false) else decide _) = false
      split
      · rfl
      · refine decide_eq_false ?_
        have h1 : ∀ m k : Nat, 0 ≤ signed false m k := fun m k => by
          show (0 : Int) ≤ ((m <<< k : Nat) : Int)
          exact Int.natCast_nonneg _
        have h2 := h1 m (p - min p q).toNat
        have h3 := h1 n (q - min p q).toNat
        omega

theorem add_ok {a b : Nat} (ha : okW a) (hb : okW b) : ∃ r, Ieee.double.add a b = some r ∧ okW r := by
  obtain ⟨s, hs, ho⟩ := okD_sum (okW_read ha) (okW_read hb)
  refine ⟨Ieee.double.write s, ?_, okD_write ho⟩
  unfold Format.add
  rw [hs]
  rfl

/-- float64(n). -/
theorem fi_ok {n : Int} (h : 0 ≤ n) : okW (floatOfInt .f64 n) := by
  show okW (Ieee.double.write (.number (n < 0) n.natAbs 0))
  refine okD_write ?_
  show decide (n < 0) = false
  exact decide_eq_false (by omega)

theorem cut_le (n drop : Nat) : Toward.even.cut false n drop ≤ n / 2 ^ min drop (n.log2 + 2) + 1 := by
  unfold Toward.cut
  dsimp only
  rw [Nat.one_shiftLeft]
  exact Nat.add_le_add_left (Bool.toNat_le _) _

theorem kept_le {m : Nat} (hl : m.log2 < 63) : Toward.even.cut false (m <<< (0 - ((m.log2 : Int) - 52)).toNat) ((m.log2 : Int) - 52 - 0).toNat ≤ 9007199254740992 := by
  have hlt : m < 2 ^ (m.log2 + 1) := Nat.lt_log2_self
  refine Nat.le_trans (cut_le _ _) ?_
  by_cases h52 : m.log2 ≤ 52
  · have e1 : (0 - ((m.log2 : Int) - 52)).toNat = 52 - m.log2 := by omega
    have e2 : ((m.log2 : Int) - 52 - 0).toNat = 0 := by omega
    rw [e1, e2, Nat.zero_min, Nat.pow_zero, Nat.div_one, Nat.shiftLeft_eq]
    have : m * 2 ^ (52 - m.log2) < 2 ^ (m.log2 + 1) * 2 ^ (52 - m.log2) := Nat.mul_lt_mul_of_pos_right hlt (Nat.two_pow_pos _)
    rw [← Nat.pow_add] at this
    have e3 : m.log2 + 1 + (52 - m.log2) = 53 := by omega
    rw [e3] at this
    have e5 : (2 : Nat) ^ 53 = 9007199254740992 := by decide
    rw [e5] at this
    exact this
  · have e1 : (0 - ((m.log2 : Int) - 52)).toNat = 0 := by omega
    have e2 : ((m.log2 : Int) - 52 - 0).toNat = m.log2 - 52 := by omega
    rw [e1, e2, Nat.shiftLeft_zero]
    have e4 : min (m.log2 - 52) (m.log2 + 2) = m.log2 - 52 := by omega
    rw [e4]
    have : m / 2 ^ (m.log2 - 52) < 2 ^ 53 := by
      refine Nat.div_lt_of_lt_mul ?_
      rw [← Nat.pow_add]
      have e3 : m.log2 - 52 + 53 = m.log2 + 1 := by omega
      rw [e3]
      exact hlt
    have e5 : (2 : Nat) ^ 53 = 9007199254740992 := by decide
    rw [e5] at this
    exact this

theorem near_num {l kept : Nat} (hl : l < 63) (hk : kept ≤ 9007199254740992) : 0 < min ((l + 1022) * B52 + kept) INF ∧ min ((l + 1022) * B52 + kept) INF < INF := by
  have hB : B52 = 4503599627370496 := rfl
  have hI : INF = 9218868437227405312 := rfl
  generalize B52 = B at *
  generalize INF = I at *
  subst hB hI
  omega

theorem near_mid {m : Nat} (m0 : m ≠ 0) (hl : m.log2 < 63) : 0 < Ieee.double.nearest false m 0 ∧ Ieee.double.nearest false m 0 < INF := by
  have hk := kept_le hl
  have lp : Ieee.double.leastPlace = -1074 := by decide +kernel
  have fb : Ieee.double.fractionBits = 52 := rfl
  have hlast : max (0 + (m.log2 : Int) - (52 : Nat)) (-1074) = (m.log2 : Int) - 52 := by omega
  have hp : ((m.log2 : Int) - 52 - -1074).toNat = m.log2 + 1022 := by omega
  unfold Format.nearest
  simp only [if_neg m0, lp, fb, hlast, hp, inf_eq, binade_eq, Format.word, Bool.false_eq_true, if_false]
  generalize Toward.even.cut false (m <<< (0 - ((m.log2 : Int) - 52)).toNat) ((m.log2 : Int) - 52 - 0).toNat = kept at hk ⊢
  generalize m.log2 = l at hl
  exact near_num hl hk

theorem fi_mid {n : Int} (h0 : 0 < n) (h1 : n < 9223372036854775808) : 0 < floatOfInt .f64 n ∧ floatOfInt .f64 n < INF := by
  have e : floatOfInt .f64 n = Ieee.double.nearest (decide (n < 0)) n.natAbs 0 := rfl
  have d : decide (n < 0) = false := decide_eq_false (by omega)
  rw [e, d]
  have e6 : (2 : Nat) ^ 63 = 9223372036854775808 := by decide
  refine near_mid (by omega) ((Nat.log2_lt (by omega)).2 ?_)
  rw [e6]
  omega

/-- A number above 0, divided by a sum. -/
theorem div_ok {n : Int} (h0 : 0 < n) (h1 : n < 9223372036854775808) {s : Nat} (hs : okW s) : ∃ r, Ieee.double.div (floatOfInt .f64 n) s = some r := by
  obtain ⟨f0, f1⟩ := fi_mid h0 h1
  have fo : okW (floatOfInt .f64 n) := fi_ok (by omega)
  obtain ⟨g1, g2⟩ := okW_neg fo
  generalize floatOfInt .f64 n = x at *
  have hr := read_num (a := x) (by rw [g2]; exact f1)
  rw [g1, g2] at hr
  have hm : mag x ≠ 0 := by
    unfold mag
    split
    · omega
    · unfold B52; omega
  have hd := okW_read hs
  unfold Format.div
  rw [hr]
  cases hq : Ieee.double.read s with
  | nan a t => rw [hq] at hd; exact absurd hd id
  | infinity t => exact ⟨_, rfl⟩
  | number t m p =>
    unfold Datum.quotient
    dsimp only
    by_cases hz : m = 0
    · rw [if_pos hz, if_neg hm]; exact ⟨_, rfl⟩
    · rw [if_neg hz]; exact ⟨_, rfl⟩

/-- The sum of those of the first k that are above 0. -/
def sumF (z : Nat → Int) : Nat → Nat
  | 0 => 0
  | k + 1 => if 0 < z k then (Ieee.double.add (sumF z k) (floatOfInt .f64 (z k))).getD 0 else sumF z k

theorem sumF_ok (z : Nat → Int) (k : Nat) : okW (sumF z k) := by
  induction k with
  | zero => exact Nat.zero_le _
  | succ k ih =>
    unfold sumF
    split
    · rename_i h
      obtain ⟨r, hr, ho⟩ := add_ok ih (fi_ok (n := z k) (by omega))
      rw [hr]
      exact ho
    · exact ih

theorem sumF_add {z : Nat → Int} {k : Nat} (h : 0 < z k) : floatBits .add .f64 (sumF z k) (floatOfInt .f64 (z k)) = some (sumF z (k + 1)) := by
  obtain ⟨r, hr, _⟩ := add_ok (sumF_ok z k) (fi_ok (n := z k) (by omega))
  show Ieee.double.add _ _ = some (if 0 < z k then _ else _)
  rw [if_pos h, hr]
  rfl
theorem sumF_skip {z : Nat → Int} {k : Nat} (h : ¬ 0 < z k) : sumF z (k + 1) = sumF z k := if_neg h

/-- The share of one number. -/
def shareF (s : Nat) (x : Int) : Nat := if 0 < x then (Ieee.double.div (floatOfInt .f64 x) s).getD 0 else if x < 0 then 9221120237041090561 else 0

theorem shareF_pos {s : Nat} {x : Int} (h0 : 0 < x) (h1 : x < 9223372036854775808) (hs : okW s) : floatBits .quo .f64 (floatOfInt .f64 x) s = some (shareF s x) := by
  obtain ⟨r, hr⟩ := div_ok h0 h1 hs
  show Ieee.double.div _ _ = some (shareF s x)
  unfold shareF
  rw [if_pos h0, hr]
  rfl
theorem shareF_lt {s : Nat} {x : Int} (h1 : x < 9223372036854775808) (hs : okW s) : shareF s x < 18446744073709551616 := by
  unfold shareF
  split
  · rename_i h0
    obtain ⟨r, hr⟩ := div_ok h0 h1 hs
    rw [hr]
    have := Ieee.double.div_lt hr
    exact this
  · split <;> decide
theorem shareF_neg {s : Nat} {x : Int} (h : x < 0) : shareF s x = 9221120237041090561 := by unfold shareF; rw [if_neg (by omega), if_pos h]
theorem shareF_zero (s : Nat) : shareF s 0 = 0 := rfl
theorem isN_NaN : isN 9221120237041090561 = true := by decide +kernel

end Go.Proofs.Ytdgdacfccdfjmaa
