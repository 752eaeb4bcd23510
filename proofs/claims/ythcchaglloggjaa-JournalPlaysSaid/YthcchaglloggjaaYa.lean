/- Sorting in place, as plain functions of an index: exchanges, ranges exchanged, rotation, insertion, merging (by halves) of two sorted parts of which each equal of the left one stands ahead; that what is sorted is told by what it holds. Plain; no condition. -/
import Derived.Test.YthcchaglloggjaaG1
namespace Go.Proofs.Ythcchaglloggjaa
set_option linter.unusedVariables false
set_option maxRecDepth 100000

/-- A strict order of all numbers. -/
structure Sto (T : Nat → Nat → Bool) : Prop where
  irr : ∀ x, T x x = false
  trans : ∀ x y z, T x y = true → T y z = true → T x z = true
  tot : ∀ x y, x ≠ y → T x y = true ∨ T y x = true
theorem Sto.asym {T : Nat → Nat → Bool} (h : Sto T) {x y : Nat} (hx : T x y = true) : T y x = false := by
  cases hy : T y x
  · rfl
  · have := h.trans _ _ _ hx hy
    rw [h.irr] at this
    cases this

/-- From a to b it rises. -/
def Rise (T : Nat → Nat → Bool) (g : Nat → Nat) (a b : Nat) : Prop := ∀ i j, a ≤ i → i < j → j < b → T (g i) (g j) = true
/-- Outside nothing has turned, inside it holds the same. -/
structure Mix (a b : Nat) (g g' : Nat → Nat) : Prop where
  out : ∀ k, k < a ∨ b ≤ k → g' k = g k
  to : ∀ k, a ≤ k → k < b → ∃ j, a ≤ j ∧ j < b ∧ g' k = g j
  of : ∀ k, a ≤ k → k < b → ∃ j, a ≤ j ∧ j < b ∧ g k = g' j
theorem Mix.refl (a b : Nat) (g : Nat → Nat) : Mix a b g g := ⟨fun _ _ => rfl, fun k h1 h2 => ⟨k, h1, h2, rfl⟩, fun k h1 h2 => ⟨k, h1, h2, rfl⟩⟩
theorem Mix.trans {a b : Nat} {f g h : Nat → Nat} (x : Mix a b f g) (y : Mix a b g h) : Mix a b f h :=
  ⟨fun k hk => (y.out k hk).trans (x.out k hk),
   fun k h1 h2 => by
    obtain ⟨j, j1, j2, e⟩ := y.to k h1 h2
    obtain ⟨i, i1, i2, e'⟩ := x.to j j1 j2
    exact ⟨i, i1, i2, e.trans e'⟩,
   fun k h1 h2 => by
    obtain ⟨j, j1, j2, e⟩ := x.of k h1 h2
    obtain ⟨i, i1, i2, e'⟩ := y.of j j1 j2
    exact ⟨i, i1, i2, e.trans e'⟩⟩
theorem Mix.wide {a b A B : Nat} {f g : Nat → Nat} (x : Mix a b f g) (hA : A ≤ a) (hB : b ≤ B) : Mix A B f g :=
  ⟨fun k hk => x.out k (by omega),
   fun k h1 h2 => by
    by_cases h : a ≤ k ∧ k < b
    · obtain ⟨j, j1, j2, e⟩ := x.to k h.1 h.2
      exact ⟨j, by omega, by omega, e⟩
    · exact ⟨k, h1, h2, x.out k (by omega)⟩,
   fun k h1 h2 => by
    by_cases h : a ≤ k ∧ k < b
    · obtain ⟨j, j1, j2, e⟩ := x.of k h.1 h.2
      exact ⟨j, by omega, by omega, e⟩
    · exact ⟨k, h1, h2, (x.out k (by omega)).symm⟩⟩

/-- Two places exchanged. -/
def swpF (g : Nat → Nat) (i j k : Nat) : Nat := if k = i then g j else if k = j then g i else g k
theorem mix_swp {a b i j : Nat} (g : Nat → Nat) (hi : a ≤ i ∧ i < b) (hj : a ≤ j ∧ j < b) : Mix a b g (swpF g i j) := by
  refine ⟨fun k hk => ?_, fun k h1 h2 => ?_, fun k h1 h2 => ?_⟩
  · unfold swpF
    rw [if_neg (by omega), if_neg (by omega)]
  · by_cases ki : k = i
    · exact ⟨j, hj.1, hj.2, by unfold swpF; rw [if_pos ki]⟩
    · by_cases kj : k = j
      · exact ⟨i, hi.1, hi.2, by unfold swpF; rw [if_neg ki, if_pos kj]⟩
      · exact ⟨k, h1, h2, by unfold swpF; rw [if_neg ki, if_neg kj]⟩
  · by_cases ki : k = i
    · refine ⟨j, hj.1, hj.2, ?_⟩
      unfold swpF
      by_cases hji : j = i
      · rw [if_pos hji, ki, hji]
      · rw [if_neg hji, if_pos rfl, ki]
    · by_cases kj : k = j
      · exact ⟨i, hi.1, hi.2, by unfold swpF; rw [if_pos rfl, kj]⟩
      · exact ⟨k, h1, h2, by unfold swpF; rw [if_neg ki, if_neg kj]⟩

/-- n places from a on exchanged with those from b on. -/
def srF (g : Nat → Nat) (a b n k : Nat) : Nat := if a ≤ k ∧ k < a + n then g (k - a + b) else if b ≤ k ∧ k < b + n then g (k - b + a) else g k
theorem sr_zero (g : Nat → Nat) (a b : Nat) : srF g a b 0 = g := by
  funext k
  unfold srF
  (repeat' split) <;> first | (exfalso; omega) | rfl | (congr 1; omega)
theorem sr_succ {g : Nat → Nat} {a b n i : Nat} (hd : a + n ≤ b) (hi : i < n) : swpF (srF g a b i) (a + i) (b + i) = srF g a b (i + 1) := by
  funext k
  unfold swpF srF
  (repeat' split) <;> first | (exfalso; omega) | rfl | (congr 1; omega)
/-- The part from m to b put ahead of that from a to m. -/
def rotF (g : Nat → Nat) (a m b k : Nat) : Nat := if a ≤ k ∧ k < b then (if k < a + (b - m) then g (k + (m - a)) else g (k - (b - m))) else g k
theorem rot_none (g : Nat → Nat) (a m : Nat) : rotF g a m m = g := by
  funext k
  unfold rotF
  (repeat' split) <;> first | (exfalso; omega) | rfl | (congr 1; omega)
theorem rot_none' (g : Nat → Nat) (m b : Nat) : rotF g m m b = g := by
  funext k
  unfold rotF
  (repeat' split) <;> first | (exfalso; omega) | rfl | (congr 1; omega)
theorem mix_rot {a m b : Nat} (g : Nat → Nat) (h1 : a ≤ m) (h2 : m ≤ b) : Mix a b g (rotF g a m b) := by
  refine ⟨fun k hk => ?_, fun k k1 k2 => ?_, fun k k1 k2 => ?_⟩
  · unfold rotF
    rw [if_neg (by omega)]
  · by_cases h : k < a + (b - m)
    · exact ⟨k + (m - a), by omega, by omega, by unfold rotF; rw [if_pos ⟨k1, k2⟩, if_pos h]⟩
    · exact ⟨k - (b - m), by omega, by omega, by unfold rotF; rw [if_pos ⟨k1, k2⟩, if_neg h]⟩
  · by_cases h : k < m
    · refine ⟨k + (b - m), by omega, by omega, ?_⟩
      unfold rotF
      rw [if_pos (by omega), if_neg (by omega)]
      congr 1
      omega
    · refine ⟨k - (m - a), by omega, by omega, ?_⟩
      unfold rotF
      rw [if_pos (by omega), if_pos (by omega)]
      congr 1
      omega
/-- One round of the rotation, where the left part is the longer one. -/
theorem rot_left {g : Nat → Nat} {m i j : Nat} (h : j < i) (hi : i ≤ m) : rotF (srF g (m - i) m j) (m - (i - j)) m (m + j) = rotF g (m - i) m (m + j) := by
  funext k
  unfold rotF srF
  (repeat' split) <;> first | (exfalso; omega) | rfl | (congr 1; omega)
/-- One round of the rotation, where the right part is the longer one. -/
theorem rot_right {g : Nat → Nat} {m i j : Nat} (h : i < j) (hi : i ≤ m) : rotF (srF g (m - i) (m + j - i) i) (m - i) m (m + (j - i)) = rotF g (m - i) m (m + j) := by
  funext k
  unfold rotF srF
  (repeat' split) <;> first | (exfalso; omega) | rfl | (congr 1; omega)
/-- Its last one, where they are as long. -/
theorem rot_even {g : Nat → Nat} {m i : Nat} (hi : i ≤ m) : srF g (m - i) m i = rotF g (m - i) m (m + i) := by
  funext k
  unfold rotF srF
  (repeat' split) <;> first | (exfalso; omega) | rfl | (congr 1; omega)
/-- The first one moved on: one step. -/
theorem step_up {g : Nat → Nat} {a k : Nat} (h : a ≤ k) : swpF (rotF g a (a + 1) (k + 1)) k (k + 1) = rotF g a (a + 1) (k + 2) := by
  funext x
  unfold swpF rotF
  (repeat' split) <;> first | (exfalso; omega) | rfl | (congr 1; omega)
/-- The last one moved back: one step. -/
theorem step_down {g : Nat → Nat} {m k : Nat} (h : k ≤ m) (h0 : 0 < k) : swpF (rotF g k m (m + 1)) k (k - 1) = rotF g (k - 1) m (m + 1) := by
  funext x
  unfold swpF rotF
  (repeat' split) <;> first | (exfalso; omega) | rfl | (congr 1; omega)
/-- Two parts that each rise, the first one's all less than the second one's. -/
theorem rise_join {T : Nat → Nat → Bool} (hT : Sto T) {g : Nat → Nat} {a m b : Nat} (h1 : Rise T g a m) (h2 : Rise T g m b) (h : ∀ i j, a ≤ i → i < m → m ≤ j → j < b → T (g i) (g j) = true) : Rise T g a b := fun i j ha hij hb => by
  by_cases hi : i < m
  · by_cases hj : j < m
    · exact h1 i j ha hij hj
    · exact h i j ha hi (by omega) hb
  · exact h2 i j (by omega) hij hb
theorem Rise.part {T : Nat → Nat → Bool} {g : Nat → Nat} {a b A B : Nat} (h : Rise T g a b) (hA : a ≤ A) (hB : B ≤ b) : Rise T g A B := fun i j ha hij hb => h i j (by omega) hij (by omega)
theorem Rise.same {T : Nat → Nat → Bool} {g g' : Nat → Nat} {a b : Nat} (h : Rise T g a b) (he : ∀ k, a ≤ k → k < b → g' k = g k) : Rise T g' a b := fun i j ha hij hb => by
  rw [he i ha (by omega), he j (by omega) hb]
  exact h i j ha hij hb

/-- One of the left part among the right one: found by halves, moved on. -/
theorem merge_one {T : Nat → Nat → Bool} (hT : Sto T) {g : Nat → Nat} {a b i : Nat} (h2 : Rise T g (a + 1) b) (hi : a + 1 ≤ i) (hib : i ≤ b)
    (hl : ∀ h, a + 1 ≤ h → h < i → T (g h) (g a) = true) (hr : ∀ h, i ≤ h → h < b → T (g a) (g h) = true) : Rise T (rotF g a (a + 1) i) a b := fun x y hx hxy hy => by
  unfold rotF
  by_cases y1 : y < i
  · rw [if_pos (show a ≤ x ∧ x < i by omega), if_pos (show a ≤ y ∧ y < i by omega), if_pos (show x < a + (i - (a + 1)) by omega)]
    by_cases y2 : y < a + (i - (a + 1))
    · rw [if_pos y2]
      exact h2 _ _ (by omega) (by omega) (by omega)
    · rw [if_neg y2, show y - (i - (a + 1)) = a by omega]
      exact hl _ (by omega) (by omega)
  · rw [if_neg (show ¬ (a ≤ y ∧ y < i) by omega)]
    by_cases x1 : x < i
    · rw [if_pos (show a ≤ x ∧ x < i by omega)]
      by_cases x2 : x < a + (i - (a + 1))
      · rw [if_pos x2]
        exact h2 _ _ (by omega) (by omega) hy
      · rw [if_neg x2, show x - (i - (a + 1)) = a by omega]
        exact hr _ (by omega) hy
    · rw [if_neg (show ¬ (a ≤ x ∧ x < i) by omega)]
      exact h2 _ _ (by omega) hxy hy
/-- One of the right part among the left one. -/
theorem merge_last {T : Nat → Nat → Bool} (hT : Sto T) {g : Nat → Nat} {a m i : Nat} (h1 : Rise T g a m) (hi : a ≤ i) (him : i ≤ m)
    (hl : ∀ h, a ≤ h → h < i → T (g h) (g m) = true) (hr : ∀ h, i ≤ h → h < m → T (g m) (g h) = true) : Rise T (rotF g i m (m + 1)) a (m + 1) := fun x y hx hxy hy => by
  unfold rotF
  by_cases x1 : i ≤ x
  · rw [if_pos (show i ≤ x ∧ x < m + 1 by omega), if_pos (show i ≤ y ∧ y < m + 1 by omega), if_neg (show ¬ y < i + (m + 1 - m) by omega)]
    by_cases x2 : x < i + (m + 1 - m)
    · rw [if_pos x2, show x + (m - i) = m by omega]
      exact hr _ (by omega) (by omega)
    · rw [if_neg x2]
      exact h1 _ _ (by omega) (by omega) (by omega)
  · rw [if_neg (show ¬ (i ≤ x ∧ x < m + 1) by omega)]
    by_cases y1 : i ≤ y
    · rw [if_pos (show i ≤ y ∧ y < m + 1 by omega)]
      by_cases y2 : y < i + (m + 1 - m)
      · rw [if_pos y2, show y + (m - i) = m by omega]
        exact hl _ (by omega) (by omega)
      · rw [if_neg y2]
        exact h1 _ _ (by omega) (by omega) (by omega)
    · rw [if_neg (show ¬ (i ≤ y ∧ y < m + 1) by omega)]
      exact h1 _ _ (by omega) hxy (by omega)

/-- Where the rotation of the middle parts leaves it: of both halves each one's parts rise, and each of the first half is less than each of the second. -/
structure Halved (T : Nat → Nat → Bool) (g : Nat → Nat) (a s mid e b : Nat) : Prop where
  r1 : Rise T g a s
  r2 : Rise T g s mid
  r3 : Rise T g mid e
  r4 : Rise T g e b
  less : ∀ i j, a ≤ i → i < mid → mid ≤ j → j < b → T (g i) (g j) = true
theorem halve_rot {T : Nat → Nat → Bool} (hT : Sto T) {g : Nat → Nat} {a s m mid e b : Nat} (h1 : Rise T g a m) (h2 : Rise T g m b) (b1 : a ≤ s) (b2 : s ≤ m) (b3 : m ≤ e) (b4 : e ≤ b) (hmid : mid + m = s + e)
    (hlo : ∀ i j, a ≤ i → i < s → e ≤ j → j < b → T (g i) (g j) = true) (hhi : ∀ i j, m ≤ i → i < e → s ≤ j → j < m → T (g i) (g j) = true) : Halved T (rotF g s m e) a s mid e b := by
  have low : ∀ k, k < s → rotF g s m e k = g k := fun k hk => by unfold rotF; rw [if_neg (by omega)]
  have high : ∀ k, e ≤ k → rotF g s m e k = g k := fun k hk => by unfold rotF; rw [if_neg (by omega)]
  have midl : ∀ k, s ≤ k → k < mid → rotF g s m e k = g (k + (m - s)) := fun k k1 k2 => by unfold rotF; rw [if_pos (by omega), if_pos (by omega)]
  have midr : ∀ k, mid ≤ k → k < e → rotF g s m e k = g (k - (e - m)) := fun k k1 k2 => by unfold rotF; rw [if_pos (by omega), if_neg (by omega)]
  refine ⟨fun i j ha hij hb => ?_, fun i j ha hij hb => ?_, fun i j ha hij hb => ?_, fun i j ha hij hb => ?_, fun i j ha hi hj hb => ?_⟩
  · rw [low i (by omega), low j hb]
    exact h1 i j ha hij (by omega)
  · rw [midl i ha (by omega), midl j (by omega) hb]
    exact h2 _ _ (by omega) (by omega) (by omega)
  · rw [midr i ha (by omega), midr j (by omega) hb]
    exact h1 _ _ (by omega) (by omega) (by omega)
  · rw [high i ha, high j (by omega)]
    exact h2 i j (by omega) hij hb
  · by_cases i1 : i < s
    · rw [low i i1]
      by_cases j1 : j < e
      · rw [midr j hj j1]
        exact h1 _ _ ha (by omega) (by omega)
      · rw [high j (by omega)]
        exact hlo i j ha i1 (by omega) hb
    · rw [midl i (by omega) hi]
      by_cases j1 : j < e
      · rw [midr j hj j1]
        exact hhi _ _ (by omega) (by omega) (by omega) (by omega)
      · rw [high j (by omega)]
        exact h2 _ _ (by omega) (by omega) hb
/-- Each half is put in order: so is the whole. -/
theorem halves_rise {T : Nat → Nat → Bool} (hT : Sto T) {g g1 g2 : Nat → Nat} {a s mid e b : Nat} (h : Halved T g a s mid e b) (am : a ≤ mid) (mb : mid ≤ b) (x : Mix a mid g g1) (r1 : Rise T g1 a mid) (y : Mix mid b g1 g2) (r2 : Rise T g2 mid b) : Mix a b g g2 ∧ Rise T g2 a b := by
  refine ⟨(x.wide (Nat.le_refl _) mb).trans (y.wide am (Nat.le_refl _)), rise_join hT (r1.same fun k k1 k2 => y.out k (by omega)) r2 fun i j i1 i2 j1 j2 => ?_⟩
  obtain ⟨j', j3, j4, e⟩ := y.to j j1 j2
  obtain ⟨i', i3, i4, e'⟩ := x.to i i1 i2
  rw [y.out i (by omega), e', e, x.out j' (by omega)]
  exact h.less i' j' i3 i4 j3 j4

/-- What rises, and holds the same numbers, is the same. -/
theorem rise_same {T : Nat → Nat → Bool} (hT : Sto T) {g h : Nat → Nat} {n : Nat} (hg : Rise T g 0 n) (hh : Rise T h 0 n) (h1 : ∀ k, k < n → ∃ j, j < n ∧ g k = h j) (h2 : ∀ k, k < n → ∃ j, j < n ∧ h k = g j) : ∀ k, k < n → g k = h k := by
  have ne : ∀ {f : Nat → Nat}, Rise T f 0 n → ∀ i j, i < j → j < n → f i ≠ f j := fun hf i j hij hj e => by
    have := hf i j (Nat.zero_le _) hij hj
    rw [e, hT.irr] at this
    cases this
  intro k
  induction k using Nat.strongRecOn with
  | _ k ih =>
    intro hk
    obtain ⟨i, hi, ei⟩ := h1 k hk
    obtain ⟨j, hj, ej⟩ := h2 k hk
    rcases Nat.lt_trichotomy i k with c | c | c
    · exact absurd ((ih i c hi).trans ei.symm) (ne hg i k c hk)
    · rw [ei, c]
    · rcases Nat.lt_trichotomy j k with d | d | d
      · exact absurd ((ih j d hj).symm.trans ej.symm) (ne hh j k d hk)
      · rw [ej, d]
      · have a1 := hh k i (Nat.zero_le _) c hi
        have a2 := hg k j (Nat.zero_le _) d hj
        rw [ej] at a1
        rw [ei] at a2
        rw [hT.asym a1] at a2
        cases a2
end Go.Proofs.Ythcchaglloggjaa
