/- Rows as lists of pairs of byte lists: places, deleting, putting, and that they stay rows. Plain; no condition. -/
import Derived.Test.YtpicdokkdpbpdaaKb
namespace Go.Proofs.Ytpicdokkdpbpdaa
set_option linter.unusedVariables false

abbrev Pr := List UInt8 × List UInt8

theorem cmp_cons (x y : UInt8) (a b : List UInt8) : cmpB (x :: a) (y :: b) = if x < y then -1 else if y < x then 1 else cmpB a b := by
  show Lib.compareBytes _ _ = _
  rw [Lib.compareBytes.eq_4]
  rfl
theorem ltB_nil_cons (y : UInt8) (b : List UInt8) : ltB [] (y :: b) = true := rfl
theorem ltB_nil (a : List UInt8) : ltB a [] = false := by
  cases a <;> rfl
theorem ltB_cons (x y : UInt8) (a b : List UInt8) : ltB (x :: a) (y :: b) = true ↔ x < y ∨ (x = y ∧ ltB a b = true) := by
  unfold ltB
  rw [cmp_cons]
  by_cases h1 : x < y
  · simp [h1]
  · by_cases h2 : y < x
    · have : x ≠ y := (UInt8.ne_of_lt h2).symm
      simp [h1, h2, this]
    · have e : x = y := UInt8.le_antisymm (UInt8.not_lt.1 h2) (UInt8.not_lt.1 h1)
      simp [e]
theorem ltB_trans {a b c : List UInt8} (h1 : ltB a b = true) (h2 : ltB b c = true) : ltB a c = true := by
  induction a generalizing b c with
  | nil =>
    cases c with
    | nil => rw [ltB_nil] at h2; cases h2
    | cons z c => rfl
  | cons x a ih =>
    cases b with
    | nil => rw [ltB_nil] at h1; cases h1
    | cons y b =>
      cases c with
      | nil => rw [ltB_nil] at h2; cases h2
      | cons z c =>
        rw [ltB_cons] at h1 h2 ⊢
        rcases h1 with h1 | ⟨rfl, h1⟩
        · rcases h2 with h2 | ⟨rfl, h2⟩
          · exact .inl (UInt8.lt_trans h1 h2)
          · exact .inl h1
        · rcases h2 with h2 | ⟨rfl, h2⟩
          · exact .inl h2
          · exact .inr ⟨rfl, ih h1 h2⟩
theorem ltB_irrefl (a : List UInt8) : ltB a a = false := by
  unfold ltB
  rw [(cmpB_eq a a).2 rfl]
  rfl
theorem ltB_asymm {a b : List UInt8} (h : ltB a b = true) : ltB b a = false := by
  cases h' : ltB b a
  · rfl
  · have := ltB_trans h h'
    rw [ltB_irrefl] at this
    cases this
theorem ltB_total (a b : List UInt8) (h1 : ltB a b = false) (h2 : ltB b a = false) : a = b := by
  unfold ltB at h1 h2
  rw [cmpB_swap a b] at h2
  rcases cmpB_three a b with h | h | h
  · rw [h] at h1; cases h1
  · exact (cmpB_eq a b).1 h
  · rw [h] at h2; cases h2
theorem cmp_lt (l k : List UInt8) : decide (cmpB l k < 0) = ltB l k := by
  unfold ltB
  rcases cmpB_three l k with h | h | h <;> rw [h] <;> rfl
theorem cmp_ge (l k : List UInt8) : decide (0 ≤ cmpB l k) = !ltB l k := by
  unfold ltB
  rcases cmpB_three l k with h | h | h <;> rw [h] <;> rfl
theorem cmp_zero (l k : List UInt8) : (cmpB l k == 0) = sameB l k := by
  unfold sameB
  by_cases h : l = k
  · simp [h]
    exact (cmpB_eq k k).2 rfl
  · have : cmpB l k ≠ 0 := fun e => h ((cmpB_eq l k).1 e)
    simp [h, this]

/-- Keys rise. -/
def Srt (L : List Pr) : Prop := L.Pairwise fun p q => ltB p.1 q.1 = true
/-- How many keys stand ahead of one. -/
def pos (L : List Pr) (k : List UInt8) : Nat := (L.takeWhile fun p => ltB p.1 k).length
def hasB (L : List Pr) (k : List UInt8) : Bool := L.any fun p => sameB p.1 k
def delL (L : List Pr) (k : List UInt8) : List Pr := L.filter fun p => !sameB p.1 k
def putL (L : List Pr) (k v : List UInt8) : List Pr := (delL L k).take (pos (delL L k) k) ++ (k, v) :: (delL L k).drop (pos (delL L k) k)
def mayB (x : List UInt8) : Bool := decide (1 ≤ x.length) && decide (x.length ≤ 16)
def fairB (p : Pr) : Bool := mayB p.1 && decide (p.2.length ≤ 32)
def gt (L : List Pr) (i : Nat) : Pr := L.getD i ([], [])
def okAt (L : List Pr) (i : Nat) : Bool := fairB (gt L i) && (decide (i = 0) || ltB (gt L (i - 1)).1 (gt L i).1)
def isB (L : List Pr) : Bool := (List.range L.length).all (okAt L)
def rowL (L : List Pr) : List Pr := L.foldl (fun out p => if fairB p then putL out p.1 p.2 else out) []

theorem gt_eq {L : List Pr} {i : Nat} (h : i < L.length) : gt L i = L[i] := by
  unfold gt
  rw [List.getD_eq_getElem?_getD, List.getElem?_eq_getElem h]
  rfl
theorem gt_mem {L : List Pr} {i : Nat} (h : i < L.length) : gt L i ∈ L := by
  rw [gt_eq h]
  exact List.getElem_mem h

/-- A row parts at a key. -/
theorem split {L : List Pr} (h : Srt L) (k : List UInt8) : ∃ X M Y, L = X ++ (M ++ Y) ∧ (∀ p ∈ X, ltB p.1 k = true) ∧ (∀ p ∈ Y, ltB k p.1 = true) ∧ (M = [] ∨ ∃ v, M = [(k, v)]) := by
  induction L with
  | nil => exact ⟨[], [], [], rfl, by simp, by simp, .inl rfl⟩
  | cons p L ih =>
    obtain ⟨h1, h2⟩ := List.pairwise_cons.1 h
    cases h3 : ltB p.1 k
    · cases h4 : ltB k p.1
      · have e := ltB_total _ _ h3 h4
        refine ⟨[], [p], L, rfl, by simp, fun q hq => by rw [← e]; exact h1 q hq, .inr ⟨p.2, by rw [← e]⟩⟩
      · refine ⟨[], [], p :: L, rfl, by simp, fun q hq => ?_, .inl rfl⟩
        rcases List.mem_cons.1 hq with rfl | hq
        · exact h4
        · exact ltB_trans h4 (h1 q hq)
    · obtain ⟨X, M, Y, rfl, hX, hY, hM⟩ := ih h2
      refine ⟨p :: X, M, Y, rfl, fun q hq => ?_, hY, hM⟩
      rcases List.mem_cons.1 hq with rfl | hq
      · exact h3
      · exact hX q hq

section
variable {X M Y : List Pr} {k : List UInt8} (hX : ∀ p ∈ X, ltB p.1 k = true) (hY : ∀ p ∈ Y, ltB k p.1 = true) (hM : M = [] ∨ ∃ v, M = [(k, v)])
include hX hY hM
theorem pos_split : pos (X ++ (M ++ Y)) k = X.length := by
  unfold pos
  rw [List.takeWhile_append_of_pos hX]
  have : (M ++ Y).takeWhile (fun p => ltB p.1 k) = [] := by
    rcases hM with rfl | ⟨v, rfl⟩
    · cases Y with
      | nil => rfl
      | cons q Y =>
        have := ltB_asymm (hY q (by simp))
        simp [this]
    · simp [ltB_irrefl]
  rw [this]
  simp
theorem del_split : delL (X ++ (M ++ Y)) k = X ++ Y := by
  unfold delL
  rw [List.filter_append, List.filter_append]
  have e1 : X.filter (fun p => !sameB p.1 k) = X := List.filter_eq_self.2 fun p hp => by
    have := hX p hp
    unfold sameB
    by_cases e : p.1 = k
    · rw [e, ltB_irrefl] at this; cases this
    · simp [e]
  have e2 : Y.filter (fun p => !sameB p.1 k) = Y := List.filter_eq_self.2 fun p hp => by
    have := hY p hp
    unfold sameB
    by_cases e : p.1 = k
    · rw [e, ltB_irrefl] at this; cases this
    · simp [e]
  have e3 : M.filter (fun p => !sameB p.1 k) = [] := by
    rcases hM with rfl | ⟨v, rfl⟩
    · rfl
    · simp [sameB]
  rw [e1, e2, e3]
  rfl
theorem put_split (v : List UInt8) : putL (X ++ (M ++ Y)) k v = X ++ (k, v) :: Y := by
  unfold putL
  rw [del_split hX hY hM]
  have := pos_split hX hY (.inl rfl)
  rw [List.nil_append] at this
  rw [this]
  simp
theorem has_split : hasB (X ++ (M ++ Y)) k = !M.isEmpty := by
  have e1 : X.any (fun p => sameB p.1 k) = false := List.any_eq_false.2 fun p hp => by
    have := hX p hp
    unfold sameB
    by_cases e : p.1 = k
    · rw [e, ltB_irrefl] at this; cases this
    · simp [e]
  have e2 : Y.any (fun p => sameB p.1 k) = false := List.any_eq_false.2 fun p hp => by
    have := hY p hp
    unfold sameB
    by_cases e : p.1 = k
    · rw [e, ltB_irrefl] at this; cases this
    · simp [e]
  unfold hasB
  rw [List.any_append, List.any_append, e1, e2]
  rcases hM with rfl | ⟨v, rfl⟩
  · rfl
  · simp [sameB]
end

theorem pos_le (L : List Pr) (k : List UInt8) : pos L k ≤ L.length := by
  unfold pos
  exact (List.takeWhile_sublist _).length_le

/-- What stands ahead of a key's place is less; what stands there, or behind, is not. -/
theorem pos_lt {L : List Pr} (h : Srt L) (k : List UInt8) {i : Nat} (hi : i < L.length) : ltB (gt L i).1 k = decide (i < pos L k) := by
  obtain ⟨X, M, Y, rfl, hX, hY, hM⟩ := split h k
  rw [pos_split hX hY hM, gt_eq hi]
  by_cases hl : i < X.length
  · rw [List.getElem_append_left hl, hX _ (List.getElem_mem hl)]
    simp [hl]
  · rw [List.getElem_append_right (by omega)]
    have hm := List.getElem_mem (l := M ++ Y) (n := i - X.length) (by simp at hi ⊢; omega)
    generalize (M ++ Y)[i - X.length]'(by simp at hi ⊢; omega) = p at hm
    have : ltB p.1 k = false := by
      rcases List.mem_append.1 hm with hm | hm
      · rcases hM with rfl | ⟨v, rfl⟩
        · cases hm
        · simp at hm
          rw [hm]
          exact ltB_irrefl _
      · exact ltB_asymm (hY p hm)
    rw [this]
    simp [hl]
theorem pos_same {L : List Pr} (h : Srt L) (k : List UInt8) (hi : pos L k < L.length) : sameB (gt L (pos L k)).1 k = hasB L k := by
  obtain ⟨X, M, Y, rfl, hX, hY, hM⟩ := split h k
  rw [gt_eq hi, has_split hX hY hM]
  have hp := pos_split hX hY hM
  simp only [hp] at hi ⊢
  rw [List.getElem_append_right (Nat.le_refl _)]
  rcases hM with rfl | ⟨v, rfl⟩
  · have hm := List.getElem_mem (l := [] ++ Y) (n := X.length - X.length) (by simp at hi ⊢; omega)
    generalize ([] ++ Y)[X.length - X.length]'(by simp at hi ⊢; omega) = p at hm
    have := hY p (by simpa using hm)
    unfold sameB
    by_cases e : p.1 = k
    · rw [e, ltB_irrefl] at this; cases this
    · simp [e]
  · simp [sameB]
theorem pos_end {L : List Pr} (h : Srt L) (k : List UInt8) (hi : pos L k = L.length) : hasB L k = false := by
  obtain ⟨X, M, Y, rfl, hX, hY, hM⟩ := split h k
  rw [has_split hX hY hM]
  rw [pos_split hX hY hM] at hi
  rcases hM with rfl | ⟨v, rfl⟩
  · rfl
  · simp at hi

theorem srt_append {X Y : List Pr} : Srt (X ++ Y) ↔ Srt X ∧ Srt Y ∧ ∀ p ∈ X, ∀ q ∈ Y, ltB p.1 q.1 = true := List.pairwise_append
theorem srt_del {L : List Pr} (h : Srt L) (k : List UInt8) : Srt (delL L k) := List.Pairwise.filter _ h
theorem srt_put {L : List Pr} (h : Srt L) (k v : List UInt8) : Srt (putL L k v) := by
  have hd := srt_del h k
  obtain ⟨X, M, Y, rfl, hX, hY, hM⟩ := split h k
  rw [put_split hX hY hM]
  rw [del_split hX hY hM] at hd
  obtain ⟨h1, h2, h3⟩ := srt_append.1 hd
  refine srt_append.2 ⟨h1, List.pairwise_cons.2 ⟨hY, h2⟩, fun p hp q hq => ?_⟩
  rcases List.mem_cons.1 hq with rfl | hq
  · exact hX p hp
  · exact h3 p hp q hq
theorem mem_del {L : List Pr} {k : List UInt8} {p : Pr} (h : p ∈ delL L k) : p ∈ L := (List.mem_filter.1 h).1
theorem mem_put {L : List Pr} {k v : List UInt8} {p : Pr} (h : p ∈ putL L k v) : p ∈ L ∨ p = (k, v) := by
  unfold putL at h
  rcases List.mem_append.1 h with h | h
  · exact .inl (mem_del (List.mem_of_mem_take h))
  · rcases List.mem_cons.1 h with h | h
    · exact .inr h
    · exact .inl (mem_del (List.mem_of_mem_drop h))
theorem len_del (L : List Pr) (k : List UInt8) : (delL L k).length ≤ L.length := List.length_filter_le _ _
theorem len_put (L : List Pr) (k v : List UInt8) : (putL L k v).length ≤ L.length + 1 := by
  have h1 := len_del L k
  have h2 := pos_le (delL L k) k
  unfold putL
  simp
  omega

/-- Each pair may be, and they rise. -/
def Fit (L : List Pr) : Prop := Srt L ∧ ∀ p ∈ L, fairB p = true
theorem fit_nil : Fit [] := ⟨List.Pairwise.nil, fun p hp => by cases hp⟩
theorem Fit.del {L : List Pr} (h : Fit L) (k : List UInt8) : Fit (delL L k) := ⟨srt_del h.1 k, fun p hp => h.2 p (mem_del hp)⟩
theorem Fit.put {L : List Pr} (h : Fit L) {k v : List UInt8} (hf : fairB (k, v) = true) : Fit (putL L k v) :=
  ⟨srt_put h.1 k v, fun p hp => (mem_put hp).elim (fun hp => h.2 p hp) (fun e => by rw [e]; exact hf)⟩
theorem Fit.is {L : List Pr} (h : Fit L) : isB L = true := by
  unfold isB
  refine List.all_eq_true.2 fun i hi => ?_
  have hi := List.mem_range.1 hi
  unfold okAt
  rw [h.2 _ (gt_mem hi)]
  by_cases h0 : i = 0
  · simp [h0]
  · have := List.pairwise_iff_getElem.1 h.1 (i - 1) i (by omega) hi (by omega)
    rw [gt_eq hi, gt_eq (show i - 1 < L.length by omega), this]
    simp

theorem row_step (L : List Pr) {i : Nat} (h : i < L.length) : rowL (L.take (i + 1)) = if fairB (gt L i) then putL (rowL (L.take i)) (gt L i).1 (gt L i).2 else rowL (L.take i) := by
  unfold rowL
  rw [List.take_succ_eq_append_getElem h, List.foldl_append, gt_eq h]
  rfl
theorem row_fit (L : List Pr) (i : Nat) (h : i ≤ L.length) : Fit (rowL (L.take i)) ∧ (rowL (L.take i)).length ≤ i := by
  induction i with
  | zero => exact ⟨fit_nil, Nat.le_refl _⟩
  | succ i ih =>
    obtain ⟨h1, h2⟩ := ih (by omega)
    rw [row_step L (by omega)]
    by_cases hf : fairB (gt L i) = true
    · rw [if_pos hf]
      exact ⟨h1.put hf, Nat.le_trans (len_put _ _ _) (by omega)⟩
    · rw [if_neg hf]
      exact ⟨h1, by omega⟩

theorem has_iff {L : List Pr} {k : List UInt8} : hasB L k = true ↔ ∃ v, (k, v) ∈ L := by
  unfold hasB sameB
  rw [List.any_eq_true]
  constructor
  · rintro ⟨p, hp, he⟩
    have := of_decide_eq_true he
    exact ⟨p.2, by rw [← this]; exact hp⟩
  · rintro ⟨v, hv⟩
    exact ⟨_, hv, by simp⟩
theorem has_put {L : List Pr} (h : Srt L) (k v : List UInt8) : hasB (putL L k v) k = true ∧ pos (putL L k v) k < (putL L k v).length ∧ gt (putL L k v) (pos (putL L k v) k) = (k, v) ∧ (delL (putL L k v) k).length + 1 = (putL L k v).length := by
  obtain ⟨X, M, Y, rfl, hX, hY, hM⟩ := split h k
  rw [put_split hX hY hM]
  have e : X ++ (k, v) :: Y = X ++ ([(k, v)] ++ Y) := rfl
  rw [e, has_split hX hY (.inr ⟨v, rfl⟩), pos_split hX hY (.inr ⟨v, rfl⟩), del_split hX hY (.inr ⟨v, rfl⟩)]
  refine ⟨rfl, by simp, ?_, by simp; omega⟩
  rw [gt_eq (by simp), List.getElem_append_right (Nat.le_refl _)]
  simp
theorem has_del (L : List Pr) (k o : List UInt8) (h : hasB L k = true) : hasB (delL L o) k = !sameB k o := by
  obtain ⟨v, hv⟩ := has_iff.1 h
  by_cases e : k = o
  · subst e
    have : ¬ hasB (delL L k) k = true := fun h => by
      obtain ⟨v, hv⟩ := has_iff.1 h
      have := (List.mem_filter.1 hv).2
      simp [sameB] at this
    simp [sameB, this]
  · have : hasB (delL L o) k = true := has_iff.2 ⟨v, List.mem_filter.2 ⟨hv, by simp [sameB, e]⟩⟩
    simp [sameB, e, this]

/-- Taking a row apart at a key, as the program does. -/
theorem put_is {L : List Pr} (h : Srt L) (k v : List UInt8) : putL L k v = L.take (pos L k) ++ ([(k, v)] ++ (if hasB L k then (L.drop (pos L k)).drop 1 else L.drop (pos L k))) := by
  obtain ⟨X, M, Y, rfl, hX, hY, hM⟩ := split h k
  rw [put_split hX hY hM, pos_split hX hY hM, has_split hX hY hM]
  rcases hM with rfl | ⟨v', rfl⟩ <;> simp
theorem del_is {L : List Pr} (h : Srt L) (k : List UInt8) : delL L k = if hasB L k then L.take (pos L k) ++ L.drop (pos L k + 1) else L := by
  obtain ⟨X, M, Y, rfl, hX, hY, hM⟩ := split h k
  rw [del_split hX hY hM, pos_split hX hY hM, has_split hX hY hM]
  rcases hM with rfl | ⟨v', rfl⟩ <;> simp [List.drop_append]
end Go.Proofs.Ytpicdokkdpbpdaa
