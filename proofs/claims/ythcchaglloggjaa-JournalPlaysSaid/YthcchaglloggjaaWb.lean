/- What requests mean, as plain lists: which may be, what one is answered and leaves, what many come to; that an error, or what only reads, changes nothing; that requests of unlike keys may be done in any order. Plain; no condition. -/
import Derived.Test.YthcchaglloggjaaWa
namespace Go.Proofs.Ythcchaglloggjaa
open Go.RowKit
set_option linter.unusedVariables false
set_option maxRecDepth 100000

/-- A request. -/
structure Rq where
  cl : Int
  sq : Int
  kind : Int
  key : Ky
  val : Ky
  old : Ky
  to_ : Ky
  limit : Int
/-- An answer. -/
structure Rs where
  code : Int
  found : Bool
  val : Ky
  rows : List Pr

def valP (P : List Pr) (k : Ky) : Ky := if hasB P k then (gt P (pos P k)).2 else []
def errQ (c : Int) : Rs := ⟨c, false, [], []⟩
def wasQ (L : List Pr) (k : Ky) : Rs := ⟨0, hasB L k, valP L k, []⟩
def headQ (r : Rq) : Bool := decide (0 ≤ r.cl) && (decide (0 ≤ r.sq) && (decide (r.val.length ≤ 32) && decide (r.old.length ≤ 32)))
def mayQ (r : Rq) : Bool := headQ r && (if r.kind = 6 then soundB r.key r.to_ && (decide (1 ≤ r.limit) && decide (r.limit ≤ 100)) else decide (1 ≤ r.kind) && (decide (r.kind ≤ 6) && mayB r.key))
def readsQ (r : Rq) : Bool := decide (r.kind = 1) || decide (r.kind = 6)
def putQ (was : Rs) (room : Bool) : Rs × Bool := if was.found = false ∧ room = false then (errQ 5, false) else (was, true)
def swapQ (was : Rs) (old : Ky) : Rs × Bool := if was.found = false then (errQ 3, false) else if sameB was.val old = false then ({ was with code := 10 }, false) else (was, true)
def ansQ (L : List Pr) (r : Rq) (most : Int) : Rs × Bool :=
  if mayQ r = false then (errQ 1, false)
  else if r.kind = 6 then (⟨0, false, [], (cutL L r.key r.to_).take r.limit.toNat⟩, false)
  else if r.kind = 2 then putQ (wasQ L r.key) (decide ((L.length : Int) < most))
  else if r.kind = 3 then (wasQ L r.key, hasB L r.key)
  else if r.kind = 4 then (if hasB L r.key = false then putQ (wasQ L r.key) (decide ((L.length : Int) < most)) else (wasQ L r.key, false))
  else if r.kind = 5 then swapQ (wasQ L r.key) r.old
  else (wasQ L r.key, false)
def writeQ (L : List Pr) (r : Rq) : List Pr := if r.kind = 3 then delL L r.key else putL L r.key r.val
def nextQ (L : List Pr) (r : Rq) (most : Int) : List Pr := if (ansQ L r most).2 then writeQ L r else L

theorem putQ_room (s : Rs) : putQ s true = (s, true) := by unfold putQ; simp
theorem ans_writes {L : List Pr} {r : Rq} {most : Int} (h : (ansQ L r most).2 = true) : mayQ r = true ∧ readsQ r = false ∧ (ansQ L r most).1.code = 0 := by
  unfold ansQ at h ⊢
  by_cases h1 : mayQ r = false
  · rw [if_pos h1] at h; cases h
  rw [if_neg h1] at h ⊢
  refine ⟨by simpa using h1, ?_⟩
  by_cases h6 : r.kind = 6
  · rw [if_pos h6] at h; cases h
  rw [if_neg h6] at h ⊢
  unfold readsQ
  by_cases h2 : r.kind = 2
  · rw [if_pos h2] at h ⊢
    refine ⟨by simp [h2], ?_⟩
    unfold putQ at h ⊢
    split at h
    · cases h
    · next hn => rw [if_neg hn]; rfl
  rw [if_neg h2] at h ⊢
  by_cases h3 : r.kind = 3
  · rw [if_pos h3] at h ⊢
    exact ⟨by simp [h3], rfl⟩
  rw [if_neg h3] at h ⊢
  by_cases h4 : r.kind = 4
  · rw [if_pos h4] at h ⊢
    refine ⟨by simp [h4], ?_⟩
    by_cases hh : hasB L r.key = false
    · rw [if_pos hh] at h ⊢
      unfold putQ at h ⊢
      split at h
      · cases h
      · next hn => rw [if_neg hn]; rfl
    · rw [if_neg hh] at h
      cases h
  rw [if_neg h4] at h ⊢
  by_cases h5 : r.kind = 5
  · rw [if_pos h5] at h ⊢
    refine ⟨by simp [h5], ?_⟩
    unfold swapQ at h ⊢
    split at h
    · cases h
    · next hn =>
      rw [if_neg hn]
      split at h
      · cases h
      · next hm => rw [if_neg hm]; rfl
  rw [if_neg h5] at h
  cases h
theorem may_fair {r : Rq} (h : mayQ r = true) (h6 : r.kind ≠ 6) : mayB r.key = true ∧ r.val.length ≤ 32 ∧ r.old.length ≤ 32 ∧ 1 ≤ r.kind ∧ r.kind ≤ 5 ∧ fairB (r.key, r.val) = true := by
  unfold mayQ headQ at h
  rw [if_neg h6] at h
  simp at h
  refine ⟨h.2.2.2, h.1.2.2.1, h.1.2.2.2, h.2.1, by omega, ?_⟩
  unfold fairB
  rw [h.2.2.2]
  simp [h.1.2.2.1]
theorem reads6 {r : Rq} (h : readsQ r = false) : r.kind ≠ 6 ∧ r.kind ≠ 1 := by
  unfold readsQ at h
  simp at h
  exact ⟨h.2, h.1⟩
theorem write_fit {L : List Pr} (h : Fit L) {r : Rq} (hf : fairB (r.key, r.val) = true) : Fit (writeQ L r) := by
  unfold writeQ
  split
  · exact h.del _
  · exact h.put hf
theorem write_len (L : List Pr) (r : Rq) : (writeQ L r).length ≤ L.length + 1 := by
  unfold writeQ
  split
  · have := len_del L r.key; omega
  · exact len_put _ _ _
theorem next_fit {L : List Pr} (h : Fit L) (r : Rq) (most : Int) : Fit (nextQ L r most) := by
  unfold nextQ
  split
  · next hw =>
    obtain ⟨h1, h2, -⟩ := ans_writes hw
    exact write_fit h (may_fair h1 (reads6 h2).1).2.2.2.2.2
  · exact h
theorem next_len (L : List Pr) (r : Rq) (most : Int) : (nextQ L r most).length ≤ L.length + 1 := by
  unfold nextQ
  split
  · exact write_len L r
  · omega

/-- An error changes nothing, what reads changes nothing. -/
theorem next_same {L : List Pr} {r : Rq} {most : Int} (h : (ansQ L r most).1.code ≠ 0 ∨ readsQ r = true) : nextQ L r most = L := by
  unfold nextQ
  split
  · next hw =>
    obtain ⟨-, h2, h3⟩ := ans_writes hw
    rcases h with h | h
    · exact absurd h3 h
    · rw [h2] at h; cases h
  · rfl
theorem put_len_has {L : List Pr} (h : Srt L) {k v : Ky} (hh : hasB L k = true) : (putL L k v).length = L.length := by
  obtain ⟨X, M, Y, rfl, hX, hY, hM⟩ := split h k
  rw [put_split hX hY hM]
  rw [has_split hX hY hM] at hh
  rcases hM with rfl | ⟨v', rfl⟩
  · cases hh
  · simp
/-- There is room for what is new. -/
theorem next_room {L : List Pr} (h : Srt L) (r : Rq) (most : Int) : ((nextQ L r most).length : Int) ≤ most ∨ (nextQ L r most).length ≤ L.length := by
  unfold nextQ
  split
  · next hw =>
    unfold writeQ
    by_cases h3 : r.kind = 3
    · rw [if_pos h3]
      exact .inr (len_del _ _)
    · rw [if_neg h3]
      by_cases hh : hasB L r.key = true
      · rw [put_len_has h hh]
        exact .inr (Nat.le_refl _)
      · have hh : hasB L r.key = false := by simpa using hh
        have hlt : (L.length : Int) < most := by
          unfold ansQ at hw
          by_cases h1 : mayQ r = false
          · rw [if_pos h1] at hw; cases hw
          rw [if_neg h1] at hw
          by_cases h6 : r.kind = 6
          · rw [if_pos h6] at hw; cases hw
          rw [if_neg h6, if_neg h3] at hw
          have key : (putQ (wasQ L r.key) (decide ((L.length : Int) < most))).2 = true → (L.length : Int) < most := fun hp => by
            by_cases hl : (L.length : Int) < most
            · exact hl
            · unfold putQ at hp
              rw [if_pos ⟨hh, by simp; omega⟩] at hp
              cases hp
          by_cases h2 : r.kind = 2
          · rw [if_pos h2] at hw
            exact key hw
          rw [if_neg h2] at hw
          by_cases h4 : r.kind = 4
          · rw [if_pos h4, if_pos hh] at hw
            exact key hw
          rw [if_neg h4] at hw
          by_cases h5 : r.kind = 5
          · rw [if_pos h5] at hw
            unfold swapQ at hw
            rw [if_pos (show (wasQ L r.key).found = false from hh)] at hw
            cases hw
          rw [if_neg h5] at hw
          cases hw
        have := len_put L r.key r.val
        exact .inl (by omega)
  · exact .inr (Nat.le_refl _)

/-- Two rows that have the same pairs are the same. -/
theorem srt_ext {L M : List Pr} (hL : Srt L) (hM : Srt M) (h : ∀ p, p ∈ L ↔ p ∈ M) : L = M := by
  induction L generalizing M with
  | nil =>
    cases M with
    | nil => rfl
    | cons q M => exact absurd ((h q).2 List.mem_cons_self) (by simp)
  | cons p L ih =>
    cases M with
    | nil => exact absurd ((h p).1 List.mem_cons_self) (by simp)
    | cons q M =>
      obtain ⟨h1, h2⟩ := List.pairwise_cons.1 hL
      obtain ⟨h3, h4⟩ := List.pairwise_cons.1 hM
      have e : p = q := by
        rcases List.mem_cons.1 ((h p).1 List.mem_cons_self) with e | hp
        · exact e
        · rcases List.mem_cons.1 ((h q).2 List.mem_cons_self) with e | hq
          · exact e.symm
          · have a1 := h3 p hp
            rw [ltB_asymm (h1 q hq)] at a1
            cases a1
      subst e
      have hp : p ∉ L := fun hp => by
        have := h1 p hp
        rw [ltB_irrefl] at this
        cases this
      have hq : p ∉ M := fun hp => by
        have := h3 p hp
        rw [ltB_irrefl] at this
        cases this
      rw [ih h2 h4 fun x => ?_]
      constructor
      · intro hx
        rcases List.mem_cons.1 ((h x).1 (List.mem_cons_of_mem _ hx)) with e | hm
        · subst e; exact absurd hx hp
        · exact hm
      · intro hx
        rcases List.mem_cons.1 ((h x).2 (List.mem_cons_of_mem _ hx)) with e | hm
        · subst e; exact absurd hx hq
        · exact hm
theorem same_no {a b : Ky} (h : a ≠ b) : sameB a b = false := by unfold sameB; simp [h]
theorem mem_del_iff {L : List Pr} {k : Ky} {p : Pr} : p ∈ delL L k ↔ p ∈ L ∧ p.1 ≠ k := by
  unfold delL sameB
  rw [List.mem_filter]
  simp
theorem mem_put_iff {L : List Pr} {k v : Ky} {p : Pr} : p ∈ putL L k v ↔ p = (k, v) ∨ (p ∈ L ∧ p.1 ≠ k) := by
  have e := List.take_append_drop (pos (delL L k) k) (delL L k)
  rw [← mem_del_iff]
  unfold putL
  rw [List.mem_append, List.mem_cons]
  constructor
  · rintro (h | h | h)
    · exact .inr (List.mem_of_mem_take h)
    · exact .inl h
    · exact .inr (List.mem_of_mem_drop h)
  · rintro (h | h)
    · exact .inr (.inl h)
    · rw [← e] at h
      rcases List.mem_append.1 h with h | h
      · exact .inl h
      · exact .inr (.inr h)
theorem write_mem {L : List Pr} {r : Rq} {p : Pr} (hk : p.1 ≠ r.key) : p ∈ writeQ L r ↔ p ∈ L := by
  unfold writeQ
  split
  · rw [mem_del_iff]; simp [hk]
  · rw [mem_put_iff]
    constructor
    · rintro (rfl | h)
      · exact absurd rfl hk
      · exact h.1
    · exact fun h => .inr ⟨h, hk⟩
theorem write_swap {L : List Pr} (h : Srt L) {a b : Rq} (hk : a.key ≠ b.key) : writeQ (writeQ L a) b = writeQ (writeQ L b) a := by
  have srt : ∀ {L : List Pr} (r : Rq), Srt L → Srt (writeQ L r) := fun r h => by
    unfold writeQ
    split
    · exact srt_del h _
    · exact srt_put h _ _
  refine srt_ext (srt b (srt a h)) (srt a (srt b h)) fun p => ?_
  by_cases ha : p.1 = a.key
  · have hb : p.1 ≠ b.key := fun e => hk (ha.symm.trans e)
    rw [write_mem hb]
    unfold writeQ
    by_cases h3 : a.kind = 3
    · rw [if_pos h3, if_pos h3, mem_del_iff, mem_del_iff]
      simp [ha]
    · rw [if_neg h3, if_neg h3, mem_put_iff, mem_put_iff]
      simp [ha]
  · rw [write_mem (L := writeQ L b) ha]
    by_cases hb : p.1 = b.key
    · unfold writeQ
      by_cases h3 : b.kind = 3
      · rw [if_pos h3, if_pos h3, mem_del_iff, mem_del_iff]
        simp [hb]
      · rw [if_neg h3, if_neg h3, mem_put_iff, mem_put_iff]
        simp [hb]
    · rw [write_mem hb, write_mem ha, write_mem hb]

theorem val_mem {L : List Pr} (h : Srt L) {k v : Ky} (hm : (k, v) ∈ L) : hasB L k = true ∧ valP L k = v := by
  obtain ⟨X, M, Y, rfl, hX, hY, hM⟩ := split h k
  have hmem : (k, v) ∈ M := by
    rcases List.mem_append.1 hm with h1 | h1
    · have := hX _ h1
      rw [ltB_irrefl] at this
      cases this
    · rcases List.mem_append.1 h1 with h1 | h1
      · exact h1
      · have := hY _ h1
        rw [ltB_irrefl] at this
        cases this
  rcases hM with rfl | ⟨v', rfl⟩
  · cases hmem
  · have e : v = v' := by simpa using hmem
    subst e
    have e1 := has_split hX hY (.inr ⟨v, rfl⟩ : [(k, v)] = [] ∨ ∃ v', [(k, v)] = [(k, v')])
    have e2 := pos_split hX hY (.inr ⟨v, rfl⟩ : [(k, v)] = [] ∨ ∃ v', [(k, v)] = [(k, v')])
    refine ⟨by rw [e1]; rfl, ?_⟩
    unfold valP
    rw [e1, e2, gt_right (Nat.le_refl _)]
    simp [gt]
theorem was_write {L : List Pr} (h : Fit L) {a : Rq} (hf : fairB (a.key, a.val) = true) {k : Ky} (hk : k ≠ a.key) : wasQ (writeQ L a) k = wasQ L k := by
  have hW := (write_fit h hf).1
  unfold wasQ
  cases hh : hasB L k
  · have h2 : hasB (writeQ L a) k = false := by
      cases hw : hasB (writeQ L a) k
      · rfl
      · obtain ⟨v, hv⟩ := has_iff.1 hw
        rw [has_iff.2 ⟨v, (write_mem (p := (k, v)) hk).1 hv⟩] at hh
        cases hh
    unfold valP
    rw [h2, hh]
    rfl
  · obtain ⟨v, hv⟩ := has_iff.1 hh
    have e1 := val_mem h.1 hv
    have e2 := val_mem hW ((write_mem (p := (k, v)) hk).2 hv)
    rw [e2.1, e2.2, e1.2]
theorem ans_next {L : List Pr} (h : Fit L) (hl : L.length < 999) {a b : Rq} (hk : a.key ≠ b.key) (h6 : b.kind ≠ 6) : ansQ (nextQ L a 1000) b 1000 = ansQ L b 1000 := by
  have hl2 := next_len L a 1000
  have hw : wasQ (nextQ L a 1000) b.key = wasQ L b.key := by
    unfold nextQ
    split
    · next hw =>
      obtain ⟨h1, h2, -⟩ := ans_writes hw
      exact was_write h (may_fair h1 (reads6 h2).1).2.2.2.2.2 (Ne.symm hk)
    · rfl
  have hh : hasB (nextQ L a 1000) b.key = hasB L b.key := congrArg Rs.found hw
  unfold ansQ
  rw [hw, hh]
  rw [if_neg h6, if_neg h6, show decide (((nextQ L a 1000).length : Int) < 1000) = true by simp; omega, show decide ((L.length : Int) < 1000) = true by simp; omega]
/-- Requests of unlike keys may be done in any order. -/
theorem turns_swap {L : List Pr} (h : Fit L) (hl : L.length < 999) {a b : Rq} (hk : a.key ≠ b.key) (ha : a.kind ≠ 6) (hb : b.kind ≠ 6) :
    nextQ (nextQ L a 1000) b 1000 = nextQ (nextQ L b 1000) a 1000 ∧ ansQ (nextQ L a 1000) b 1000 = ansQ L b 1000 ∧ ansQ (nextQ L b 1000) a 1000 = ansQ L a 1000 := by
  have e1 := ans_next h hl hk hb
  have e2 := ans_next h hl (Ne.symm hk) ha
  refine ⟨?_, e1, e2⟩
  unfold nextQ at e1 e2 ⊢
  rw [e1, e2]
  cases hwa : (ansQ L a 1000).2 <;> cases hwb : (ansQ L b 1000).2
  · rfl
  · rfl
  · rfl
  · exact write_swap h.1 hk

/-- What many come to, one behind the other. -/
def rq0 : Rq := ⟨0, 0, 0, [], [], [], [], 0⟩
def gq (M : List Rq) (i : Nat) : Rq := M.getD i rq0
def rs0 : Rs := ⟨0, false, [], []⟩
def gs (R : List Rs) (i : Nat) : Rs := R.getD i rs0
def thenQ (L : List Pr) (M : List Rq) (most : Int) : Nat → List Pr
  | 0 => L
  | j + 1 => nextQ (thenQ L M most j) (gq M j) most
def allQ (L : List Pr) (M : List Rq) (most : Int) : Nat → List Rs
  | 0 => []
  | j + 1 => allQ L M most j ++ [(ansQ (thenQ L M most j) (gq M j) most).1]
theorem then_fit {L : List Pr} (h : Fit L) (M : List Rq) (most : Int) : ∀ j, Fit (thenQ L M most j)
  | 0 => h
  | j + 1 => next_fit (then_fit h M most j) _ _
theorem then_len (L : List Pr) (M : List Rq) (most : Int) : ∀ j, (thenQ L M most j).length ≤ L.length + j
  | 0 => Nat.le_refl _
  | j + 1 => by
    have h1 := next_len (thenQ L M most j) (gq M j) most
    have h2 := then_len L M most j
    show (nextQ (thenQ L M most j) (gq M j) most).length ≤ _
    omega
theorem all_len (L : List Pr) (M : List Rq) (most : Int) : ∀ j, (allQ L M most j).length = j
  | 0 => rfl
  | j + 1 => by rw [allQ, List.length_append, all_len L M most j]; rfl
theorem gq_eq {M : List Rq} {i : Nat} (h : i < M.length) : gq M i = M[i] := by
  unfold gq
  rw [List.getD_eq_getElem?_getD, List.getElem?_eq_getElem h]
  rfl
theorem gs_eq {R : List Rs} {i : Nat} (h : i < R.length) : gs R i = R[i] := by
  unfold gs
  rw [List.getD_eq_getElem?_getD, List.getElem?_eq_getElem h]
  rfl
theorem gs_left {R S : List Rs} {i : Nat} (h : i < R.length) : gs (R ++ S) i = gs R i := by
  rw [gs_eq (by simp; omega), gs_eq h, List.getElem_append_left h]
theorem gs_one {R : List Rs} {s : Rs} : gs (R ++ [s]) R.length = s := by
  rw [gs_eq (by simp)]
  simp
end Go.Proofs.Ythcchaglloggjaa
