/- A slice of pairs that reads as a list; contracts of key.May, key.Fair, row.may and the document's own May. Condition: what came in can be read. -/
import Derived.Test.YtpicdokkdpbpdaaRm
namespace Go.Proofs.Ytpicdokkdpbpdaa
open Go.RowKit
set_option linter.unusedVariables false

/-- A pair's two cells, and what they read as. -/
def PairAt (w : World) (b o : Nat) (p : Pr) : Prop :=
  ∃ A n c B m d, w.cell? ⟨b, o, none⟩ = some (.slice A n c) ∧ w.cell? ⟨b, o + 1, none⟩ = some (.slice B m d) ∧ Byt w A n p.1 ∧ Byt w B m p.2

/-- A slice of pairs that reads as the list L. -/
def Prs (w : World) (A : Option Addr) (n c : Nat) (L : List Pr) : Prop :=
  L.length = n ∧ n ≤ c ∧ c ≤ maxLen ∧ (A = none → c = 0) ∧ (0 < n → ∃ b o, A = some ⟨b, o, none⟩ ∧ b < w.heap.size ∧ ∀ j, j < n → PairAt w b (o + j * 2) (gt L j))

theorem PairAt.keep {w w' : World} {b o : Nat} {p : Pr} (h : PairAt w b o p) (hl : b < w.heap.size) (hs : w.heap.size ≤ w'.heap.size) (hc : ∀ q : Addr, q.block < w.heap.size → w'.cell? q = w.cell? q) : PairAt w' b o p := by
  obtain ⟨A, n, c, B, m, d, h1, h2, h3, h4⟩ := h
  exact ⟨A, n, c, B, m, d, (hc ⟨b, o, none⟩ hl).trans h1, (hc ⟨b, o + 1, none⟩ hl).trans h2, h3.keep hs hc, h4.keep hs hc⟩
theorem Prs.keep {w w' : World} {A : Option Addr} {n c : Nat} {L : List Pr} (h : Prs w A n c L) (hs : w.heap.size ≤ w'.heap.size) (hc : ∀ q : Addr, q.block < w.heap.size → w'.cell? q = w.cell? q) : Prs w' A n c L := by
  obtain ⟨h1, h2, h3, h4, h5⟩ := h
  refine ⟨h1, h2, h3, h4, fun h0 => ?_⟩
  obtain ⟨b, o, e, hb, hj⟩ := h5 h0
  exact ⟨b, o, e, by omega, fun j hl => (hj j hl).keep hb hs hc⟩
theorem Prs.below {w w' : World} {A : Option Addr} {n c : Nat} {L : List Pr} (h : Prs w A n c L) (hb : Below w.heap.size w w') : Prs w' A n c L := h.keep hb.size fun _ hp => hb.cell hp
theorem Prs.alloc {w : World} {A : Option Addr} {n c : Nat} {L : List Pr} (h : Prs w A n c L) (o : Obj) : Prs (w.alloc o) A n c L :=
  h.below ((Below.refl _ _).alloc (Nat.le_refl _) _)
theorem Prs.drewN {w : World} {A : Option Addr} {n c : Nat} {L : List Pr} (h : Prs w A n c L) (k : Nat) : Prs (w.drewN k) A n c L := h
theorem Prs.len {w : World} {A : Option Addr} {n c : Nat} {L : List Pr} (h : Prs w A n c L) : L.length = n := h.1

/-- One pair of it. -/
theorem Prs.at_ {w : World} {A : Option Addr} {n c j : Nat} {L : List Pr} (h : Prs w A n c L) (hj : j < n) :
    ∃ b o, A = some ⟨b, o, none⟩ ∧ b < w.heap.size ∧ PairAt w b (o + j * 2) (gt L j) := by
  obtain ⟨b, o, e, hb, hp⟩ := h.2.2.2.2 (by omega)
  exact ⟨b, o, e, hb, hp j hj⟩

theorem prs_nil (w : World) : Prs w none 0 0 [] := ⟨rfl, Nat.le_refl _, Nat.zero_le _, fun _ => rfl, fun h => absurd h (by omega)⟩

/-- Where a part of a slice lies. -/
def cutA (A : Option Addr) (k c : Nat) : Option Addr := if c = k then A else A.map (·.add (k * 2))

theorem add_lit (b o n : Nat) : (⟨b, o, none⟩ : Addr).add n = ⟨b, o + n, none⟩ := by
  unfold Addr.add
  split
  · next h => rw [h]; rfl
  · rfl

theorem Prs.from {w : World} {A : Option Addr} {n c k : Nat} {L : List Pr} (h : Prs w A n c L) (hk : k ≤ n) : Prs w (cutA A k c) (n - k) (c - k) (L.drop k) := by
  obtain ⟨h1, h2, h3, h4, h5⟩ := h
  refine ⟨by simp [h1], by omega, by omega, fun e => ?_, fun h0 => ?_⟩
  · unfold cutA at e
    split at e
    · omega
    · cases A with
      | none => have := h4 rfl; omega
      | some a => cases e
  · obtain ⟨b, o, e, hb, hj⟩ := h5 (by omega)
    refine ⟨b, o + k * 2, ?_, hb, fun j hl => ?_⟩
    · unfold cutA
      rw [if_neg (by omega), e]
      simp only [Option.map_some]
      rw [add_lit]
    · have := hj (k + j) (by omega)
      rw [show o + k * 2 + j * 2 = o + (k + j) * 2 by omega]
      have hg : gt (L.drop k) j = gt L (k + j) := by
        unfold gt
        simp [List.getD_eq_getElem?_getD, List.getElem?_drop]
      rw [hg]
      exact this
theorem Prs.upto {w : World} {A : Option Addr} {n c k : Nat} {L : List Pr} (h : Prs w A n c L) (hk : k ≤ n) : Prs w A k c (L.take k) := by
  obtain ⟨h1, h2, h3, h4, h5⟩ := h
  refine ⟨by simp; omega, by omega, h3, h4, fun h0 => ?_⟩
  obtain ⟨b, o, e, hb, hj⟩ := h5 (by omega)
  refine ⟨b, o, e, hb, fun j hl => ?_⟩
  have hg : gt (L.take k) j = gt L j := by
    unfold gt
    simp [List.getD_eq_getElem?_getD, hl]
  rw [hg]
  exact hj j (by omega)

set_option maxHeartbeats 400000 in
theorem may_any {w : World} {A : Option Addr} {n : Nat} (c : Nat) {x : List UInt8} (h : Byt w A n x) :
    Calls Try.prog 25 #[.slice A n c] w fun e w' => e = .returned (.bool (mayB x)) ∧ w = w' := by
  have hr : mayB x = (decide (1 ≤ n) && decide (n ≤ 16)) := by rw [← h.1]; rfl
  have HR := Lib.hid hr
  clear hr h
  by_cases h1 : 1 ≤ n <;> by_cases h2 : n ≤ 16
  all_goals first | (exfalso; omega) | skip
  all_goals
    go_enter Try.func25, Try.ntmps25
    go_wp2
    go_ret
    refine ⟨ret_bool ?_, rfl⟩
    rw [HR.out]
    first | rfl | (rw [Bool.eq_iff_iff]; simp; omega)

set_option maxHeartbeats 400000 in
theorem rmay_any {w : World} {A : Option Addr} {n : Nat} (c : Nat) {x : List UInt8} (h : Byt w A n x) :
    Calls Try.prog 16 #[.slice A n c] w fun e w' => e = .returned (.bool (mayB x)) ∧ w = w' := by
  have hr : mayB x = (decide (1 ≤ n) && decide (n ≤ 16)) := by rw [← h.1]; rfl
  have HR := Lib.hid hr
  clear hr h
  by_cases h1 : 0 < n <;> by_cases h2 : n ≤ 16
  all_goals first | (exfalso; omega) | skip
  all_goals
    go_enter Try.func16, Try.ntmps16
    go_wp2
    go_ret
    refine ⟨ret_bool ?_, rfl⟩
    rw [HR.out]
    first | rfl | (rw [Bool.eq_iff_iff]; simp; omega)

set_option maxHeartbeats 400000 in
theorem kfair_any {w : World} {A : Option Addr} {n : Nat} (c : Nat) {x : List UInt8} (h : Byt w A n x) :
    Calls Try.prog 26 #[.slice A n c] w fun e w' => e = .returned (.bool (decide (x.length ≤ 32))) ∧ w = w' := by
  have hr := h.1
  have HR := Lib.hid hr
  clear hr h
  go_enter Try.func26, Try.ntmps26
  go_wp2
  go_ret
  refine ⟨ret_bool ?_, rfl⟩
  rw [HR.out]
  first | rfl | (rw [Bool.eq_iff_iff]; simp; omega)

set_option maxHeartbeats 400000 in
theorem rowmay_any {w : World} {A B : Option Addr} {n m : Nat} (c d : Nat) {x y : List UInt8} (h : Byt w A n x) (h' : Byt w B m y) :
    Calls Try.prog 18 #[.slice A n c, .slice B m d] w fun e w' => e = .returned (.bool (fairB (x, y))) ∧ w = w' := by
  have H := Lib.hid (may_any c h)
  have H' := Lib.hid (kfair_any d h')
  clear h h'
  cases hm : mayB x
  all_goals
    rw [hm] at H
    have HM := Lib.hid hm
    clear hm
    go_enter Try.func18, Try.ntmps18
    go_wp2_with (first | (go_at_call 25; refine H.out.mono ?_; rintro e w' ⟨rfl, rfl⟩) | (go_at_call 26; refine H'.out.mono ?_; rintro e w' ⟨rfl, rfl⟩))
    go_ret
    refine ⟨ret_bool ?_, rfl⟩
    unfold fairB
    rw [HM.out]
    simp
end Go.Proofs.Ytpicdokkdpbpdaa
