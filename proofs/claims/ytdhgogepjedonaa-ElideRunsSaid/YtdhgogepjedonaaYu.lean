/- What ElideRuns' walk goes by: whether a group fits, request by request; what Run tells, whatever came. Condition: what came in can be read. -/
import Derived.Test.YtdhgogepjedonaaYs
import Derived.Test.YtdhgogepjedonaaWw
namespace Go.Proofs.Ytdhgogepjedonaa
open Go.RowKit
set_option linter.unusedVariables false
set_option maxRecDepth 100000

def stepF (M : List Rq) (k : Nat) : Bool := mayQ (gq M k) && (!((gq M k).kind == 6) && sameB (gq M k).key (gq M 0).key)
def fitV (has : Bool) (val : Ky) (M : List Rq) (n : Nat) : Nat → Bool
  | 0 => decide (0 < n) && (!has || decide (val.length ≤ 32))
  | i + 1 => fitV has val M n i && stepF M i
theorem fitv_iff {has : Bool} {val : Ky} {M : List Rq} {n : Nat} : ∀ i, fitV has val M n i = true ↔ (decide (0 < n) && (!has || decide (val.length ≤ 32))) = true ∧ ∀ k, k < i → stepF M k = true
  | 0 => ⟨fun h => ⟨h, fun k hk => by omega⟩, fun h => h.1⟩
  | i + 1 => by
    rw [fitV, Bool.and_eq_true, fitv_iff i]
    constructor
    · rintro ⟨⟨h1, h2⟩, h3⟩
      refine ⟨h1, fun k hk => ?_⟩
      by_cases e : k = i
      · rw [e]; exact h3
      · exact h2 k (by omega)
    · rintro ⟨h1, h2⟩
      exact ⟨⟨h1, fun k hk => h2 k (by omega)⟩, h2 i (by omega)⟩
theorem fit_same {has : Bool} {val : Ky} {M : List Rq} {n : Nat} : fitV has val M n n = fitR has val M n := by
  rw [Bool.eq_iff_iff, fitv_iff]
  unfold fitR
  rw [Bool.and_eq_true, Bool.and_eq_true, decide_eq_true_eq]
  constructor
  · rintro ⟨⟨h0, h1⟩, h2⟩
    refine ⟨?_, h1⟩
    rw [isgrp_all (fun j hj => ?_)]
    · simpa using h0
    · have hj2 := h2 j hj
      have h02 := h2 0 h0
      unfold stepF at hj2 h02
      unfold togQ scanQ sameB at *
      simp at hj2 h02 ⊢
      exact ⟨hj2.1, h02.2, hj2.2.1, hj2.2.2.symm⟩
  · rintro ⟨h1, h2⟩
    obtain ⟨h0, h3⟩ := isgrp_yes h1
    refine ⟨⟨h0, h2⟩, fun k hk => ?_⟩
    obtain ⟨h4, h5⟩ := h3 k hk
    unfold stepF
    unfold togQ scanQ sameB at h5
    unfold sameB
    simp at h5 ⊢
    exact ⟨h4, h5.2.1, h5.2.2.symm⟩

/-- What Run tells. -/
structure RunT where
  A2 : Option Addr
  n2 : Nat
  c2 : Nat
  is : Bool
  B : Option Addr
  mb : Nat
  db : Nat
  ch : Bool
  ev : Value
def RunX (w : World) (has : Bool) (val : Ky) (room : Bool) (M : List Rq) (n : Nat) (t : RunT) : Prop :=
  (fitR has val M n = false ∧ t.A2 = none ∧ t.n2 = 0 ∧ t.is = false ∧ t.ch = false ∧ t.ev = .iface 42 (.int .i64 1)) ∨
  (fitR has val M n = true ∧ t.n2 = n ∧ t.is = decide (0 < (thenQ (rowR has (gq M 0).key val) M (mostR has room) n).length) ∧ t.ch = chgQ (rowR has (gq M 0).key val).length (thenQ (rowR has (gq M 0).key val) M (mostR has room) n) val ∧ t.ev = .nilIface ∧
    Ress w t.A2 n (allQ (rowR has (gq M 0).key val) M (mostR has room) n) ∧ Byt w t.B t.mb (topV (thenQ (rowR has (gq M 0).key val) M (mostR has room) n)))
theorem RunX.below {w w' : World} {has room : Bool} {val : Ky} {M : List Rq} {n : Nat} {t : RunT} (h : RunX w has val room M n t) (hb : Below w.heap.size w w') : RunX w' has val room M n t := by
  rcases h with h | ⟨h1, h2, h3, h4, h5, h6, h7⟩
  · exact .inl h
  · exact .inr ⟨h1, h2, h3, h4, h5, h6.below hb, h7.below hb⟩
theorem run_any {w : World} {V A : Option Addr} {nv cv n c : Nat} {has room : Bool} {val : Ky} {M : List Rq} (hv : Byt w V nv val) (h : Reqs w A n M) (hs : ∀ j, j < n → smallQ (gq M j) = true) (hn : n ≤ 300) :
    Calls Try.prog 12 #[.bool has, .slice V nv cv, .bool room, .slice A n c] w fun e w' => ∃ t : RunT, e = .returned (.tuple #[.agg #[.slice t.A2 t.n2 t.c2, .bool t.is, .slice t.B t.mb t.db, .bool t.ch], t.ev]) ∧ RunX w' has val room M n t ∧ Below w.heap.size w w' := by
  cases hf : fitR has val M n
  · refine (run_no hv h hs hn hf).mono fun e w' ⟨he, hb⟩ => ?_
    exact ⟨⟨none, 0, 0, false, none, 0, 0, false, .iface 42 (.int .i64 1)⟩, he, .inl ⟨hf, rfl, rfl, rfl, rfl, rfl⟩, hb⟩
  · have hr : Calls Try.prog 12 #[.bool has, .slice V nv cv, .bool room, .slice A n c] w (RunO w has val room M n) := by
      cases has
      · exact run_yes_no hv h hs hn hf
      · exact run_yes_has hv h hs hn hf
    refine hr.mono fun e w' ⟨A2, c2, B, mb, db, he, h1, h2, hb⟩ => ?_
    exact ⟨⟨A2, n, c2, _, B, mb, db, _, .nilIface⟩, he, .inr ⟨hf, rfl, rfl, rfl, rfl, h1, h2⟩, hb⟩
/-- The place of what Run told. -/
def BoxT (w : World) (b : Nat) (t : RunT) : Prop := w.heap[b]? = some (.cells #[.slice t.A2 t.n2 t.c2, .bool t.is, .slice t.B t.mb t.db, .bool t.ch] 34 (0, 0))
theorem BoxT.lt {w : World} {b : Nat} {t : RunT} (hb : BoxT w b t) : b < w.heap.size := (Array.getElem?_eq_some_iff.1 hb).1
theorem BoxT.below {w w' : World} {b B : Nat} {t : RunT} (hx : BoxT w b t) (hb : Below B w w') (hB : b < B) : BoxT w' b t := (hb.block b hB).trans hx
theorem BoxT.cells {w : World} {b : Nat} {t : RunT} (hb : BoxT w b t) :
    w.cell? ⟨b, 0, none⟩ = some (.slice t.A2 t.n2 t.c2) ∧ w.cell? ⟨b, 1, none⟩ = some (.bool t.is) ∧ w.cell? ⟨b, 2, none⟩ = some (.slice t.B t.mb t.db) ∧ w.cell? ⟨b, 3, none⟩ = some (.bool t.ch) := by
  unfold BoxT at hb
  simp [World.cell?, hb]
theorem box_t (w : World) (t : RunT) : ∃ W, W = w.alloc (.cells #[.slice t.A2 t.n2 t.c2, .bool t.is, .slice t.B t.mb t.db, .bool t.ch] 34) ∧ Below w.heap.size w W ∧ BoxT W w.heap.size t ∧ W.heap.size = w.heap.size + 1 :=
  ⟨_, rfl, (Below.refl _ _).alloc (Nat.le_refl _) _, Deep.blk_alloc_new _ _, by simp⟩
end Go.Proofs.Ytdhgogepjedonaa
