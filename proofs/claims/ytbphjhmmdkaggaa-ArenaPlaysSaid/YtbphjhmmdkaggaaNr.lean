/- The document's own arena in memory; contracts of its Is and Make. Condition: at most 10000 numbers. -/
import Derived.Test.YtbphjhmmdkaggaaNo
import Derived.Deep.RegionLaw
import Derived.RegionTactic
namespace Go.Proofs.Ytbphjhmmdkaggaa
open Go.RowKit
set_option linter.unusedVariables false

def isV (o : Option Nd) : Value := .bool o.isSome
/-- What the document's own arena holds: nodes whose lists lie where they came in. -/
def RefIs (w0 : World) (L : List (Option Nd)) (xs : List Value) : Prop :=
  ∀ i x, lat L i = some x → ∃ h : Nh, xs[i * 5]? = some (.bool x.leaf) ∧ xs[i * 5 + 1]? = some (.slice h.A h.n h.c) ∧ xs[i * 5 + 2]? = some (.slice h.B h.m h.d) ∧ xs[i * 5 + 3]? = some (.slice h.K h.k h.e) ∧ xs[i * 5 + 4]? = some (.int .i64 x.next) ∧ NdR w0 h x
def Ref (w0 w : World) (E : Nat → Prop) (r : Nat) (L : List (Option Nd)) (F : List Nat) (P T Q : Option Addr) (pc tc qc : Nat) (xs : List Value) : Prop :=
  Own w E r 31 [⟨P, pc, 43, 5, L.length, xs⟩, ⟨T, tc, 4, 1, L.length, L.map isV⟩, ⟨Q, qc, 3, 1, F.length, F.map natV⟩] ∧ RefIs w0 L xs
def RTurn (w0 w : World) (E : Nat → Prop) (r : Nat) (L : List (Option Nd)) (F : List Nat) (w' : World) : Prop :=
  ∃ E' P T Q pc tc qc xs, Ref w0 w' E' r L F P T Q pc tc qc xs ∧ (∀ b, E' b → E b ∨ w.heap.size ≤ b) ∧ Only E w w'

theorem three_cells {w : World} {b : Nat} {T : TypeId} {a0 a1 a2 : Value} (h : w.heap[b]? = some (.cells #[a0, a1, a2] T (0, 0))) :
    w.cell? ⟨b, 0, none⟩ = some a0 ∧ w.cell? ⟨b, 1, none⟩ = some a1 ∧ w.cell? ⟨b, 2, none⟩ = some a2 ∧ w.frozen? ⟨b, 0, none⟩ = false ∧ w.frozen? ⟨b, 1, none⟩ = false ∧ w.frozen? ⟨b, 2, none⟩ = false := by
  simp [World.cell?, World.frozen?, h]

set_option maxHeartbeats 1000000 in
theorem is_any {w0 w : World} {E : Nat → Prop} {r : Nat} {L : List (Option Nd)} {F : List Nat} {P T Q : Option Addr} {pc tc qc : Nat} {xs : List Value} (h : Ref w0 w E r L F P T Q pc tc qc xs) (i : Int) (hi : i ≤ 9223372036854775807) :
    Calls Try.prog 8 #[.pointer (some ⟨r, 0, none⟩), .int .i64 i] w fun e w' => e = .returned (.bool (usedB L i)) ∧ w = w' := by
  obtain ⟨ho, -⟩ := h
  have h0 := ho.row 0 _ rfl
  have h1 := ho.row 1 _ rfl
  have hN : L.length ≤ maxLen := Nat.le_trans (own_caps h0).1 (own_caps h0).2.1
  unfold maxLen at hN
  obtain ⟨c0, c1, -, -, -, -⟩ := three_cells ho.hr
  simp only [RowD.v] at c0 c1
  by_cases hi0 : 0 ≤ i
  · obtain ⟨k, rfl⟩ := Int.eq_ofNat_of_zero_le hi0
    have hu : usedB L (k : Int) = (lat L k).isSome := by unfold usedB; simp
    by_cases hk : k < L.length
    · obtain ⟨t, rfl, -, -⟩ := own_at h1 (by simpa using (show 0 < L.length by omega))
      have hc : w.cell? ⟨t, k, none⟩ = some (.bool (lat L k).isSome) := by
        rw [h1.cellAt _ (by simpa using hk), lat_eq hk]
        simp [isV, hk]
      rw [hu]
      generalize (lat L k).isSome = b at hc
      generalize hn : L.length = n at c0 c1 hk hN
      have hk0 : decide ((k : Int) < 0) = false := by simp
      have hk1 : decide (n ≤ k) = false := by simp; omega
      clear h0 h1 ho hu hi0 hn
      go_enter Try.func8, Try.ntmps8
      go_wp2
      go_ret
      exact ⟨rfl, rfl⟩
    · rw [hu, lat_out (by omega)]
      generalize hn : L.length = n at c0 c1 hk hN
      have hk0 : decide ((k : Int) < 0) = false := by simp
      have hk1 : decide (n ≤ k) = true := by simp; omega
      clear h0 h1 ho hu hi0 hn
      go_enter Try.func8, Try.ntmps8
      go_wp2
      go_ret
      exact ⟨rfl, rfl⟩
  · have hu : usedB L i = false := by unfold usedB; simp; omega
    rw [hu]
    have h0' : decide (i < 0) = true := by simp; omega
    clear h0 h1 ho hu
    go_enter Try.func8, Try.ntmps8
    go_wp2
    go_ret
    exact ⟨rfl, rfl⟩
end Go.Proofs.Ytbphjhmmdkaggaa
