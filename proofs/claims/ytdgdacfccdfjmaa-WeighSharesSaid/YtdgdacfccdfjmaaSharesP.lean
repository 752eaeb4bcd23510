/-
  Proved here: for every list of numbers the law WeighShares returns true (each share is what the document says), and the argument reads afterwards as before.
  Conditions: none of ours (the statement's own: what came in can be read).
-/
import Derived.Test.YtdgdacfccdfjmaaRows
import Derived.Test.YtdgdacfccdfjmaaSharesL
import Derived.WalkKit
import Derived.ProofKit
import Derived.OpenShut
import Derived.ShutString
import Derived.ChangeOld
import Derived.Below
import Derived.Deep.Slices
import Derived.Deep.Fields
namespace Go.Proofs.Ytdgdacfccdfjmaa.weighShares
open Go.ChangeShapes Go.WideShapes Go.ChangeAt Go.RowKit Go.Deep
set_option linter.unusedVariables false

theorem own : ownKnob Try.prog.godebug = none := by kernel_rfl
theorem laidOut : laidOutB Try.prog = true := by kernel_rfl

/-- What the walk is told of a slice of integers that came in. -/
def IsRow (w : World) (a : Option Addr) (len : Nat) (z : Nat → Int) : Prop :=
  (a = none ∧ len = 0) ∨ ∃ x, a = some x ∧ len ≤ maxLen ∧ ∀ i, i < len → w.cell? (x.add i) = some (.int .i64 (z i)) ∧ z i < 9223372036854775808

theorem IsRow.spot {w : World} {b off : Nat} {spot : Option _} {len : Nat} {z : Nat → Int} (h : IsRow w (some ⟨b, off, spot⟩) len z) (h0 : len ≠ 0) :
    spot = none ∧ b < w.heap.size ∧ (∀ i, i < len → w.cell? ⟨b, off + i, none⟩ = some (.int .i64 (z i))) ∧ ∀ i, i < len → z i < 9223372036854775808 := by
  rcases h with ⟨h, _⟩ | ⟨x, hx, hm, hcell⟩
  · cases h
  · injection hx with hx
    subst hx
    have hspot : spot = none := by
      have c0 := (hcell 0 (by omega)).1
      simpa [Addr.add] using World.cell?_spot c0
    subst hspot
    exact ⟨rfl, World.block_lt_of_cell? w _ (hcell 0 (by omega)).1, fun i hi => by have := (hcell i hi).1; rwa [add_plain] at this, fun i hi => (hcell i hi).2⟩

theorem walk (a1 : Option Addr) (len1 cap1 : Nat) (z : Nat → Int) (w : World) (w1 : IsRow w a1 len1 z) :
    Calls Try.prog 4 #[.slice a1 len1 cap1] w fun e w' => e = .returned (.bool true) ∧ Below w.heap.size w w' := by
  by_cases h0 : len1 = 0
  · subst h0
    exact shares_zero a1 cap1 w
  · obtain _ | ⟨b, off, spot⟩ := a1
    · rcases w1 with ⟨_, h⟩ | ⟨x, h, _⟩
      · exact absurd h h0
      · cases h
    · by_cases hn : 300 < len1
      · refine shares_long _ len1 cap1 w hn ?_
        rcases w1 with ⟨_, h⟩ | ⟨x, _, h, _⟩
        · exact absurd h h0
        · exact h
      · obtain ⟨rfl, hb, hc, hz⟩ := w1.spot h0
        exact shares_some b off len1 cap1 z w (by omega) (by omega) hb hz hc

set_option maxRecDepth 100000 in
theorem lifted (os : Os) (started : os.Started) (H : Type) (enc : TypeId × Value → H) :
    ReturnsInHanded {} Try.checked os 4 .any (Rows.weighSharesSpec.pre6 enc Try.prog Try.f4 Rows.weighSharesRow.domain false) (Rows.weighSharesSpec.post enc Try.prog Try.f4 false true false false) := by
  refine returnsInHanded_of_change (C := Try.checked) own started (by kernel_rfl) Try.func4
    (ChangeSpec.witness6 (enc := enc) (C := Try.checked) false ⟨#[], #[.slice none 0 0], []⟩ 8 (by kernel_rfl) (by kernel_rfl) (by kernel_rfl) (by kernel_rfl)) ?_
  intro W base args ds gs before hval0 hW hcnd _
  have hval : ∀ (j : Nat) t v, Try.f4.params[j]? = some t → args[j]? = some v → Value.okWide Try.prog W .any base t v := hval0
  have hW' := hW
  obtain ⟨p, q, hA0, hV, rfl, hfz, hnd⟩ := hW
  have hA : DataW.TrodAll enc Try.prog W 0 (fun _ => true) true Try.f4.params.toList args.toList ds p := hA0
  rw [Try.params4] at hA hval
  obtain ⟨v1, vs1, d1, ds1, p1, q1, hargs, rfl, rfl, h1, r1⟩ := trodAll_cons hA
  obtain ⟨rfl, rfl, rfl⟩ := trodAll_nil r1
  obtain rfl : args = #[v1] := by cases args; simp_all
  obtain ⟨rfl, rfl⟩ := trodVars_none hV
  obtain ⟨a1, len1, cap1, rfl⟩ := okWide_slice Try.underlying27 (hval 0 27 v1 rfl rfl)
  have k1 := h1
  have lt1 : ∀ x ∈ p1, x.block < W.heap.size := by obtain ⟨m, hm⟩ := k1; exact DataW.trod_lt m _ _ _ hm
  obtain ⟨z, w1⟩ : ∃ z, IsRow W a1 len1 z := by
    obtain ⟨fuel, hf⟩ := h1
    rcases open_ints Try.underlying27 Try.underlying3 (by kernel_rfl) hf with ⟨hcs, _⟩ | ⟨x, l, c, zs, hcs, _, hl, hm, hz, _, hcell, hwz⟩
    · simp [Value.cells] at hcs
      obtain ⟨rfl, rfl, rfl⟩ := hcs
      exact ⟨fun _ => 0, .inl ⟨rfl, rfl⟩⟩
    · simp [Value.cells] at hcs
      obtain ⟨rfl, rfl, rfl⟩ := hcs
      have hz' : zs.length = cap1 := by simpa using hz
      refine ⟨fun i => zs.getD i 0, .inr ⟨x, rfl, Nat.le_trans hl hm, fun i hi => ⟨hcell i (by omega), ?_⟩⟩⟩
      have hmem : zs.getD i 0 ∈ zs := by
        rw [List.getD_eq_getElem?_getD, List.getElem?_eq_getElem (by omega)]
        exact List.getElem_mem _
      have := hwz _ hmem
      simp [Lit.wf, IntKind.min, IntKind.max, IntKind.signed, IntKind.bits] at this
      show zs.getD i 0 < _
      simp
      omega
  clear hA0 hval0
  refine (walk a1 len1 cap1 z W w1).mono fun e W' ⟨he, bel⟩ => ?_
  subst he
  exact ⟨_, rfl, _, _, _, [], _, [], hW', trodAll_mk1 (shut_bool Try.underlying4 _), (trodAll_cons_mk (Below.trod laidOut (by kernel_rfl) (of_decide_eq_true (by kernel_rfl)) k1 bel lt1) trodAll_mk0), rfl, bel.frame _, fun h => by cases h⟩

theorem over : Rows.weighSharesRow.holds Try.pinned (OpenSpec.ofChange Rows.weighSharesSpec) :=
  OpenClaim.holds_of_wide 4 Try.f4 rfl rfl rfl rfl rfl rfl rfl ⟨rfl, rfl, rfl, rfl, rfl⟩ rfl rfl rfl rfl rfl (by kernel_rfl) Try.func4 (by kernel_rfl)
    (of_decide_eq_true (by kernel_rfl)) (by unfold Func.isWrapper; first | (rw [if_pos (by decide +kernel)]; kernel_rfl) | (rw [if_neg (by decide +kernel)]; exact ⟨rfl, rfl⟩))
    (fun os started H enc _ => lifted os started H enc)

end Go.Proofs.Ytdgdacfccdfjmaa.weighShares
namespace Go.Proofs.Ytdgdacfccdfjmaa
theorem weighShares_holds : Rows.WeighSharesSaid := weighShares.over
#print axioms weighShares_holds
end Go.Proofs.Ytdgdacfccdfjmaa
