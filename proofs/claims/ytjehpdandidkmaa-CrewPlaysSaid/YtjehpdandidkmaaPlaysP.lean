/-
  Proved here: for every number of workers and every list of deeds the law CrewPlays returns true (whatever is done with workers, and the clock, comes to what the document says), and both arguments read afterwards as before.
  Conditions: none of ours (the statement's own: what came in can be read).
-/
import Derived.Test.YtjehpdandidkmaaRows
import Derived.Test.YtjehpdandidkmaaSl
import Derived.Test.YtjehpdandidkmaaPlaysW
import Derived.Deep.Slices
import Derived.Deep.Fields
import Derived.WalkKit
import Derived.ProofKit
import Derived.OpenShut
import Derived.ShutString
import Derived.ChangeOld
import Derived.Below
namespace Go.Proofs.Ytjehpdandidkmaa.crewPlays
open Go.ChangeShapes Go.WideShapes Go.ChangeAt Go.RowKit Go.Deep
open Go.ChangeMaps (open_string shut_string)
set_option linter.unusedVariables false

theorem own : ownKnob Try.prog.godebug = none := by kernel_rfl
theorem laidOut : laidOutB Try.prog = true := by kernel_rfl

/-- What the walk is told of the deeds that came in. -/
def IsDeeds (w : World) (a : Option Addr) (len : Nat) : Prop :=
  (a = none ∧ len = 0) ∨ ∃ x, a = some x ∧ len ≤ maxLen ∧ ∀ i, i < len → ∃ wh at' n : Int, w.cell? (x.add (i * 3 + 0)) = some (.int .i64 wh) ∧ w.cell? (x.add (i * 3 + 1)) = some (.int .i64 at') ∧
    w.cell? (x.add (i * 3 + 2)) = some (.int .i64 n) ∧ (Lit.int .i64 wh).wf = true ∧ (Lit.int .i64 n).wf = true

theorem IsDeeds.spot {w : World} {b off : Nat} {spot : Option _} {len : Nat} (h : IsDeeds w (some ⟨b, off, spot⟩) len) (h0 : len ≠ 0) :
    spot = none ∧ b < w.heap.size ∧ ∀ i, i < len → ∃ wh at' n, DeedAt w b (off + i * 3) wh at' n := by
  rcases h with ⟨h, _⟩ | ⟨x, hx, hm, hcell⟩
  · cases h
  · injection hx with hx
    subst hx
    have hspot : spot = none := by
      obtain ⟨wh, at', n, c0, _⟩ := hcell 0 (by omega)
      simpa [Addr.add] using World.cell?_spot c0
    subst hspot
    refine ⟨rfl, ?_, fun i hi => ?_⟩
    · obtain ⟨wh, at', n, c0, _⟩ := hcell 0 (by omega)
      exact World.block_lt_of_cell? w _ c0
    · obtain ⟨wh, at', n, c0, c1, c2, hw, hn⟩ := hcell i hi
      rw [add_plain] at c0 c1 c2
      refine ⟨wh, at', n, c0, ?_, ?_, ?_⟩
      · rw [show off + i * 3 + 1 = off + (i * 3 + 1) by omega]
        exact c1
      · rw [show off + i * 3 + 1 + 1 = off + (i * 3 + 2) by omega]
        exact c2
      · simpa [Lit.wf, IntKind.min, IntKind.max, IntKind.signed, IntKind.bits] using hw

theorem IsDeeds.most {w : World} {a : Option Addr} {len : Nat} (h : IsDeeds w a len) : len ≤ maxLen := by
  rcases h with ⟨_, rfl⟩ | ⟨x, _, hm, _⟩
  · exact Nat.zero_le _
  · exact hm

theorem walk (a0 : Int) (a1 : Option Addr) (len1 cap1 : Nat) (w : World) (w1 : IsDeeds w a1 len1) :
    Calls Try.prog 3 #[.int .i64 a0, .slice a1 len1 cap1] w fun e w' => e = .returned (.bool true) ∧ Below w.heap.size w w' := by
  by_cases hn : a0 < 1 ∨ 16 < a0
  · exact plays_bad a0 a1 len1 cap1 w hn
  · by_cases h3 : 300 < len1
    · exact plays_long a0 a1 len1 cap1 w (by omega) (by omega) h3 w1.most
    · by_cases h0 : len1 = 0
      · subst h0
        exact plays_zero a0 a1 cap1 w (by omega) (by omega)
      · obtain _ | ⟨b, off, spot⟩ := a1
        · rcases w1 with ⟨_, h⟩ | ⟨x, h, _⟩
          · exact absurd h h0
          · cases h
        · obtain ⟨rfl, hb, hc⟩ := w1.spot h0
          exact plays_some a0 b off len1 cap1 w (by omega) (by omega) (by omega) hb hc

set_option maxRecDepth 100000 in
theorem lifted (os : Os) (started : os.Started) (H : Type) (enc : TypeId × Value → H) :
    ReturnsInHanded {} Try.checked os 3 .any (Rows.crewPlaysSpec.pre6 enc Try.prog Try.f3 Rows.crewPlaysRow.domain false) (Rows.crewPlaysSpec.post enc Try.prog Try.f3 false true false false) := by
  refine returnsInHanded_of_change (C := Try.checked) own started (by kernel_rfl) Try.func3
    (ChangeSpec.witness6 (enc := enc) (C := Try.checked) false ⟨#[], #[.int .i64 0, .slice none 0 0], []⟩ 8 (by kernel_rfl) (by kernel_rfl) (by kernel_rfl) (by kernel_rfl)) ?_
  intro W base args ds gs before hval0 hW hcnd _
  have hval : ∀ (j : Nat) t v, Try.f3.params[j]? = some t → args[j]? = some v → Value.okWide Try.prog W .any base t v := hval0
  have hW' := hW
  obtain ⟨p, q, hA0, hV, rfl, hfz, hnd⟩ := hW
  have hA : DataW.TrodAll enc Try.prog W 0 (fun _ => true) true Try.f3.params.toList args.toList ds p := hA0
  rw [Try.params3] at hA hval
  obtain ⟨v0, vs0, d0, ds0, p0, q0, hargs, rfl, rfl, h0, r0⟩ := trodAll_cons hA
  obtain ⟨v1, vs1, d1, ds1, p1, q1, rfl, rfl, rfl, h1, r1⟩ := trodAll_cons r0
  obtain ⟨rfl, rfl, rfl⟩ := trodAll_nil r1
  obtain rfl : args = #[v0, v1] := by cases args; simp_all
  obtain ⟨rfl, rfl⟩ := trodVars_none hV
  obtain ⟨a0, rfl, rfl, rfl, w0⟩ := open_int Try.underlying3 (hval 0 3 v0 rfl rfl) h0
  obtain ⟨a1, len1, cap1, rfl⟩ := okWide_slice Try.underlying22 (hval 1 22 v1 rfl rfl)
  have k1 := h1
  have lt1 : ∀ x ∈ p1, x.block < W.heap.size := by obtain ⟨m, hm⟩ := k1; exact DataW.trod_lt m _ _ _ hm
  have w1 : IsDeeds W a1 len1 := by
    obtain ⟨fuel, hf⟩ := h1
    rcases slice_cells Try.underlying22 Try.underlying35 (by kernel_rfl) (by kernel_rfl) hf with hcs | ⟨x, l, c, hcs, hl, hm, hcell⟩
    · simp [Value.cells] at hcs
      exact .inl ⟨hcs.1, hcs.2.1⟩
    · simp [Value.cells] at hcs
      obtain ⟨rfl, rfl, rfl⟩ := hcs
      refine .inr ⟨x, rfl, Nat.le_trans hl hm, fun i hi => ?_⟩
      obtain ⟨v0, y0, n0, e0, t0⟩ := hcell i hi 0 _ rfl
      obtain ⟨v1, y1, n1, e1, t1⟩ := hcell i hi 1 _ rfl
      obtain ⟨v2, y2, n2, e2, t2⟩ := hcell i hi 2 _ rfl
      obtain ⟨z0, q0, _, wf0⟩ := DataW.trod_int Try.underlying3 t0
      obtain ⟨z1, q1, _, _⟩ := DataW.trod_int Try.underlying3 t1
      obtain ⟨z2, q2, _, wf2⟩ := DataW.trod_int Try.underlying2 t2
      simp at q0 q1 q2
      subst q0 q1 q2
      exact ⟨z0, z1, z2, e0, e1, e2, wf0, wf2⟩
  clear hA0 hval0
  refine (walk a0 a1 len1 cap1 W w1).mono fun e W' ⟨he, bel⟩ => ?_
  subst he
  exact ⟨_, rfl, _, _, _, [], _, [], hW', trodAll_mk1 (shut_bool Try.underlying4 _), (trodAll_cons_mk (shut_int Try.underlying3 w0) (trodAll_cons_mk (Below.trod laidOut (by kernel_rfl) (of_decide_eq_true (by kernel_rfl)) k1 bel lt1) trodAll_mk0)), rfl, bel.frame _, fun h => by cases h⟩

theorem over : Rows.crewPlaysRow.holds Try.pinned (OpenSpec.ofChange Rows.crewPlaysSpec) :=
  OpenClaim.holds_of_wide 3 Try.f3 rfl rfl rfl rfl rfl rfl rfl ⟨rfl, rfl, rfl, rfl, rfl⟩ rfl rfl rfl rfl rfl (by kernel_rfl) Try.func3 (by kernel_rfl)
    (of_decide_eq_true (by kernel_rfl)) (by unfold Func.isWrapper; first | (rw [if_pos (by decide +kernel)]; kernel_rfl) | (rw [if_neg (by decide +kernel)]; exact ⟨rfl, rfl⟩))
    (fun os started H enc _ => lifted os started H enc)

end Go.Proofs.Ytjehpdandidkmaa.crewPlays
namespace Go.Proofs.Ytjehpdandidkmaa
theorem crewPlays_holds : Rows.CrewPlaysSaid := crewPlays.over
#print axioms crewPlays_holds
end Go.Proofs.Ytjehpdandidkmaa
