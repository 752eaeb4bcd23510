/-
  Proved here: for every number of cells and every list of deeds the law CellPlays returns true (whatever is done with cells comes to what the document says), and both arguments read afterwards as before.
  Conditions: none of ours (the statement's own: what came in can be read).
-/
import Derived.Test.YtmdpklaonniimaaRows
import Derived.Test.YtmdpklaonniimaaPlaysW
import Derived.Test.YtmdpklaonniimaaPlaysE
import Derived.Deep.Slices
import Derived.Deep.Fields
import Derived.WalkKit
import Derived.ProofKit
import Derived.OpenShut
import Derived.ShutString
import Derived.ChangeOld
import Derived.Below
namespace Go.Proofs.Ytmdpklaonniimaa.cellPlays
open Go.ChangeShapes Go.WideShapes Go.ChangeAt Go.RowKit Go.Deep
open Go.ChangeMaps (open_string shut_string)
set_option linter.unusedVariables false

theorem own : ownKnob Try.prog.godebug = none := by kernel_rfl
theorem laidOut : laidOutB Try.prog = true := by kernel_rfl

section
variable {H : Type} {enc : TypeId × Value → H} {P : Program} {w : World} {base : Nat} {spare : Nat → Bool} {held : Bool}
/-- A slice of structs that came in: nil, or at each element each field's own cell, and its reading. -/
theorem slice_cells {t e : TypeId} {fs : Array Field} {fuel : Nat} {cs : List Value} {x : DataW H × List MemPlace} (ht : P.underlying t = some (.slice e)) (he : P.underlying e = some (.struct fs))
    (hone : oneCellFields P fs = true) (hC : P.cellsOf e = fs.size) (h : DataW.trod enc P w base spare held fuel t cs = some x) :
    cs = [.slice none 0 0] ∨ ∃ (a : Addr) (len cap : Nat), cs = [.slice (some a) len cap] ∧ len ≤ cap ∧ cap ≤ maxLen ∧
      ∀ i, i < len → ∀ (j : Nat) (f : Field), fs[j]? = some f → ∃ (v : Value) (y : DataW H × List MemPlace) (n : Nat), w.cell? (a.add (i * fs.size + j)) = some v ∧ DataW.trod enc P w base spare held n f.type [v] = some y := by
  rcases open_slice ht h with h0 | ⟨a, len, cap, m, n, D, Pl, hcs, _, hl, hm, hmm, _, hi⟩
  · exact .inl h0.1
  · refine .inr ⟨a, len, cap, hcs, hl, hm, fun i hil j f hj => ?_⟩
    have him : i < m := by
      rw [hmm]
      split <;> omega
    obtain ⟨cs', hc, ht'⟩ := hi i him
    rw [hC] at hc
    obtain ⟨_, hcl, hat⟩ := World.cells?_some hc
    obtain ⟨ys, n', _, _, _, hyl, hf⟩ := DataW.trod_struct he ht'
    obtain ⟨ho, hk⟩ := hone_of hone j f hj
    have hjl : j < fs.size := (Array.getElem?_eq_some_iff.1 hj).1
    have h1 := hf j f hj
    rw [ho, hk] at h1
    have e1 : (cs'.drop j).take 1 = [cs'[j]'(by omega)] := by
      rw [List.drop_eq_getElem_cons (by omega)]
      rfl
    rw [e1, List.getElem?_eq_getElem (show j < ys.length by omega)] at h1
    refine ⟨cs'[j]'(by omega), _, n', ?_, h1⟩
    rw [← add_add, hat j hjl, List.getElem?_eq_getElem (by omega)]
end

theorem cells33 : Try.prog.cellsOf 33 = 4 := by kernel_rfl

/-- What the walk is told of the deeds that came in. -/
def IsDeeds (w : World) (a : Option Addr) (len : Nat) : Prop :=
  (a = none ∧ len = 0) ∨ ∃ x, a = some x ∧ len ≤ maxLen ∧ ∀ i, i < len → ∃ wh at' od v : Int, w.cell? (x.add (i * 4 + 0)) = some (.int .i64 wh) ∧ w.cell? (x.add (i * 4 + 1)) = some (.int .i64 at') ∧
    w.cell? (x.add (i * 4 + 2)) = some (.int .u64 od) ∧ w.cell? (x.add (i * 4 + 3)) = some (.int .u64 v) ∧ (Lit.int .i64 wh).wf = true

theorem walk (a0 : Int) (a1 : Option Addr) (len1 cap1 : Nat) (w : World) (w1 : IsDeeds w a1 len1) :
    Calls Try.prog 3 #[.int .i64 a0, .slice a1 len1 cap1] w fun e w' => e = .returned (.bool true) ∧ Below w.heap.size w w' := by
  by_cases hn : a0 < 1 ∨ 1000 < a0
  · exact plays_bad a0 a1 len1 cap1 w hn
  · rcases w1 with ⟨rfl, rfl⟩ | ⟨x, rfl, hm, hcell⟩
    · exact plays_zero a0 none cap1 w (by omega) (by omega)
    · by_cases h3 : 300 < len1
      · exact plays_long a0 (some x) len1 cap1 w (by omega) (by omega) h3 hm
      · by_cases h0 : len1 = 0
        · subst h0
          exact plays_zero a0 (some x) cap1 w (by omega) (by omega)
        · obtain ⟨b, off, spot⟩ := x
          have hspot : spot = none := by
            obtain ⟨wh, at', od, v, c0, _⟩ := hcell 0 (by omega)
            simpa [Addr.add] using World.cell?_spot c0
          subst hspot
          have hb : b < w.heap.size := by
            obtain ⟨wh, at', od, v, c0, _⟩ := hcell 0 (by omega)
            exact World.block_lt_of_cell? w _ c0
          refine plays_some a0 b off len1 cap1 w (by omega) (by omega) (by omega) hb fun i hi => ?_
          obtain ⟨wh, at', od, v, c0, c1, c2, c3, hw⟩ := hcell i hi
          rw [add_plain] at c0 c1 c2 c3
          refine ⟨wh, at', od, v, c0, ?_, ?_, ?_, ?_⟩
          · rw [show off + i * 4 + 1 = off + (i * 4 + 1) by omega]
            exact c1
          · rw [show off + i * 4 + 1 + 1 = off + (i * 4 + 2) by omega]
            exact c2
          · rw [show off + i * 4 + 1 + 1 + 1 = off + (i * 4 + 3) by omega]
            exact c3
          · simpa [Lit.wf, IntKind.min, IntKind.max, IntKind.signed, IntKind.bits] using hw

set_option maxRecDepth 100000 in
theorem lifted (os : Os) (started : os.Started) (H : Type) (enc : TypeId × Value → H) :
    ReturnsInHanded {} Try.checked os 3 .any (Rows.cellPlaysSpec.pre6 enc Try.prog Try.f3 Rows.cellPlaysRow.domain false) (Rows.cellPlaysSpec.post enc Try.prog Try.f3 false true false false) := by
  refine returnsInHanded_of_change (C := Try.checked) own started (by kernel_rfl) Try.func3
    (ChangeSpec.witness6 (enc := enc) (C := Try.checked) false ⟨#[], #[.int .i64 0, .slice none 0 0], []⟩ 8 (by kernel_rfl) (by kernel_rfl) (by kernel_rfl) (by kernel_rfl)) ?_
  intro W base args ds gs before hval0 hW hcnd _
  have hval : ∀ (j : Nat) t v, Try.f3.params[j]? = some t → args[j]? = some v → Value.okWide Try.prog W .any base t v := hval0
  have hW' := hW
  obtain ⟨p, q, hA0, hV, rfl, hfz, hnd⟩ := hW
  have hA : DataW.TrodAll enc Try.prog W 0 (fun _ => true) true Try.f3.params.toList args.toList ds p := hA0
  rw [Try.params3] at hA hval
  obtain ⟨v0, vs0, d0, ds0, p0, q0, hargs, rfl, rfl, h0, r0⟩ := trodAll_cons hA
  obtain ⟨v1, vs1, d1, ds1, p1, q1, rfl, rfl, rfl, h1, r1⟩ := trodAll_cons r0
  obtain ⟨rfl, rfl, rfl⟩ := trodAll_nil r1
  obtain rfl : args = #[v0, v1] := by cases args; simp_all
  obtain ⟨rfl, rfl⟩ := trodVars_none hV
  obtain ⟨a0, rfl, rfl, rfl, w0⟩ := open_int Try.underlying3 (hval 0 3 v0 rfl rfl) h0
  obtain ⟨a1, len1, cap1, rfl⟩ := okWide_slice Try.underlying22 (hval 1 22 v1 rfl rfl)
  have k1 := h1
  have lt1 : ∀ x ∈ p1, x.block < W.heap.size := by obtain ⟨m, hm⟩ := k1; exact DataW.trod_lt m _ _ _ hm
  have w1 : IsDeeds W a1 len1 := by
    obtain ⟨fuel, hf⟩ := h1
    rcases slice_cells Try.underlying22 Try.underlying33 (by kernel_rfl) (by kernel_rfl) hf with hcs | ⟨x, l, c, hcs, hl, hm, hcell⟩
    · simp [Value.cells] at hcs
      exact .inl ⟨hcs.1, hcs.2.1⟩
    · simp [Value.cells] at hcs
      obtain ⟨rfl, rfl, rfl⟩ := hcs
      refine .inr ⟨x, rfl, Nat.le_trans hl hm, fun i hi => ?_⟩
      obtain ⟨v0, y0, n0, e0, t0⟩ := hcell i hi 0 _ rfl
      obtain ⟨v1, y1, n1, e1, t1⟩ := hcell i hi 1 _ rfl
      obtain ⟨v2, y2, n2, e2, t2⟩ := hcell i hi 2 _ rfl
      obtain ⟨v3, y3, n3, e3, t3⟩ := hcell i hi 3 _ rfl
      obtain ⟨z0, q0, _, wf0⟩ := DataW.trod_int Try.underlying3 t0
      obtain ⟨z1, q1, _, _⟩ := DataW.trod_int Try.underlying3 t1
      obtain ⟨z2, q2, _, _⟩ := DataW.trod_int Try.underlying31 t2
      obtain ⟨z3, q3, _, _⟩ := DataW.trod_int Try.underlying31 t3
      simp at q0 q1 q2 q3
      subst q0 q1 q2 q3
      exact ⟨z0, z1, z2, z3, e0, e1, e2, e3, wf0⟩
  clear hA0 hval0
  refine (walk a0 a1 len1 cap1 W w1).mono fun e W' ⟨he, bel⟩ => ?_
  subst he
  exact ⟨_, rfl, _, _, _, [], _, [], hW', trodAll_mk1 (shut_bool Try.underlying4 _), (trodAll_cons_mk (shut_int Try.underlying3 w0) (trodAll_cons_mk (Below.trod laidOut (by kernel_rfl) (of_decide_eq_true (by kernel_rfl)) k1 bel lt1) trodAll_mk0)), rfl, bel.frame _, fun h => by cases h⟩

theorem over : Rows.cellPlaysRow.holds Try.pinned (OpenSpec.ofChange Rows.cellPlaysSpec) :=
  OpenClaim.holds_of_wide 3 Try.f3 rfl rfl rfl rfl rfl rfl rfl ⟨rfl, rfl, rfl, rfl, rfl⟩ rfl rfl rfl rfl rfl (by kernel_rfl) Try.func3 (by kernel_rfl)
    (of_decide_eq_true (by kernel_rfl)) (by unfold Func.isWrapper; first | (rw [if_pos (by decide +kernel)]; kernel_rfl) | (rw [if_neg (by decide +kernel)]; exact ⟨rfl, rfl⟩))
    (fun os started H enc _ => lifted os started H enc)

end Go.Proofs.Ytmdpklaonniimaa.cellPlays
namespace Go.Proofs.Ytmdpklaonniimaa
theorem cellPlays_holds : Rows.CellPlaysSaid := cellPlays.over
#print axioms cellPlays_holds
end Go.Proofs.Ytmdpklaonniimaa
