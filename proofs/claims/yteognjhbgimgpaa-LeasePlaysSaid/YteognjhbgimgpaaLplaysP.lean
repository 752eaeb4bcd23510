/-
  Proved here: for every number n and every list of deeds the law LeasePlays returns true (what anything that is done with a lease comes to), and both arguments read afterwards as before.
  Conditions: none of ours (the statement's own: what came in can be read).
-/
import Derived.Test.YteognjhbgimgpaaRows
import Derived.Test.YteognjhbgimgpaaLp
import Derived.Test.YteognjhbgimgpaaSl
import Derived.WalkKit
import Derived.ProofKit
import Derived.OpenShut
import Derived.ShutString
import Derived.ChangeOld
import Derived.Below
namespace Go.Proofs.Yteognjhbgimgpaa.leasePlays
open Go.ChangeShapes Go.WideShapes Go.ChangeAt Go.RowKit Go.Deep
open Go.ChangeMaps (open_string shut_string)
set_option linter.unusedVariables false

theorem own : ownKnob Try.prog.godebug = none := by kernel_rfl
theorem laidOut : laidOutB Try.prog = true := by kernel_rfl

/-- What the walk is told of a slice of deeds that came in. -/
def IsDeeds (w : World) (a : Option Addr) (len : Nat) : Prop :=
  (a = none ∧ len = 0) ∨ ∃ x, a = some x ∧ len ≤ maxLen ∧ ∀ i, i < len → ∃ wh y ep now : Int, w.cell? (x.add (i * 4 + 0)) = some (.int .i64 wh) ∧ w.cell? (x.add (i * 4 + 1)) = some (.int .i64 y) ∧
    w.cell? (x.add (i * 4 + 2)) = some (.int .u64 ep) ∧ w.cell? (x.add (i * 4 + 3)) = some (.int .i64 now) ∧ (Lit.int .i64 wh).wf = true ∧ (Lit.int .i64 y).wf = true

theorem walk (a0 : Int) (a1 : Option Addr) (len1 cap1 : Nat) (w : World) (w1 : IsDeeds w a1 len1) :
    Calls Try.prog 3 #[.int .i64 a0, .slice a1 len1 cap1] w fun e w' => e = .returned (.bool true) ∧ Below w.heap.size w w' := by
  by_cases hn : 1 ≤ a0 ∧ a0 ≤ 1000
  · by_cases hl : 300 < len1
    · refine plays_long a0 a1 len1 cap1 w hn.1 hn.2 hl ?_
      rcases w1 with ⟨_, h⟩ | ⟨x, _, h, _⟩
      · omega
      · exact h
    · refine plays_some a0 a1 len1 cap1 w hn.1 hn.2 (by omega) fun h0 => ?_
      rcases w1 with ⟨_, h⟩ | ⟨⟨b, off, spot⟩, rfl, h, hcell⟩
      · omega
      · have hspot : spot = none := by
          obtain ⟨wh, y, ep, now, c0, _⟩ := hcell 0 h0
          simpa [Addr.add] using World.cell?_spot c0
        subst hspot
        have hlt : b < w.heap.size := by
          obtain ⟨wh, y, ep, now, c0, _⟩ := hcell 0 h0
          exact World.block_lt_of_cell? w _ c0
        refine ⟨b, off, rfl, hlt, fun j hj => ?_⟩
        obtain ⟨wh, y, ep, now, c0, c1, c2, c3, q0, q1⟩ := hcell j hj
        rw [add_lit] at c0 c1 c2 c3
        rw [← Nat.add_assoc] at c1 c2 c3
        exact ⟨wh, y, ep, now, c0, c1, c2, c3, by simpa [Lit.wf, IntKind.min, IntKind.max, IntKind.signed, IntKind.bits] using q0, by
          have h : -9223372036854775808 ≤ y ∧ y ≤ 9223372036854775807 := by simpa [Lit.wf, IntKind.min, IntKind.max, IntKind.signed, IntKind.bits] using q1
          exact h.2⟩
  · exact plays_bad a0 a1 len1 cap1 w (by omega)

/-- The deeds that came in. -/
theorem deeds_in {H : Type} {enc : TypeId × Value → H} {w : World} {base fuel : Nat} {held : Bool} {cs : List Value} {x : DataW H × List MemPlace} (h : DataW.trod enc Try.prog w base (fun _ => true) held fuel 22 cs = some x) :
    cs = [.slice none 0 0] ∨ ∃ (a : Addr) (len cap : Nat), cs = [.slice (some a) len cap] ∧ len ≤ maxLen ∧ IsDeeds w (some a) len := by
  rcases slice_cells Try.underlying22 Try.underlying35 (by kernel_rfl) (by kernel_rfl) h with h0 | ⟨a, len, cap, hcs, hl, hm, hc⟩
  · exact .inl h0
  · refine .inr ⟨a, len, cap, hcs, Nat.le_trans hl hm, .inr ⟨a, rfl, Nat.le_trans hl hm, fun i hi => ?_⟩⟩
    obtain ⟨v0, y0, n0, k0, t0⟩ := hc i hi 0 _ rfl
    obtain ⟨v1, y1, n1, k1, t1⟩ := hc i hi 1 _ rfl
    obtain ⟨v2, y2, n2, k2, t2⟩ := hc i hi 2 _ rfl
    obtain ⟨v3, y3, n3, k3, t3⟩ := hc i hi 3 _ rfl
    obtain ⟨z0, q0, -, wf0⟩ := DataW.trod_int Try.underlying3 t0
    obtain ⟨z1, q1, -, wf1⟩ := DataW.trod_int Try.underlying3 t1
    obtain ⟨z2, q2, -, -⟩ := DataW.trod_int Try.underlying31 t2
    obtain ⟨z3, q3, -, -⟩ := DataW.trod_int Try.underlying2 t3
    simp at q0 q1 q2 q3
    subst q0 q1 q2 q3
    exact ⟨z0, z1, z2, z3, k0, k1, k2, k3, wf0, wf1⟩

set_option maxRecDepth 100000 in
theorem lifted (os : Os) (started : os.Started) (H : Type) (enc : TypeId × Value → H) :
    ReturnsInHanded {} Try.checked os 3 .any (Rows.leasePlaysSpec.pre6 enc Try.prog Try.f3 Rows.leasePlaysRow.domain false) (Rows.leasePlaysSpec.post enc Try.prog Try.f3 false true false false) := by
  refine returnsInHanded_of_change (C := Try.checked) own started (by kernel_rfl) Try.func3
    (ChangeSpec.witness6 (enc := enc) (C := Try.checked) false ⟨#[], #[.int .i64 0, .slice none 0 0], []⟩ 8 (by kernel_rfl) (by kernel_rfl) (by kernel_rfl) (by kernel_rfl)) ?_
  intro W base args ds gs before hval0 hW hcnd _
  have hval : ∀ (j : Nat) t v, Try.f3.params[j]? = some t → args[j]? = some v → Value.okWide Try.prog W .any base t v := hval0
  have hW' := hW
  obtain ⟨p, q, hA0, hV, rfl, hfz, hnd⟩ := hW
  have hA : DataW.TrodAll enc Try.prog W 0 (fun _ => true) true Try.f3.params.toList args.toList ds p := hA0
  rw [Try.params3] at hA hval
  obtain ⟨v0, vs0, d0, ds0, p0, q0, hargs, rfl, rfl, h0, r0⟩ := trodAll_cons hA
  obtain ⟨v1, vs1, d1, ds1, p1, q1, rfl, rfl, rfl, h1, r1⟩ := trodAll_cons r0
  obtain ⟨rfl, rfl, rfl⟩ := trodAll_nil r1
  obtain rfl : args = #[v0, v1] := by cases args; simp_all
  obtain ⟨rfl, rfl⟩ := trodVars_none hV
  obtain ⟨a0, rfl, rfl, rfl, w0⟩ := open_int Try.underlying3 (hval 0 3 v0 rfl rfl) h0
  obtain ⟨a1, len1, cap1, rfl⟩ := okWide_slice Try.underlying22 (hval 1 22 v1 rfl rfl)
  have k1 := h1
  have lt1 : ∀ x ∈ p1, x.block < W.heap.size := by obtain ⟨m, hm⟩ := k1; exact DataW.trod_lt m _ _ _ hm
  have w1 : IsDeeds W a1 len1 := by
    obtain ⟨fuel, hf⟩ := h1
    rcases deeds_in hf with hcs | ⟨x, l, c, hcs, hl, hd⟩
    · simp [Value.cells] at hcs
      obtain ⟨rfl, rfl, rfl⟩ := hcs
      exact .inl ⟨rfl, rfl⟩
    · simp [Value.cells] at hcs
      obtain ⟨rfl, rfl, rfl⟩ := hcs
      exact hd
  clear hA0 hval0
  refine (walk a0 a1 len1 cap1 W w1).mono fun e W' ⟨he, bel⟩ => ?_
  subst he
  exact ⟨_, rfl, _, _, _, [], _, [], hW', trodAll_mk1 (shut_bool Try.underlying4 _), (trodAll_cons_mk (shut_int Try.underlying3 w0) (trodAll_cons_mk (Below.trod laidOut (by kernel_rfl) (of_decide_eq_true (by kernel_rfl)) k1 bel lt1) trodAll_mk0)), rfl, bel.frame _, fun h => by cases h⟩

theorem over : Rows.leasePlaysRow.holds Try.pinned (OpenSpec.ofChange Rows.leasePlaysSpec) :=
  OpenClaim.holds_of_wide 3 Try.f3 rfl rfl rfl rfl rfl rfl rfl ⟨rfl, rfl, rfl, rfl, rfl⟩ rfl rfl rfl rfl rfl (by kernel_rfl) Try.func3 (by kernel_rfl)
    (of_decide_eq_true (by kernel_rfl)) (by unfold Func.isWrapper; first | (rw [if_pos (by decide +kernel)]; kernel_rfl) | (rw [if_neg (by decide +kernel)]; exact ⟨rfl, rfl⟩))
    (fun os started H enc _ => lifted os started H enc)

end Go.Proofs.Yteognjhbgimgpaa.leasePlays
namespace Go.Proofs.Yteognjhbgimgpaa
theorem leasePlays_holds : Rows.LeasePlaysSaid := leasePlays.over
#print axioms leasePlays_holds
end Go.Proofs.Yteognjhbgimgpaa
