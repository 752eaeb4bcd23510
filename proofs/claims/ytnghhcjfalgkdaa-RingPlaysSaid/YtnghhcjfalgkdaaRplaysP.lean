/-
  Proved here: for every number n and every list of deeds the law RingPlays returns true (what anything that is done with a ring comes to), and both arguments read afterwards as before.
  Conditions: none of ours (the statement's own: what came in can be read).
-/
import Derived.Test.YtnghhcjfalgkdaaRows
import Derived.Test.YtnghhcjfalgkdaaRp
import Derived.Test.YtnghhcjfalgkdaaSl
import Derived.WalkKit
import Derived.ProofKit
import Derived.OpenShut
import Derived.ShutString
import Derived.ChangeOld
import Derived.Below
namespace Go.Proofs.Ytnghhcjfalgkdaa.ringPlays
open Go.ChangeShapes Go.WideShapes Go.ChangeAt Go.RowKit Go.Deep
open Go.ChangeMaps (open_string shut_string)
set_option linter.unusedVariables false

theorem own : ownKnob Try.prog.godebug = none := by kernel_rfl
theorem laidOut : laidOutB Try.prog = true := by kernel_rfl

/-- What the walk is told of a slice of deeds that came in. -/
def IsDeeds (w : World) (a : Option Addr) (len : Nat) : Prop :=
  (a = none ∧ len = 0) ∨ ∃ x, a = some x ∧ len ≤ maxLen ∧ ∀ i, i < len → ∃ (wh : Int) (tx : ByteArray), w.cell? (x.add (i * 2 + 0)) = some (.int .i64 wh) ∧ w.cell? (x.add (i * 2 + 1)) = some (.string tx) ∧ (Lit.int .i64 wh).wf = true

theorem walk (a0 : Int) (a1 : Option Addr) (len1 cap1 : Nat) (w : World) (w1 : IsDeeds w a1 len1) :
    Calls Try.prog 3 #[.int .i64 a0, .slice a1 len1 cap1] w fun e w' => e = .returned (.bool true) ∧ Below w.heap.size w w' := by
  by_cases hn : 1 ≤ a0 ∧ a0 ≤ 64
  · obtain ⟨n, rfl⟩ := Int.eq_ofNat_of_zero_le (show 0 ≤ a0 by omega)
    by_cases hl : 300 < len1
    · refine plays_long n a1 len1 cap1 w (by omega) (by omega) hl ?_
      rcases w1 with ⟨_, h⟩ | ⟨x, _, h, _⟩
      · omega
      · exact h
    · rcases w1 with ⟨rfl, rfl⟩ | ⟨⟨b, off, spot⟩, rfl, h, hcell⟩
      · exact plays_some n none 0 cap1 (fun _ => 0) (fun _ => ⟨#[]⟩) w (by omega) (by omega) (by omega) (fun h => by omega)
      · have hw : ∀ i, ∃ t : Int × ByteArray, i < len1 → w.cell? ((⟨b, off, spot⟩ : Addr).add (i * 2 + 0)) = some (.int .i64 t.1) ∧ w.cell? ((⟨b, off, spot⟩ : Addr).add (i * 2 + 1)) = some (.string t.2) ∧ (Lit.int .i64 t.1).wf = true := fun i => by
          by_cases hi : i < len1
          · obtain ⟨wh, tx, c0, c1, w0⟩ := hcell i hi
            exact ⟨(wh, tx), fun _ => ⟨c0, c1, w0⟩⟩
          · exact ⟨(0, ⟨#[]⟩), fun h => absurd h hi⟩
        obtain ⟨f, hf⟩ := Classical.axiomOfChoice hw
        refine plays_some n _ len1 cap1 (fun i => (f i).1) (fun i => (f i).2) w (by omega) (by omega) (by omega) fun h0 => ?_
        have hspot : spot = none := by simpa [Addr.add] using World.cell?_spot (hf 0 h0).1
        subst hspot
        refine ⟨b, off, rfl, World.block_lt_of_cell? w _ (hf 0 h0).1, fun j hj => ?_⟩
        obtain ⟨c0, c1, w0⟩ := hf j hj
        rw [add_lit] at c0 c1
        refine ⟨c0, ?_, ?_⟩
        · rw [Nat.add_assoc]; exact c1
        · simpa [Lit.wf, IntKind.min, IntKind.max, IntKind.signed, IntKind.bits] using w0
  · exact plays_no a0 a1 len1 cap1 w (by omega)

/-- The deeds that came in. -/
theorem deeds_in {H : Type} {enc : TypeId × Value → H} {w : World} {base fuel : Nat} {held : Bool} {cs : List Value} {x : DataW H × List MemPlace} (h : DataW.trod enc Try.prog w base (fun _ => true) held fuel 22 cs = some x) :
    cs = [.slice none 0 0] ∨ ∃ (a : Addr) (len cap : Nat), cs = [.slice (some a) len cap] ∧ len ≤ maxLen ∧ IsDeeds w (some a) len := by
  rcases slice_cells Try.underlying22 Try.underlying33 (by kernel_rfl) (by kernel_rfl) h with h0 | ⟨a, len, cap, hcs, hl, hm, hc⟩
  · exact .inl h0
  · refine .inr ⟨a, len, cap, hcs, Nat.le_trans hl hm, .inr ⟨a, rfl, Nat.le_trans hl hm, fun i hi => ?_⟩⟩
    obtain ⟨v0, y0, n0, k0, t0⟩ := hc i hi 0 _ rfl
    obtain ⟨v1, y1, n1, k1, t1⟩ := hc i hi 1 _ rfl
    obtain ⟨wh, q0, -, wf0⟩ := DataW.trod_int Try.underlying3 t0
    obtain ⟨tx, q1, -, -⟩ := DataW.trod_string Try.underlying9 t1
    simp at q0 q1
    subst q0 q1
    exact ⟨wh, tx, k0, k1, wf0⟩

set_option maxRecDepth 100000 in
theorem lifted (os : Os) (started : os.Started) (H : Type) (enc : TypeId × Value → H) :
    ReturnsInHanded {} Try.checked os 3 .any (Rows.ringPlaysSpec.pre6 enc Try.prog Try.f3 Rows.ringPlaysRow.domain false) (Rows.ringPlaysSpec.post enc Try.prog Try.f3 false true false false) := by
  refine returnsInHanded_of_change (C := Try.checked) own started (by kernel_rfl) Try.func3
    (ChangeSpec.witness6 (enc := enc) (C := Try.checked) false ⟨#[], #[.int .i64 0, .slice none 0 0], []⟩ 8 (by kernel_rfl) (by kernel_rfl) (by kernel_rfl) (by kernel_rfl)) ?_
  intro W base args ds gs before hval0 hW hcnd _
  have hval : ∀ (j : Nat) t v, Try.f3.params[j]? = some t → args[j]? = some v → Value.okWide Try.prog W .any base t v := hval0
  have hW' := hW
  obtain ⟨p, q, hA0, hV, rfl, hfz, hnd⟩ := hW
  have hA : DataW.TrodAll enc Try.prog W 0 (fun _ => true) true Try.f3.params.toList args.toList ds p := hA0
  rw [Try.params3] at hA hval
  obtain ⟨v0, vs0, d0, ds0, p0, q0, hargs, rfl, rfl, h0, r0⟩ := trodAll_cons hA
  obtain ⟨v1, vs1, d1, ds1, p1, q1, rfl, rfl, rfl, h1, r1⟩ := trodAll_cons r0
  obtain ⟨rfl, rfl, rfl⟩ := trodAll_nil r1
  obtain rfl : args = #[v0, v1] := by cases args; simp_all
  obtain ⟨rfl, rfl⟩ := trodVars_none hV
  obtain ⟨a0, rfl, rfl, rfl, w0⟩ := open_int Try.underlying3 (hval 0 3 v0 rfl rfl) h0
  obtain ⟨a1, len1, cap1, rfl⟩ := okWide_slice Try.underlying22 (hval 1 22 v1 rfl rfl)
  have k1 := h1
  have lt1 : ∀ x ∈ p1, x.block < W.heap.size := by obtain ⟨m, hm⟩ := k1; exact DataW.trod_lt m _ _ _ hm
  have w1 : IsDeeds W a1 len1 := by
    obtain ⟨fuel, hf⟩ := h1
    rcases deeds_in hf with hcs | ⟨x, l, c, hcs, hl, hd⟩
    · simp [Value.cells] at hcs
      obtain ⟨rfl, rfl, rfl⟩ := hcs
      exact .inl ⟨rfl, rfl⟩
    · simp [Value.cells] at hcs
      obtain ⟨rfl, rfl, rfl⟩ := hcs
      exact hd
  clear hA0 hval0
  refine (walk a0 a1 len1 cap1 W w1).mono fun e W' ⟨he, bel⟩ => ?_
  subst he
  exact ⟨_, rfl, _, _, _, [], _, [], hW', trodAll_mk1 (shut_bool Try.underlying4 _), (trodAll_cons_mk (shut_int Try.underlying3 w0) (trodAll_cons_mk (Below.trod laidOut (by kernel_rfl) (of_decide_eq_true (by kernel_rfl)) k1 bel lt1) trodAll_mk0)), rfl, bel.frame _, fun h => by cases h⟩

theorem over : Rows.ringPlaysRow.holds Try.pinned (OpenSpec.ofChange Rows.ringPlaysSpec) :=
  OpenClaim.holds_of_wide 3 Try.f3 rfl rfl rfl rfl rfl rfl rfl ⟨rfl, rfl, rfl, rfl, rfl⟩ rfl rfl rfl rfl rfl (by kernel_rfl) Try.func3 (by kernel_rfl)
    (of_decide_eq_true (by kernel_rfl)) (by unfold Func.isWrapper; first | (rw [if_pos (by decide +kernel)]; kernel_rfl) | (rw [if_neg (by decide +kernel)]; exact ⟨rfl, rfl⟩))
    (fun os started H enc _ => lifted os started H enc)

end Go.Proofs.Ytnghhcjfalgkdaa.ringPlays
namespace Go.Proofs.Ytnghhcjfalgkdaa
theorem ringPlays_holds : Rows.RingPlaysSaid := ringPlays.over
#print axioms ringPlays_holds
end Go.Proofs.Ytnghhcjfalgkdaa
