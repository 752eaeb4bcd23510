/-
  Proved here: for every three weights the law WeighOrder returns true (Compare is an order; the heaviest is the first of the ranks, and none is heavier), and the arguments read afterwards as before.
  Conditions: none of ours (the statement's own: what came in can be read).
-/
import Derived.Test.YtdgdacfccdfjmaaRows
import Derived.Test.YtdgdacfccdfjmaaRank3
import Derived.WalkKit
import Derived.ProofKit
import Derived.OpenShut
import Derived.ChangeOld
import Derived.Below
namespace Go.Proofs.Ytdgdacfccdfjmaa.weighOrder
open Go.ChangeShapes Go.WideShapes Go.ChangeAt Go.RowKit
set_option linter.unusedVariables false

theorem own : ownKnob Try.prog.godebug = none := by kernel_rfl
theorem laidOut : laidOutB Try.prog = true := by kernel_rfl

theorem wf_lt {b : Nat} (h : (Lit.float .f64 b).wf = true) : b < 18446744073709551616 := by
  simpa [Lit.wf] using h

/-- The three weights, by their place. -/
def F3 (a b c j : Nat) : Nat := if j = 0 then a else if j = 1 then b else c

theorem F3_lt {a b c : Nat} (ha : a < 18446744073709551616) (hb : b < 18446744073709551616) (hc : c < 18446744073709551616) (j : Nat) : F3 a b c j < 18446744073709551616 := by
  unfold F3
  split
  · exact ha
  · split
    · exact hb
    · exact hc

theorem F3_cells (a b c : Nat) (w : World) (j : Nat) (h : j < 3) : (w.alloc (.cells #[.float .f64 a, .float .f64 b, .float .f64 c] 22)).cell? ⟨w.heap.size, 0 + j, none⟩ = some (.float .f64 (F3 a b c j)) := by
  obtain rfl | rfl | rfl : j = 0 ∨ j = 1 ∨ j = 2 := by omega
  · simp [go_sem, F3]
  · simp [go_sem, F3]
  · simp [go_sem, F3]

theorem two (a b : Nat) : (rk a < rk b ∧ cF a b = -1) ∨ (rk a = rk b ∧ cF a b = 0) ∨ (rk b < rk a ∧ cF a b = 1) := by
  rcases Int.lt_trichotomy (rk a) (rk b) with h | h | h
  · exact .inl ⟨h, cI_lt h⟩
  · exact .inr (.inl ⟨h, by unfold cF; rw [h]; exact cI_eq _⟩)
  · exact .inr (.inr ⟨h, cI_gt h⟩)

/-- How three stand to each other: x, y, z with x also the other way round. -/
def Three (x x' y z : Int) : Prop := x' = -x ∧ (x = -1 ∨ x = 0 ∨ x = 1) ∧ (y = -1 ∨ y = 0 ∨ y = 1) ∧ (z = -1 ∨ z = 0 ∨ z = 1) ∧ ¬ (x ≤ 0 ∧ y ≤ 0 ∧ 0 < z) ∧ ¬ (x < 0 ∧ y ≤ 0 ∧ 0 ≤ z)

theorem three (a b c : Nat) : Three (cF a b) (cF b a) (cF b c) (cF a c) := by
  refine ⟨cF_anti a b, cF_bd a b, cF_bd b c, cF_bd a c, ?_, ?_⟩ <;> rcases two a b with ⟨h1, e1⟩ | ⟨h1, e1⟩ | ⟨h1, e1⟩ <;> rcases two b c with ⟨h2, e2⟩ | ⟨h2, e2⟩ | ⟨h2, e2⟩ <;> rcases two a c with ⟨h3, e3⟩ | ⟨h3, e3⟩ | ⟨h3, e3⟩ <;> omega

theorem cF_ge {a b : Nat} (h : rk b ≤ rk a) : 0 ≤ cF a b := by
  rcases two a b with ⟨h1, e1⟩ | ⟨h1, e1⟩ | ⟨h1, e1⟩ <;> omega

theorem hv3 (a b c : Nat) : ∃ m : Nat, hv (F3 a b c) 3 = m ∧ m < 3 ∧ 0 ≤ cF (F3 a b c m) a ∧ 0 ≤ cF (F3 a b c m) b ∧ 0 ≤ cF (F3 a b c m) c := by
  have hb := hv_bd (F3 a b c) 3
  obtain ⟨m, hm⟩ : ∃ m : Nat, hv (F3 a b c) 3 = m := ⟨(hv (F3 a b c) 3).toNat, by omega⟩
  have h1 := (hv_best (F3 a b c) 3 m hm).1
  exact ⟨m, hm, by omega, cF_ge (h1 0 (by omega)), cF_ge (h1 1 (by omega)), cF_ge (h1 2 (by omega))⟩

set_option maxRecDepth 100000 in
set_option maxHeartbeats 4000000 in
theorem walk (a b c : Nat) (w : World) (ha : a < 18446744073709551616) (hb : b < 18446744073709551616) (hc : c < 18446744073709551616) :
    Calls Try.prog 5 #[.float .f64 a, .float .f64 b, .float .f64 c] w fun e w' => e = .returned (.bool true) ∧ Below w.heap.size w w' := by
  obtain ⟨m, hm, hm3, g1, g2, g3⟩ := hv3 a b c
  obtain ⟨t0, tx, ty, tz, n1, n2⟩ := three a b c
  have hF := F3_lt ha hb hc
  have HF := Lib.hid hF
  have HM := Lib.hid hm
  have HG := Lib.hid (And.intro g1 (And.intro g2 g3))
  have hmF := hF m
  clear hF hm
  rcases tx with hx | hx | hx <;> rcases ty with hy | hy | hy <;> rcases tz with hz | hz | hz
  all_goals first
    | (exfalso; omega)
    | skip
  all_goals
    rw [hx] at t0
    clear n1 n2
    go_enter Try.func5, Try.ntmps5
    go_wp2_with (first | (go_at_call 6; refine (up_any _).mono ?_; rintro e w1 ⟨rfl, hbel⟩) | (go_at_call 7; refine (wcmp _ _ _ (by assumption) (by assumption)).mono ?_; rintro e w' ⟨rfl, rfl⟩))
    refine (heaviest_any _ 0 3 3 (F3 a b c) _ (by decide) (fun j _ => HF.out j) (F3_cells a b c _)).mono ?_
    rintro e w' ⟨rfl, rfl⟩
    rw [HM.out]
    go_wp2_with fail
    refine (rank3 _ _ 0 3 (F3 a b c) (fun j _ => HF.out j) (by simp) (F3_cells a b c _)).mono ?_
    rintro e w3 ⟨rfl, hb3, hr0⟩
    rw [HM.out] at hr0
    obtain ⟨g1, g2, g3⟩ := HG.out
    have hcm : w3.cell? ⟨w1.heap.size, m, none⟩ = some (.float .f64 (F3 a b c m)) := by
      rw [hb3.cell (by simp)]
      have := F3_cells a b c w1 m hm3
      rwa [Nat.zero_add] at this
    have hb3' : Below w.heap.size w w3 := (hbel.alloc hbel.size _).trans (hb3.mono (by have := hbel.size; simp; omega))
    clear hb3
    simp only [World.size_alloc] at hr0
    go_wp2_with (go_at_call 7; refine (wcmp _ _ _ (by assumption) (by assumption)).mono ?_; rintro e w' ⟨rfl, rfl⟩)
    go_ret
    exact ⟨rfl, hb3'⟩

set_option maxRecDepth 100000 in
theorem lifted (os : Os) (started : os.Started) (H : Type) (enc : TypeId × Value → H) :
    ReturnsInHanded {} Try.checked os 5 .any (Rows.weighOrderSpec.pre6 enc Try.prog Try.f5 Rows.weighOrderRow.domain false) (Rows.weighOrderSpec.post enc Try.prog Try.f5 false true false false) := by
  refine returnsInHanded_of_change (C := Try.checked) own started (by kernel_rfl) Try.func5
    (ChangeSpec.witness6 (enc := enc) (C := Try.checked) false ⟨#[], #[.float .f64 0, .float .f64 0, .float .f64 0], []⟩ 8 (by kernel_rfl) (by kernel_rfl) (by kernel_rfl) (by kernel_rfl)) ?_
  intro W base args ds gs before hval0 hW hcnd _
  have hval : ∀ (j : Nat) t v, Try.f5.params[j]? = some t → args[j]? = some v → Value.okWide Try.prog W .any base t v := hval0
  have hW' := hW
  obtain ⟨p, q, hA0, hV, rfl, hfz, hnd⟩ := hW
  have hA : DataW.TrodAll enc Try.prog W 0 (fun _ => true) true Try.f5.params.toList args.toList ds p := hA0
  rw [Try.params5] at hA hval
  obtain ⟨v0, vs0, d0, ds0, p0, q0, hargs, rfl, rfl, h0, r0⟩ := trodAll_cons hA
  obtain ⟨v1, vs1, d1, ds1, p1, q1, rfl, rfl, rfl, h1, r1⟩ := trodAll_cons r0
  obtain ⟨v2, vs2, d2, ds2, p2, q2, rfl, rfl, rfl, h2, r2⟩ := trodAll_cons r1
  obtain ⟨rfl, rfl, rfl⟩ := trodAll_nil r2
  obtain rfl : args = #[v0, v1, v2] := by cases args; simp_all
  obtain ⟨rfl, rfl⟩ := trodVars_none hV
  obtain ⟨a0, rfl, rfl, rfl, w0⟩ := open_float Try.underlying22 (hval 0 22 v0 rfl rfl) h0
  obtain ⟨a1, rfl, rfl, rfl, w1⟩ := open_float Try.underlying22 (hval 1 22 v1 rfl rfl) h1
  obtain ⟨a2, rfl, rfl, rfl, w2⟩ := open_float Try.underlying22 (hval 2 22 v2 rfl rfl) h2
  clear hA0 hval0
  refine (walk a0 a1 a2 W (wf_lt w0) (wf_lt w1) (wf_lt w2)).mono fun e W' ⟨he, bel⟩ => ?_
  subst he
  exact ⟨_, rfl, _, _, _, [], _, [], hW', trodAll_mk1 (shut_bool Try.underlying4 _), (trodAll_cons_mk (shut_float Try.underlying22 w0) (trodAll_cons_mk (shut_float Try.underlying22 w1) (trodAll_cons_mk (shut_float Try.underlying22 w2) trodAll_mk0))), rfl, bel.frame _, fun h => by cases h⟩

theorem over : Rows.weighOrderRow.holds Try.pinned (OpenSpec.ofChange Rows.weighOrderSpec) :=
  OpenClaim.holds_of_wide 5 Try.f5 rfl rfl rfl rfl rfl rfl rfl ⟨rfl, rfl, rfl, rfl, rfl⟩ rfl rfl rfl rfl rfl (by kernel_rfl) Try.func5 (by kernel_rfl)
    (of_decide_eq_true (by kernel_rfl)) (by unfold Func.isWrapper; first | (rw [if_pos (by decide +kernel)]; kernel_rfl) | (rw [if_neg (by decide +kernel)]; exact ⟨rfl, rfl⟩))
    (fun os started H enc _ => lifted os started H enc)

end Go.Proofs.Ytdgdacfccdfjmaa.weighOrder
namespace Go.Proofs.Ytdgdacfccdfjmaa
theorem weighOrder_holds : Rows.WeighOrderSaid := weighOrder.over
#print axioms weighOrder_holds
end Go.Proofs.Ytdgdacfccdfjmaa
