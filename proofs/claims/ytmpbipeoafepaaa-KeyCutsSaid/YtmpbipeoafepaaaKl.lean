/- The walk of KeyCuts where something that came in has more than 1000 bytes: it returns what its head tells, true. No condition. -/
import Derived.Test.YtmpbipeoafepaaaKw
namespace Go.Proofs.Ytmpbipeoafepaaa
open Go.RowKit
set_option linter.unusedVariables false

set_option maxRecDepth 100000 in
set_option maxHeartbeats 4000000 in
theorem cuts_long (w : World) (A B C D E : Option Addr) (n m o p v c d q u t : Nat) (h : 1000 < o ∨ 1000 < n ∨ 1000 < m ∨ 1000 < p ∨ 1000 < v) :
    Calls Try.prog 3 #[.agg #[.slice A n c, .slice B m d], .slice C o q, .agg #[.slice D p u, .slice E v t]] w fun e w' => e = .returned (.bool true) ∧ Below w.heap.size w w' := by
  have D0 := Lib.hid (Duo.start w (.slice A n c) (.slice B m d) (.slice D p u) (.slice E v t))
  go_enter Try.func3, Try.ntmps3
  go_wp2_with fail
  refine (up_any _).mono ?_
  rintro e w1 ⟨rfl, hb1⟩
  have D1 := Lib.hid (D0.out.below hb1)
  clear D0 hb1
  have c0 := D1.out.b0.c0
  have c1 := D1.out.b0.c1
  have c2 := D1.out.b1.c0
  have c3 := D1.out.b1.c1
  by_cases h1 : 1000 < o
  · clear h
    have g : (1000 : Int) < o := by omega
    go_wp2
    go_ret
    exact ⟨rfl, D1.out.bel⟩
  have g1 : decide (1000 < (o : Int)) = false := by simp; omega
  by_cases h2 : 1000 < n
  · clear h h1
    have g : (1000 : Int) < n := by omega
    go_wp2
    go_ret
    exact ⟨rfl, D1.out.bel⟩
  have g2 : decide (1000 < (n : Int)) = false := by simp; omega
  by_cases h3 : 1000 < m
  · clear h h1 h2
    have g : (1000 : Int) < m := by omega
    go_wp2
    go_ret
    exact ⟨rfl, D1.out.bel⟩
  have g3 : decide (1000 < (m : Int)) = false := by simp; omega
  by_cases h4 : 1000 < p
  · clear h h1 h2 h3
    have g : (1000 : Int) < p := by omega
    go_wp2
    go_ret
    exact ⟨rfl, D1.out.bel⟩
  have g4 : decide (1000 < (p : Int)) = false := by simp; omega
  have g : (1000 : Int) < v := by omega
  clear h h1 h2 h3 h4
  go_wp2
  go_ret
  exact ⟨rfl, D1.out.bel⟩
end Go.Proofs.Ytmpbipeoafepaaa
