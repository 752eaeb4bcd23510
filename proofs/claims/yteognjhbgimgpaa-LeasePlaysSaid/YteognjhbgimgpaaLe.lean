/- The law's own up: the document's example. No condition. -/
import Derived.Test.YteognjhbgimgpaaLd
namespace Go.Proofs.Yteognjhbgimgpaa
open Go.RowKit
set_option linter.unusedVariables false
set_option maxRecDepth 100000

theorem up_facts : takeK (-1) 0 0 0 = 0 ∧ told 0 (-1) 0 0 0 = 1 ∧ takeE 0 (-1) 0 0 0 = 1 ∧ takeH (-1) 0 0 0 = 0 ∧ takeU 5 (-1) 0 0 0 = 5 ∧
    takeK 0 5 1 0 = 7 ∧ told 1 0 5 1 0 = 0 ∧ takeE 1 0 5 1 0 = 1 ∧ takeH 0 5 1 0 = 0 ∧ takeU 5 0 5 1 0 = 5 ∧
    takeK 0 5 1 5 = 0 ∧ told 1 0 5 1 5 = 2 ∧ takeE 1 0 5 1 5 = 2 ∧ takeH 0 5 1 5 = 1 ∧ takeU 5 0 5 1 5 = 10 ∧ chK 2 1 0 1 = 8 := by decide

set_option maxHeartbeats 2000000 in
theorem up_any (w : World) : Calls Try.prog 4 #[] w fun e w' => e = .returned (.bool true) ∧ Below w.heap.size w w' := by
  have HE := Lib.hid eql_err
  obtain ⟨a1, a2, a3, a4, a5, b1, b2, b3, b4, b5, d1, d2, d3, d4, d5, d6⟩ := up_facts
  have HA := Lib.hid (And.intro a1 (And.intro a2 (And.intro a3 (And.intro a4 a5))))
  have HB := Lib.hid (And.intro b1 (And.intro b2 (And.intro b3 (And.intro b4 b5))))
  have HD := Lib.hid (And.intro d1 (And.intro d2 (And.intro d3 (And.intro d4 (And.intro d5 d6)))))
  clear a1 a2 a3 a4 a5 b1 b2 b3 b4 b5 d1 d2 d3 d4 d5 d6
  go_enter Try.func4, Try.ntmps4
  go_wp2_with fail
  refine (new_ok 5 w (by omega) (by omega)).mono ?_
  rintro e w1 ⟨rfl, hr1, hb1, -⟩
  have HM1 := Lib.hid hr1
  have HB1 := Lib.hid hb1
  clear hr1 hb1
  go_wp2_with fail
  refine (new_no 0 _ (by omega)).mono ?_
  rintro e w2 ⟨rfl, rfl⟩
  have HT := Lib.hid (take_any (x := 0) (now := 0) HM1.out ⟨by omega, by omega, by omega, by omega, by omega, by omega, by omega, by omega⟩ (by omega) (by omega))
  unfold TakeO at HT
  rw [HA.out.1, HA.out.2.1, HA.out.2.2.1, HA.out.2.2.2.1, HA.out.2.2.2.2, errV_zero] at HT
  go_wp2_with fail
  refine HT.out.mono ?_
  rintro e w2 ⟨rfl, hl2⟩
  have HM2 := Lib.hid hl2.1
  have HB2 := Lib.hid (HB1.out.trans (hl2.2.below (Nat.le_refl _)))
  have HT2 := Lib.hid (take_any (x := 1) (now := 0) HM2.out ⟨by omega, by omega, by omega, by omega, by omega, by omega, by omega, by omega⟩ (by omega) (by omega))
  unfold TakeO at HT2
  rw [HB.out.1, HB.out.2.1, HB.out.2.2.1, HB.out.2.2.2.1, HB.out.2.2.2.2, errV_some (show (7 : Int) ≠ 0 by omega)] at HT2
  clear hl2 HT HM1 HB1
  go_wp2_with fail
  refine HT2.out.mono ?_
  rintro e w3 ⟨rfl, hl3⟩
  have HM3 := Lib.hid hl3.1
  have HB3 := Lib.hid (HB2.out.trans (hl3.2.below (Nat.le_refl _)))
  have HT3 := Lib.hid (take_any (x := 1) (now := 5) HM3.out ⟨by omega, by omega, by omega, by omega, by omega, by omega, by omega, by omega⟩ (by omega) (by omega))
  unfold TakeO at HT3
  rw [HD.out.1, HD.out.2.1, HD.out.2.2.1, HD.out.2.2.2.1, HD.out.2.2.2.2.1] at HT3
  rw [errV_zero] at HT3
  clear hl3 HT2 HM2 HB2
  go_wp2_with fail
  refine HT3.out.mono ?_
  rintro e w4 ⟨rfl, hl4⟩
  have HB4 := Lib.hid (HB3.out.trans (hl4.2.below (Nat.le_refl _)))
  have HC := Lib.hid (check_any hl4.1 0 1)
  rw [HD.out.2.2.2.2.2, errV_some (show (8 : Int) ≠ 0 by omega)] at HC
  clear hl4 HT3 HM3 HB3
  have he := HE.out
  go_wp2_with fail
  refine HC.out.mono ?_
  rintro e w5 ⟨rfl, rfl⟩
  go_wp2
  go_ret
  exact ⟨rfl, HB4.out⟩
end Go.Proofs.Yteognjhbgimgpaa
