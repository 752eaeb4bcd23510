/- The law's own up: the document's example. No condition. -/
import Derived.Test.YtnghhcjfalgkdaaRi
namespace Go.Proofs.Ytnghhcjfalgkdaa
open Go.RowKit
set_option linter.unusedVariables false
set_option maxRecDepth 100000

set_option maxHeartbeats 2000000 in
theorem up_any (w : World) : Calls Try.prog 5 #[] w fun e w' => e = .returned (.bool true) ∧ Below w.heap.size w w' := by
  have HE := Lib.hid (And.intro eql_err neq_err)
  go_enter Try.func5, Try.ntmps5
  go_wp2_with fail
  refine (new_oki 1 w (by omega) (by omega)).mono ?_
  rintro e w1 ⟨rfl, hr1, hb1⟩
  have HR1 := Lib.hid hr1
  have HB1 := Lib.hid hb1
  clear hr1 hb1
  go_wp2_with fail
  refine (new_noi 65 _ (by omega)).mono ?_
  rintro e w2 ⟨rfl, rfl⟩
  go_wp2_with fail
  refine (put_roomi HR1.out 5 (by simp) (by simp)).mono ?_
  rintro e w2 ⟨rfl, hr2, hc2⟩
  have HR2 := Lib.hid hr2
  have HB2 := Lib.hid (HB1.out.trans (hc2.below (Nat.le_refl _) HB1.out.size))
  clear hr2 hc2 HR1 HB1
  go_wp2_with fail
  refine (put_fulli HR2.out 6 (by simp)).mono ?_
  rintro e w3 ⟨rfl, d, rfl⟩
  go_wp2_with fail
  refine (take_somei (HR2.out.drewN d)).mono ?_
  rintro e w3 ⟨rfl, hr3, hc3⟩
  have HB2' := Lib.hid (show Below w.heap.size w (w2.drewN d) from ⟨HB2.out.os, HB2.out.tape, HB2.out.output, HB2.out.size, HB2.out.block⟩)
  have HL := Lib.hid (leni hr3)
  have HB3 := Lib.hid (HB2'.out.trans (hc3.below (Nat.le_refl _) HB2'.out.size))
  clear hr3 hc3 HR2 HB2 HB2'
  have he := HE.out.1
  go_wp2_with fail
  refine HL.out.mono ?_
  rintro e w4 ⟨rfl, rfl⟩
  go_wp2
  go_ret
  exact ⟨rfl, HB3.out⟩
end Go.Proofs.Ytnghhcjfalgkdaa
