/- Contracts of package weigh's Compare, of cmp.Compare and of the document's own Compare, over the translation: each tells 'cF', the sign of the difference of the two weights' ranks. Condition: words are below 2^64. -/
import Derived.Test.YtdgdacfccdfjmaaRows
import Derived.Test.YtdgdacfccdfjmaaFlm
import Derived.WalkKit
import Derived.WalkSpells
import Derived.WalkLawsBesides
import Derived.Laws.Externs
import Derived.Lib.Hide
namespace Go.Proofs.Ytdgdacfccdfjmaa
open Go.RowKit

theorem run_bits (b : Nat) (w : World) : (callFunc 24 #[.float .f64 b]).run Try.prog w = .ok (.value (.int .u64 b)) w := by
  rw [run_callFunc_extern Try.func24 (by kernel_rfl) (by kernel_rfl) (by kernel_rfl) (e := Extern.MathFloatBits.float64bits) (by kernel_rfl)]
  rfl
theorem run_frombits (n : Int) (w : World) : (callFunc 23 #[.int .u64 n]).run Try.prog w = .ok (.value (.float .f64 n.toNat)) w := by
  rw [run_callFunc_extern Try.func23 (by kernel_rfl) (by kernel_rfl) (by kernel_rfl) (e := Extern.MathFloatBits.float64frombits) (by kernel_rfl)]
  rfl

/-- 1 with a zero's sign. -/
def one (a : Nat) : Nat := if neg a then 13830554455654793216 else 4607182418800017408

set_option maxHeartbeats 400000 in
theorem copysign_pos (w : World) : Calls Try.prog 16 #[.float .f64 4607182418800017408, .float .f64 0] w fun e w' => e = .returned (.float .f64 4607182418800017408) ∧ w = w' := by
  have h1 := run_bits
  have h2 := run_frombits
  go_enter Try.func16, Try.ntmps16
  go_wp2
  go_ret
  exact ⟨rfl, rfl⟩

set_option maxHeartbeats 400000 in
theorem copysign_neg (w : World) : Calls Try.prog 16 #[.float .f64 4607182418800017408, .float .f64 9223372036854775808] w fun e w' => e = .returned (.float .f64 13830554455654793216) ∧ w = w' := by
  have h1 := run_bits
  have h2 := run_frombits
  go_enter Try.func16, Try.ntmps16
  go_wp2
  go_ret
  exact ⟨rfl, rfl⟩

set_option maxHeartbeats 400000 in
theorem nan_of (a : Nat) (w : World) : Calls Try.prog 22 #[.float .f64 a] w fun e w' => e = .returned (.bool (isN a)) ∧ w = w' := by
  have h1 := order_self a
  go_enter Try.func22, Try.ntmps22
  go_wp2
  go_ret
  exact ⟨rfl, rfl⟩

/-- What cmp.Compare tells of two words. -/
def cC (a b : Nat) : Int := if isN a then (if isN b then 0 else -1) else if isN b then 1 else cI (sr a) (sr b)

set_option maxHeartbeats 400000 in
theorem cmp_any (a b : Nat) (w : World) : Calls Try.prog 15 #[.float .f64 a, .float .f64 b] w fun e w' => e = .returned (.int .i64 (cC a b)) ∧ w = w' := by
  cases ha : isN a <;> cases hb : isN b
  · rcases order_cases ha hb with ⟨h1, h2, h3⟩ | ⟨h1, h2, h3⟩ | ⟨h1, h2, h3⟩
    all_goals
      have hc : cC a b = cI (sr a) (sr b) := by unfold cC; rw [ha, hb]; rfl
      rw [hc, h2]
      clear hc h2 h3
      go_enter Try.func15, Try.ntmps15
      go_wp2_with (go_at_call 22; refine (nan_of _ _).mono ?_; rintro e w' ⟨rfl, rfl⟩)
      go_ret
      exact ⟨rfl, rfl⟩
  all_goals
    unfold cC
    rw [ha, hb]
    simp only [Bool.false_eq_true, if_false, if_true]
    go_enter Try.func15, Try.ntmps15
    go_wp2_with (go_at_call 22; refine (nan_of _ _).mono ?_; rintro e w' ⟨rfl, rfl⟩)
    go_ret
    exact ⟨rfl, rfl⟩

end Go.Proofs.Ytdgdacfccdfjmaa
