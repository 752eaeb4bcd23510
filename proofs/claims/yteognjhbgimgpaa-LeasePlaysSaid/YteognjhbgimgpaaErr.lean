/- Errors as numbers: '==' of two errors, the law's Code, the law's pick. No condition but that a number is one of api's. -/
import Derived.Test.YteognjhbgimgpaaRows
import Derived.WalkKit
import Derived.WalkSpells
import Derived.WalkLawsBesides
import Derived.Deep.OwnRows
import Derived.LaidEql
import Derived.Lib.Hide
namespace Go.Proofs.Yteognjhbgimgpaa
open Go.RowKit

theorem Try.infoErr : (Try.prog.info? 29).map (fun i => i.comparable) = some true := by kernel_rfl

theorem errs_alike (depth : Nat) (a b : Int) (w : World) : (Op.equalIn (depth + 2) 26 (.iface 29 (.int .i64 a)) (.iface 29 (.int .i64 b))).run Try.prog w = .ok (a == b) w := by
  obtain ⟨i, hi, hc⟩ := Option.map_eq_some_iff.1 Try.infoErr
  have u26 := run_underlying (w := w) Try.underlying26
  simp [Op.equalIn, u26, typeInfo, hi, hc]

/-- Two errors that are numbers of api's own type are the same if the numbers are. -/
theorem eql_err (a b : Int) (w : World) : (binOp .eql 26 (.iface 29 (.int .i64 a)) (.iface 29 (.int .i64 b))).run Try.prog w = .ok (.bool (a == b)) w := by
  have h := errs_alike 9998 a b w
  simp only [binOp, Op.equal, Op.maxDepth]
  simp [h]

theorem neq_err (a b : Int) (w : World) : (binOp .neq 26 (.iface 29 (.int .i64 a)) (.iface 29 (.int .i64 b))).run Try.prog w = .ok (.bool (a != b)) w := by
  have h := errs_alike 9998 a b w
  simp only [binOp, Op.equal, Op.maxDepth]
  simp [h, bne]

theorem ret_int {k : IntKind} {a b : Int} (h : a = b) : Ending.returned (.int k a) = .returned (.int k b) := by rw [h]

/-- An error by its number; 0 is none. -/
def errV (k : Int) : Value := if k = 0 then .nilIface else .iface 29 (.int .i64 k)
theorem errV_zero : errV 0 = .nilIface := rfl
theorem errV_some {k : Int} (h : k ≠ 0) : errV k = .iface 29 (.int .i64 k) := if_neg h

set_option maxHeartbeats 400000 in
theorem code_nil (w : World) : Calls Try.prog 8 #[.nilIface] w fun e w' => e = .returned (.int .i64 0) ∧ w = w' := by
  go_enter Try.func8, Try.ntmps8
  go_wp2
  go_ret
  exact ⟨rfl, rfl⟩

set_option maxHeartbeats 400000 in
theorem code_some (n : Int) (w : World) (h1 : 1 ≤ n) (h2 : n ≤ 11) : Calls Try.prog 8 #[.iface 29 (.int .i64 n)] w fun e w' => e = .returned (.int .i64 n) ∧ w = w' := by
  have he := eql_err
  go_enter Try.func8, Try.ntmps8
  go_wp2
  go_loop [3] (fun i => ∃ k : Int, 1 ≤ k ∧ k ≤ n ∧ i = .int .i64 k) (fun i => (n - intOf i).toNat)
  case atStart => exact ⟨1, by omega, by omega, rfl⟩
  case round =>
    obtain ⟨k, hk1, hk2, rfl⟩ := hrel
    by_cases h6 : k = n
    · subst h6
      go_wp2
      go_ret
      exact ⟨rfl, rfl⟩
    · have hb : (n == k) = false := by simp; omega
      clear h6
      have h6 : k < n := by simp at hb; omega
      go_wp2
      go_round
      case rel => exact ⟨k + 1, by omega, by omega, rfl⟩
      case measure => simp [intOf]; omega

/-- The law's number of an error is the number. -/
theorem code_any (k : Int) (w : World) (h1 : 0 ≤ k) (h2 : k ≤ 11) : Calls Try.prog 8 #[errV k] w fun e w' => e = .returned (.int .i64 k) ∧ w = w' := by
  by_cases h : k = 0
  · subst h
    exact code_nil w
  · rw [errV_some h]
    exact code_some k w (by omega) h2

/-- What pick takes of a raw number, modulo m. -/
def pk (c m : Int) : Int := (if c < 0 then -(c + 1) else c) % m

theorem pk_lt (c m : Int) (hm : 0 < m) : 0 ≤ pk c m ∧ pk c m < m := by
  unfold pk
  exact ⟨Int.emod_nonneg _ (by omega), Int.emod_lt_of_pos _ hm⟩

set_option maxHeartbeats 400000 in
theorem pick_any (c m r : Int) (w : World) (h1 : -9223372036854775808 ≤ c) (h2 : c ≤ 9223372036854775807) (hm : 1 ≤ m) (hm2 : m ≤ 1000) (hr : pk c m = r) :
    Calls Try.prog 10 #[.int .i64 c, .int .i64 m] w fun e w' => e = .returned (.int .i64 r) ∧ w = w' := by
  subst hr
  by_cases hc : c < 0
  · have hv : -(c + 1).tmod m = pk c m := by
      unfold pk
      rw [if_pos hc, ← Int.neg_tmod, Int.tmod_eq_emod_of_nonneg (by omega)]
    have HV := Lib.hid hv
    clear hv
    go_enter Try.func10, Try.ntmps10
    go_wp2
    go_ret
    exact ⟨ret_int HV.out, rfl⟩
  · have hv : c % m = pk c m := by
      unfold pk
      rw [if_neg hc]
    have HV := Lib.hid hv
    clear hv
    go_enter Try.func10, Try.ntmps10
    go_wp2
    go_ret
    exact ⟨ret_int HV.out, rfl⟩
end Go.Proofs.Yteognjhbgimgpaa
