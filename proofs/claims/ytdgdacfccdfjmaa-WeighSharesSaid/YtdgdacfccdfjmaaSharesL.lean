/- The walk of WeighShares: it returns true, and nothing that was there before the call is changed. Conditions: the list is of at most 300 numbers that fit an int, or it is longer, or empty. -/
import Derived.Test.YtdgdacfccdfjmaaSharesW
namespace Go.Proofs.Ytdgdacfccdfjmaa
open Go.RowKit

def LawRel (w wr : World) (B n : Nat) (G : Nat → Nat) : Prop := wr.rowIs B 22 n (fun j => .float .f64 (G j)) ∧ Below w.heap.size w wr
theorem LawRel.drew {w wr : World} {B n : Nat} {G : Nat → Nat} (h : LawRel w wr B n G) : LawRel w wr.drew B n G := ⟨h.1.drew, h.2.drew⟩

set_option maxHeartbeats 1000000 in
theorem shares_long (a : Option Addr) (len cap : Nat) (w : World) (hlen : 300 < len) (hm : len ≤ maxLen) :
    Calls Try.prog 4 #[.slice a len cap] w fun e w' => e = .returned (.bool true) ∧ Below w.heap.size w w' := by
  unfold maxLen at hm
  have h300 : decide (300 < (len : Int)) = true := by simp; omega
  go_enter Try.func4, Try.ntmps4
  go_wp2_with (go_at_call 6; refine (up_any _).mono ?_; rintro e w1 ⟨rfl, hbel⟩)
  go_ret
  exact ⟨rfl, hbel⟩

set_option maxHeartbeats 1000000 in
theorem shares_zero (a : Option Addr) (cap : Nat) (w : World) :
    Calls Try.prog 4 #[.slice a 0 cap] w fun e w' => e = .returned (.bool true) ∧ Below w.heap.size w w' := by
  go_enter Try.func4, Try.ntmps4
  go_wp2_with (first | (go_at_call 6; refine (up_any _).mono ?_; rintro e w1 ⟨rfl, hbel⟩) | (go_at_call 10; refine (share_none _ _ _).mono ?_; rintro e w2 ⟨rfl, -, hb2⟩))
  refine wp_loop_rounds 1 ?_
  rw [rounds_succ]
  go_wp2
  refine wp_loop_rounds 1 ?_
  rw [rounds_succ]
  go_wp2
  go_ret
  exact ⟨rfl, hbel.trans (hb2.mono hbel.size)⟩

set_option maxHeartbeats 2000000 in
theorem shares_some (b off n cap : Nat) (z : Nat → Int) (w : World) (h0 : 0 < n) (hn : n ≤ 300) (hb : b < w.heap.size) (hz : ∀ j, j < n → z j < 9223372036854775808) (hc : ∀ j, j < n → w.cell? ⟨b, off + j, none⟩ = some (.int .i64 (z j))) :
    Calls Try.prog 4 #[.slice (some ⟨b, off, none⟩) n cap] w fun e w' => e = .returned (.bool true) ∧ Below w.heap.size w w' := by
  have HC := Lib.hid hc
  have HZ := Lib.hid hz
  clear hc hz
  have h300 : decide (300 < (n : Int)) = false := by simp; omega
  go_enter Try.func4, Try.ntmps4
  go_wp2_with (go_at_call 6; refine (up_any _).mono ?_; rintro e w1 ⟨rfl, hbel⟩)
  have hs1 := hbel.size
  refine (share_any b off n cap z w1 hn (by omega) HZ.out (fun j hj => (hbel.cell (by exact hb)).trans (HC.out j hj))).mono ?_
  rintro e w2 ⟨rfl, hrow, hb2⟩
  have hL : LawRel w w2 w1.heap.size n (fun j => shareF (sumF z n) (z j)) := ⟨hrow, hbel.trans (hb2.mono hs1)⟩
  clear hrow hb2 hbel hs1
  generalize w1.heap.size = B at hL
  go_wp2
  go_loop [5, 6] (fun v i => ∃ k : Nat, k ≤ n ∧ i = .int .i64 k ∧ v = .float .f64 (sumF z k)) (fun _ i => n - (intOf i).toNat)
  case atStart => exact ⟨0, by omega, rfl, rfl⟩
  case round =>
    obtain ⟨k, hk, rfl, rfl⟩ := hrel
    by_cases hlt : k < n
    · have ck : w2.cell? ⟨b, off + k, none⟩ = some (.int .i64 (z k)) := (hL.2.cell (by exact hb)).trans (HC.out k hlt)
      by_cases hz : 0 < z k
      · have hadd := fun w => add_run hz w
        go_wp2
        go_round
        case rel => exact ⟨k + 1, by omega, by go_num, rfl⟩
        case measure => simp [intOf]; omega
      · have HS := Lib.hid (sumF_skip hz)
        have hz' : z k ≤ 0 := by omega
        go_wp2
        go_round
        case rel => exact ⟨k + 1, by omega, by go_num, by rw [HS.out]⟩
        case measure => simp [intOf]; omega
    · obtain rfl : k = n := by omega
      have hO := Lib.hid (sumF_ok z k)
      generalize sumF z k = S at hL hO
      go_wp2
      go_loopw [7] (fun i wr => ∃ j : Nat, j ≤ k ∧ i = .int .i64 j ∧ LawRel w wr B k (fun j => shareF S (z j))) (fun i _ => k - (intOf i).toNat)
      case atStart => exact ⟨0, by omega, rfl, hL⟩
      case round =>
        clear hL
        obtain ⟨j, hj, rfl, hr⟩ := hrel
        by_cases hlt : j < k
        · have cj : wr.cell? ⟨b, off + j, none⟩ = some (.int .i64 (z j)) := (hr.2.cell (by exact hb)).trans (HC.out j hlt)
          have rc : wr.cell? ⟨B, j, none⟩ = some (.float .f64 (shareF S (z j))) := hr.1.cell hlt
          have hzj := HZ.out j hlt
          have hsl : shareF S (z j) < 18446744073709551616 := shareF_lt hzj hO.out
          by_cases hp : 0 < z j
          · have hq := fun w => quo_run hp hzj hO.out w
            have hse := cF_self (shareF S (z j))
            have hp' : 0 ≤ z j := by omega
            go_wp2_with (go_at_call 11; refine (same_any _ _ _ (by assumption) (by assumption)).mono ?_; rintro e w' ⟨rfl, rfl⟩)
            go_roundw
            case rel => exact ⟨j + 1, by omega, by go_num, hr⟩
            case measure => simp [intOf]; omega
          · by_cases hq : z j < 0
            · rw [shareF_neg hq] at rc
              have hse := cF_nn isN_NaN (nb_nan wr)
              have hl := nb_lt wr
              have hp' : z j ≤ 0 := by omega
              have hrd := Lib.hid hr.drew
              go_wp2_with (first | (go_at_call 11; refine (same_any _ _ _ (by first | assumption | decide) (by first | assumption | decide)).mono ?_; rintro e w' ⟨rfl, rfl⟩) | (go_at_call 9; refine (none_any _).mono ?_; rintro e w' ⟨rfl, rfl⟩))
              go_roundw
              case rel => exact ⟨j + 1, by omega, by go_num, hrd.out⟩
              case measure => simp [intOf]; omega
            · have h0 : z j = 0 := by omega
              rw [h0] at cj rc
              rw [shareF_zero] at rc
              have hse := cF_self 0
              clear hp hq h0 hsl hzj
              go_wp2_with (go_at_call 11; refine (same_any _ _ _ (by decide) (by decide)).mono ?_; rintro e w' ⟨rfl, rfl⟩)
              go_roundw
              case rel => exact ⟨j + 1, by omega, by go_num, hr⟩
              case measure => simp [intOf]; omega
        · go_wp2
          go_ret
          exact ⟨rfl, hr.2⟩

end Go.Proofs.Ytdgdacfccdfjmaa
