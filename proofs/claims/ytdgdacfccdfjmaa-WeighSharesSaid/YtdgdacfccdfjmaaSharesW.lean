/- The walk of WeighShares, and contracts of package weigh's Share: it returns true, and nothing that was there before the call is changed. -/
import Derived.Test.YtdgdacfccdfjmaaWg3
import Derived.Test.YtdgdacfccdfjmaaFls
import Derived.Deep.OwnRows
namespace Go.Proofs.Ytdgdacfccdfjmaa
open Go.RowKit

theorem run_store_float (P : Program) (w : World) (a : Addr) (m : Mode) (k : FloatKind) (b : Nat) : (store a (.float k b) m).run P w = stored P w a (.float k b) m := run_store P w a _ m rfl
attribute [local go_sem] run_store_float

theorem info_float : (Try.prog.info? 22).map (fun i => (i.zero, i.size, i.bytes)) = some (some (.float .f64 0), 1, 8) := by kernel_rfl

set_option maxHeartbeats 400000 in
theorem same_any (a b : Nat) (w : World) (ha : a < 18446744073709551616) (hb : b < 18446744073709551616) : Calls Try.prog 11 #[.float .f64 a, .float .f64 b] w fun e w' => e = .returned (.bool (cF a b == 0)) ∧ w = w' := by
  go_enter Try.func11, Try.ntmps11
  go_wp2_with (go_at_call 8; refine (rcmp _ _ _ (by assumption) (by assumption)).mono ?_; rintro e w' ⟨rfl, rfl⟩)
  go_ret
  exact ⟨rfl, rfl⟩

set_option maxHeartbeats 400000 in
theorem nan_std (w : World) : Calls Try.prog 18 #[] w fun e w' => e = .returned (.float .f64 9221120237041090561) ∧ w = w' := by
  have h2 := run_frombits
  go_enter Try.func18, Try.ntmps18
  go_wp2
  go_ret
  exact ⟨rfl, rfl⟩

theorem add_run {z : Nat → Int} {k : Nat} (h : 0 < z k) (w : World) : (binOp .add 22 (.float .f64 (sumF z k)) (.float .f64 (floatOfInt .f64 (z k)))).run Try.prog w = .ok (.float .f64 (sumF z (k + 1))) w :=
  run_float_arith w .add _ .f64 _ _ _ (sumF_add h)
theorem quo_run {s : Nat} {x : Int} (h0 : 0 < x) (h1 : x < 9223372036854775808) (hs : okW s) (w : World) : (binOp .quo 22 (.float .f64 (floatOfInt .f64 x)) (.float .f64 s)).run Try.prog w = .ok (.float .f64 (shareF s x)) w :=
  run_float_arith w .quo _ .f64 _ _ _ (shareF_pos h0 h1 hs)

set_option maxHeartbeats 1000000 in
theorem sum_none (a : Option Addr) (cap : Nat) (w : World) : Calls Try.prog 17 #[.slice a 0 cap] w fun e w' => e = .returned (.float .f64 0) ∧ w = w' := by
  go_enter Try.func17, Try.ntmps17
  go_wp2
  refine wp_loop_rounds 1 ?_
  rw [rounds_succ]
  go_wp2
  go_ret
  exact ⟨rfl, rfl⟩

set_option maxHeartbeats 1000000 in
theorem sum_any (b off n cap : Nat) (z : Nat → Int) (w : World) (hn : n ≤ 9223372036854775807) (hc : ∀ j, j < n → w.cell? ⟨b, off + j, none⟩ = some (.int .i64 (z j))) :
    Calls Try.prog 17 #[.slice (some ⟨b, off, none⟩) n cap] w fun e w' => e = .returned (.float .f64 (sumF z n)) ∧ w = w' := by
  have HC := Lib.hid hc
  clear hc
  go_enter Try.func17, Try.ntmps17
  go_wp2
  go_loop [3, 8] (fun v i => ∃ k : Nat, k ≤ n ∧ i = .int .i64 k ∧ v = .float .f64 (sumF z k)) (fun _ i => n - (intOf i).toNat)
  case atStart => exact ⟨0, by omega, rfl, rfl⟩
  case round =>
    obtain ⟨k, hk, rfl, rfl⟩ := hrel
    by_cases hlt : k < n
    · have ck := HC.out k hlt
      by_cases hz : 0 < z k
      · have hadd := fun w => add_run hz w
        go_wp2
        go_round
        case rel => exact ⟨k + 1, by omega, by go_num, rfl⟩
        case measure => simp [intOf]; omega
      · have HS := Lib.hid (sumF_skip hz)
        have hz' : z k ≤ 0 := by omega
        go_wp2
        go_round
        case rel => exact ⟨k + 1, by omega, by go_num, by rw [HS.out]⟩
        case measure => simp [intOf]; omega
    · obtain rfl : k = n := by omega
      go_wp2
      go_ret
      exact ⟨rfl, rfl⟩

/-- What Share leaves. -/
def Shared (w : World) (n : Nat) (G : Nat → Nat) (e : Ending) (w' : World) : Prop :=
  e = .returned (.slice (some ⟨w.heap.size, 0, none⟩) n n) ∧ w'.rowIs w.heap.size 22 n (fun j => .float .f64 (G j)) ∧ Below w.heap.size w w'

theorem below_made (w : World) (o : Obj) : Below w.heap.size w (w.alloc o) := (Below.refl _ _).alloc (Nat.le_refl _) _

set_option maxHeartbeats 1000000 in
theorem share_none (a : Option Addr) (cap : Nat) (w : World) : Calls Try.prog 10 #[.slice a 0 cap] w (Shared w 0 (fun _ => 0)) := by
  have hmk : ∀ W : World, (Instr.makeSlice 28 (.int .i64 0) (.int .i64 0)).run Try.prog W = .ok (.slice (some ⟨W.heap.size, 0, none⟩) 0 0) (W.alloc (.cells (madeCells #[.float .f64 0] 0) 22)) :=
    fun W : World => run_make_row' (P := Try.prog) 28 22 (.float .f64 0) 8 Try.underlying28 info_float rfl .i64 .i64 0 (by omega) (by omega) W
  go_enter Try.func10, Try.ntmps10
  go_wp2_with (go_at_call 17; refine (sum_none _ _ _).mono ?_; rintro e w' ⟨rfl, rfl⟩)
  refine wp_loop_rounds 1 ?_
  rw [rounds_succ]
  go_wp2
  go_ret
  exact ⟨rfl, World.rowIs_made w (.float .f64 0) 0 _, below_made w _⟩

def part (S : Nat) (z : Nat → Int) (k j : Nat) : Nat := if j < k then shareF S (z j) else 0
theorem part_all (S : Nat) (z : Nat → Int) {n j : Nat} (h : j < n) : part S z n j = shareF S (z j) := if_pos h

def ShRel (w wr : World) (n S : Nat) (z : Nat → Int) (k : Nat) : Prop := wr.rowIs w.heap.size 22 n (fun j => .float .f64 (part S z k j)) ∧ Below w.heap.size w wr

theorem ShRel.put {w wr : World} {n S : Nat} {z : Nat → Int} {k : Nat} (h : ShRel w wr n S z k) (v : Nat) (hv : v = shareF S (z k)) : ShRel w (wr.setCell ⟨w.heap.size, k, none⟩ (.float .f64 v)) n S z (k + 1) := by
  subst hv
  refine ⟨(h.1.set k _).congr fun i _ => ?_, h.2.setCell (Nat.le_refl _) _⟩
  unfold part
  by_cases e : i = k
  · subst e; rw [if_pos rfl, if_pos (by omega)]
  · rw [if_neg e]
    by_cases e2 : i < k
    · rw [if_pos e2, if_pos (by omega)]
    · rw [if_neg e2, if_neg (by omega)]
theorem ShRel.skip {w wr : World} {n S : Nat} {z : Nat → Int} {k : Nat} (h : ShRel w wr n S z k) (hz : z k = 0) : ShRel w wr n S z (k + 1) := by
  refine ⟨h.1.congr fun i _ => ?_, h.2⟩
  unfold part
  by_cases e : i = k
  · subst e; rw [if_neg (by omega), if_pos (by omega), hz, shareF_zero]
  · by_cases e2 : i < k
    · rw [if_pos e2, if_pos (by omega)]
    · rw [if_neg e2, if_neg (by omega)]

set_option maxHeartbeats 1000000 in
theorem share_any (b off n cap : Nat) (z : Nat → Int) (w : World) (hn : n ≤ 300) (hb : b < w.heap.size) (hz : ∀ j, j < n → z j < 9223372036854775808) (hc : ∀ j, j < n → w.cell? ⟨b, off + j, none⟩ = some (.int .i64 (z j))) :
    Calls Try.prog 10 #[.slice (some ⟨b, off, none⟩) n cap] w (Shared w n (fun j => shareF (sumF z n) (z j))) := by
  have hmk := fun W : World => run_make_row' (P := Try.prog) 28 22 (.float .f64 0) 8 Try.underlying28 info_float rfl .i64 .i64 n (by omega) (by omega) W
  have HS := Lib.hid (sum_any b off n cap z w (by omega) hc)
  have HC := Lib.hid hc
  have HZ := Lib.hid hz
  have hO := Lib.hid (sumF_ok z n)
  clear hc hz
  generalize sumF z n = S at HS hO
  go_enter Try.func10, Try.ntmps10
  go_wp2_with (go_at_call 17; refine HS.out.mono ?_; rintro e w' ⟨rfl, rfl⟩)
  go_loopw [14] (fun i wr => ∃ k : Nat, k ≤ n ∧ i = .int .i64 k ∧ ShRel w wr n S z k) (fun i _ => n - (intOf i).toNat)
  case atStart => exact ⟨0, by omega, rfl, World.rowIs_made w (.float .f64 0) n _, below_made w _⟩
  case round =>
    obtain ⟨k, hk, rfl, hr⟩ := hrel
    by_cases hlt : k < n
    · have ck : wr.cell? ⟨b, off + k, none⟩ = some (.int .i64 (z k)) := (hr.2.cell (by exact hb)).trans (HC.out k hlt)
      have hzk := HZ.out k hlt
      have rc := hr.1.cell hlt
      have rf := hr.1.frozen k
      by_cases hp : 0 < z k
      · have hq := fun w => quo_run hp hzk hO.out w
        have hnx := Lib.hid (hr.put (shareF S (z k)) rfl)
        go_wp2
        go_roundw
        case rel => exact ⟨k + 1, by omega, by go_num, hnx.out⟩
        case measure => simp [intOf]; omega
      · by_cases hq : z k < 0
        · have hnx := Lib.hid (hr.put 9221120237041090561 (shareF_neg hq).symm)
          have hp' : z k ≤ 0 := by omega
          go_wp2_with (go_at_call 18; refine (nan_std _).mono ?_; rintro e w' ⟨rfl, rfl⟩)
          go_roundw
          case rel => exact ⟨k + 1, by omega, by go_num, hnx.out⟩
          case measure => simp [intOf]; omega
        · have h0 : z k = 0 := by omega
          have hnx := Lib.hid (hr.skip h0)
          rw [h0] at ck
          clear h0
          go_wp2
          go_roundw
          case rel => exact ⟨k + 1, by omega, by go_num, hnx.out⟩
          case measure => simp [intOf]; omega
    · obtain rfl : k = n := by omega
      go_wp2
      go_ret
      exact ⟨rfl, hr.1.congr fun i hi => by rw [part_all S z hi], hr.2⟩

end Go.Proofs.Ytdgdacfccdfjmaa
