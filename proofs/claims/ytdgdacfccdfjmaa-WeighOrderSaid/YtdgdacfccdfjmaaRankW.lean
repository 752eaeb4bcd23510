/- Contracts of package weigh's Rank at three weights, over the translation: the first place that it tells is that of the heaviest, of alike ones the earliest. Condition: the cells are float64 words. -/
import Derived.Test.YtdgdacfccdfjmaaWg3
import Derived.Test.YtdgdacfccdfjmaaLaid
import Derived.Deep.OwnRows
import Derived.Deep.QuietTactic
import Derived.BigQuiet
namespace Go.Proofs.Ytdgdacfccdfjmaa
open Go.RowKit Go.Shelf Go.Sort

theorem quiet_left {P : Program} {f : FuncId} {args : Array Value} {w : World} {n : Nat} {v : Value}
    (h : Calls P f args (w.drewN n) fun e w' => e = .returned v ∧ w.drewN n = w') : Calls P f args (w.drewN n) fun e w'' => e = .returned v ∧ ∃ m, w'' = w.drewN m :=
  h.mono fun _ _ ⟨he, hm⟩ => ⟨he, n, hm.symm⟩

set_option maxHeartbeats 400000 in
theorem nan_int (x : Int) (w : World) : Calls Try.prog 27 #[.int .i64 x] w fun e w' => e = .returned (.bool false) ∧ w = w' := by
  have h : (x != x) = false := by simp
  go_enter Try.func27, Try.ntmps27
  go_wp2
  go_ret
  exact ⟨rfl, rfl⟩

set_option maxHeartbeats 400000 in
theorem cmp_int_any (x y : Int) (w : World) : Calls Try.prog 21 #[.int .i64 x, .int .i64 y] w fun e w' => e = .returned (.int .i64 (cI x y)) ∧ w = w' := by
  rcases Int.lt_trichotomy x y with h | h | h
  · rw [cI_lt h]
    go_enter Try.func21, Try.ntmps21
    go_wp2_with (go_at_call 27; refine (nan_int _ _).mono ?_; rintro e w' ⟨rfl, rfl⟩)
    go_ret
    exact ⟨rfl, rfl⟩
  · subst h
    rw [cI_eq]
    go_enter Try.func21, Try.ntmps21
    go_wp2_with (go_at_call 27; refine (nan_int _ _).mono ?_; rintro e w' ⟨rfl, rfl⟩)
    go_ret
    exact ⟨rfl, rfl⟩
  · rw [cI_gt h]
    have h' : ¬ x < y := by omega
    have h2 : decide (x < y) = false := by simp; omega
    go_enter Try.func21, Try.ntmps21
    go_wp2_with (go_at_call 27; refine (nan_int _ _).mono ?_; rintro e w' ⟨rfl, rfl⟩)
    go_ret
    exact ⟨rfl, rfl⟩

/-- What Rank's closure tells of two places. -/
def cP (F : Nat → Nat) (i j : Nat) : Int := if cF (F j) (F i) ≠ 0 then cF (F j) (F i) else cI i j

/-- Where the weights lie, and the closure's own cell. -/
def Lies (w : World) (pb lb off n cap : Nat) (F : Nat → Nat) : Prop :=
  w.cell? ⟨pb, 0, none⟩ = some (.slice (some ⟨lb, off, none⟩) n cap) ∧ ∀ j, j < n → w.cell? ⟨lb, off + j, none⟩ = some (.float .f64 (F j))

set_option maxHeartbeats 1000000 in
theorem closure (w : World) (pb lb off n cap : Nat) (F : Nat → Nat) (i j : Nat) (hF : ∀ j, j < n → F j < 18446744073709551616) (h : Lies w pb lb off n cap F) (hi : i < n) (hj : j < n) :
    Calls Try.prog 20 #[.int .i64 i, .int .i64 j, .pointer (some ⟨pb, 0, none⟩)] w fun e w' => e = .returned (.int .i64 (cP F i j)) ∧ ∃ q, w' = w.drewN q := by
  have hc := h.1
  have hci := h.2 i hi
  have hcj := h.2 j hj
  have hfi := hF i hi
  have hfj := hF j hj
  clear h hF
  by_cases h0 : cF (F j) (F i) = 0
  · have e : cP F i j = cI i j := by unfold cP; rw [if_neg (by simpa using h0)]
    rw [e]
    clear e
    go_enter Try.func20, Try.ntmps20
    go_wp2
    go_quiet ((go_at_call 7; exact quiet_left (wcmp _ _ _ (by assumption) (by assumption))))
    go_wp2_with (go_at_call 21; refine (cmp_int_any _ _ _).mono ?_; rintro e w' ⟨rfl, rfl⟩)
    go_ret
    exact ⟨rfl, _, rfl⟩
  · have e : cP F i j = cF (F j) (F i) := by unfold cP; rw [if_pos h0]
    have h1 : (cF (F j) (F i) != 0) = true := by simpa using h0
    rw [e]
    clear e h0
    go_enter Try.func20, Try.ntmps20
    go_wp2
    go_quiet ((go_at_call 7; exact quiet_left (wcmp _ _ _ (by assumption) (by assumption))))
    go_wp2
    go_ret
    exact ⟨rfl, _, rfl⟩

end Go.Proofs.Ytdgdacfccdfjmaa
