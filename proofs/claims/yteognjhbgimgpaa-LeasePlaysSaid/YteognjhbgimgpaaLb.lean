/- Contracts of package lease. Conditions: as in La. -/
import Derived.Test.YteognjhbgimgpaaLa
namespace Go.Proofs.Yteognjhbgimgpaa
open Go.RowKit
set_option linter.unusedVariables false

set_option maxHeartbeats 400000 in
theorem worker_any (x : Int) (w : World) : Calls Try.prog 17 #[.int .i64 x] w fun e w' => e = .returned (.bool (decide (0 ≤ x))) ∧ w = w' := by
  go_enter Try.func17, Try.ntmps17
  go_wp2
  go_ret
  exact ⟨rfl, rfl⟩

set_option maxHeartbeats 400000 in
theorem time_any (t : Int) (b : Bool) (hb : (decide (0 ≤ t) && decide (t ≤ 1099511627776)) = b) (w : World) : Calls Try.prog 18 #[.int .i64 t] w fun e w' => e = .returned (.bool b) ∧ w = w' := by
  subst hb
  by_cases h : 0 ≤ t
  · have hd : decide (0 ≤ t) = true := by simpa using h
    rw [hd, Bool.true_and]
    go_enter Try.func18, Try.ntmps18
    go_wp2
    go_ret
    exact ⟨rfl, rfl⟩
  · have hd : decide (0 ≤ t) = false := by simpa using h
    rw [hd, Bool.false_and]
    go_enter Try.func18, Try.ntmps18
    go_wp2
    go_ret
    exact ⟨rfl, rfl⟩

set_option maxHeartbeats 400000 in
theorem held_raw (p : Nat) (H U now : Int) (w : World) (h2 : w.cell? ⟨p, 2, none⟩ = some (.int .i64 H)) (h3 : w.cell? ⟨p, 3, none⟩ = some (.int .i64 U)) (hH : -1 ≤ H) :
    Calls Try.prog 19 #[.pointer (some ⟨p, 0, none⟩), .int .i64 now] w fun e w' => e = .returned (.bool (heldB H U now)) ∧ w = w' := by
  rcases heldB_cases H U now with ⟨hb, a, b⟩ | ⟨hb, a | ⟨a, b⟩⟩
  · have hn : (H != -1) = true := by simp; omega
    have hd : decide (now < U) = true := by simpa using b
    rw [hb]
    clear hb
    go_enter Try.func19, Try.ntmps19
    go_wp2
    go_ret
    exact ⟨rfl, rfl⟩
  · obtain rfl : H = -1 := by omega
    rw [hb]
    clear hb
    go_enter Try.func19, Try.ntmps19
    go_wp2
    go_ret
    exact ⟨rfl, rfl⟩
  · have hn : (H != -1) = true := by simp; omega
    have hd : decide (now < U) = false := by simpa using b
    rw [hb]
    clear hb
    go_enter Try.func19, Try.ntmps19
    go_wp2
    go_ret
    exact ⟨rfl, rfl⟩

set_option maxHeartbeats 400000 in
theorem hold_raw (p : Nat) (L now : Int) (w : World) (h0 : w.cell? ⟨p, 0, none⟩ = some (.int .i64 L)) (h3 : ∃ U, w.cell? ⟨p, 3, none⟩ = some (.int .i64 U)) (hf : ∀ j, w.frozen? ⟨p, j, none⟩ = false) (l1 : 1 ≤ L) (l2 : L ≤ 1000) (n1 : 0 ≤ now) (n2 : now ≤ 1099511627776) :
    Calls Try.prog 20 #[.pointer (some ⟨p, 0, none⟩), .int .i64 now] w fun e w' => e = .returned (.tuple #[]) ∧ w.setCell ⟨p, 3, none⟩ (.int .i64 (now + L)) = w' := by
  obtain ⟨U, h3⟩ := h3
  go_enter Try.func20, Try.ntmps20
  go_wp2
  go_end0
  exact ⟨rfl, rfl⟩

theorem hold_any {T : TypeId} {p : Nat} {L E H U now : Int} {w : World} (h : LeM w T p L E H U) (ok : OkL L E H U) (n1 : 0 ≤ now) (n2 : now ≤ 1099511627776) :
    Calls Try.prog 20 #[.pointer (some ⟨p, 0, none⟩), .int .i64 now] w fun e w' => e = .returned (.tuple #[]) ∧ Left w w' T p L E H (now + L) :=
  (hold_raw p L now w h.c0 ⟨_, h.c3⟩ h.frz ok.l1 ok.l2 n1 n2).mono fun e w' ⟨he, hw⟩ => ⟨he, hw ▸ (Left.same h).set3 _⟩

set_option maxHeartbeats 400000 in
theorem check_raw (p : Nat) (E H x e : Int) (w : World) (h1 : w.cell? ⟨p, 1, none⟩ = some (.int .u64 E)) (h2 : w.cell? ⟨p, 2, none⟩ = some (.int .i64 H)) :
    Calls Try.prog 9 #[.pointer (some ⟨p, 0, none⟩), .int .i64 x, .int .u64 e] w fun r w' => r = .returned (errV (chK E H x e)) ∧ w = w' := by
  rcases chK_cases E H x e with ⟨hb, a⟩ | ⟨hb, a, b | ⟨b, c⟩⟩ | ⟨hb, a, b, c⟩
  · have hd : decide (0 ≤ x) = false := by simpa using a
    rw [hb]
    clear hb
    go_enter Try.func9, Try.ntmps9
    go_wp2_with (go_at_call 17; refine (worker_any x _).mono ?_; rintro r w' ⟨rfl, rfl⟩)
    go_ret
    exact ⟨rfl, rfl⟩
  · have hd : decide (0 ≤ x) = true := by simpa using a
    have hn : (H != x) = true := by simpa using b
    rw [hb]
    clear hb
    go_enter Try.func9, Try.ntmps9
    go_wp2_with (go_at_call 17; refine (worker_any x _).mono ?_; rintro r w' ⟨rfl, rfl⟩)
    go_ret
    exact ⟨rfl, rfl⟩
  · have hd : decide (0 ≤ x) = true := by simpa using a
    subst b
    have hm : (E != e) = true := by simpa using c
    rw [hb]
    clear hb
    go_enter Try.func9, Try.ntmps9
    go_wp2_with (go_at_call 17; refine (worker_any _ _).mono ?_; rintro r w' ⟨rfl, rfl⟩)
    go_ret
    exact ⟨rfl, rfl⟩
  · have hd : decide (0 ≤ x) = true := by simpa using a
    subst b c
    rw [hb]
    clear hb
    go_enter Try.func9, Try.ntmps9
    go_wp2_with (go_at_call 17; refine (worker_any _ _).mono ?_; rintro r w' ⟨rfl, rfl⟩)
    go_ret
    exact ⟨rfl, rfl⟩
theorem check_any {T : TypeId} {p : Nat} {L E H U : Int} {w : World} (h : LeM w T p L E H U) (x e : Int) :
    Calls Try.prog 9 #[.pointer (some ⟨p, 0, none⟩), .int .i64 x, .int .u64 e] w fun r w' => r = .returned (errV (chK E H x e)) ∧ w = w' := check_raw p E H x e w h.c1 h.c2

set_option maxHeartbeats 400000 in
theorem epoch_any {T : TypeId} {p : Nat} {L E H U : Int} {w : World} (h : LeM w T p L E H U) :
    Calls Try.prog 16 #[.pointer (some ⟨p, 0, none⟩)] w fun e w' => e = .returned (.int .u64 E) ∧ w = w' := by
  have hp := h.c1
  clear h
  go_enter Try.func16, Try.ntmps16
  go_wp2
  go_ret
  exact ⟨rfl, rfl⟩

/-- Who Holder tells. -/
def hoV (H U now : Int) : Int := if heldB H U now then H else 0
set_option maxHeartbeats 400000 in
theorem holder_any {T : TypeId} {p : Nat} {L E H U : Int} {w : World} (h : LeM w T p L E H U) (hH : -1 ≤ H) (now : Int) :
    Calls Try.prog 15 #[.pointer (some ⟨p, 0, none⟩), .int .i64 now] w fun e w' => e = .returned (.tuple #[.int .i64 (hoV H U now), .bool (heldB H U now)]) ∧ w = w' := by
  have HH := held_raw p H U now w h.c2 h.c3 hH
  have hp := h.c2
  clear h
  unfold hoV
  cases hb : heldB H U now
  all_goals
    rw [hb] at HH
    have HX := Lib.hid HH
    clear hb HH
    go_enter Try.func15, Try.ntmps15
    go_wp2_with (go_at_call 19; refine HX.out.mono ?_; rintro r w' ⟨rfl, rfl⟩)
    go_ret2
    exact ⟨rfl, rfl⟩

set_option maxHeartbeats 400000 in
theorem new_ok (n : Int) (w : World) (h1 : 1 ≤ n) (h2 : n ≤ 1000) :
    Calls Try.prog 5 #[.int .i64 n] w fun e w' => e = .returned (.tuple #[.pointer (some ⟨w.heap.size, 0, none⟩), .nilIface]) ∧ LeM w' 51 w.heap.size n 0 (-1) 0 ∧ Below w.heap.size w w' ∧ w'.heap.size = w.heap.size + 1 := by
  go_enter Try.func5, Try.ntmps5
  go_wp2
  go_ret2
  exact ⟨rfl, lem_new w _ _ _ _ _, (Below.refl _ _).alloc (Nat.le_refl _) _, by simp⟩

set_option maxHeartbeats 400000 in
theorem new_no (n : Int) (w : World) (h : n < 1 ∨ 1000 < n) :
    Calls Try.prog 5 #[.int .i64 n] w fun e w' => e = .returned (.tuple #[.pointer none, .iface 29 (.int .i64 1)]) ∧ w = w' := by
  rcases h with h | h
  · go_enter Try.func5, Try.ntmps5
    go_wp2
    go_ret2
    exact ⟨rfl, rfl⟩
  · have h' : ¬ n < 1 := by omega
    go_enter Try.func5, Try.ntmps5
    go_wp2
    go_ret2
    exact ⟨rfl, rfl⟩
end Go.Proofs.Yteognjhbgimgpaa
