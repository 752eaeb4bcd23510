/- Contracts of the document's own lease: Fair, Take, Check. Conditions: as in La. -/
import Derived.Test.YteognjhbgimgpaaLc
namespace Go.Proofs.Yteognjhbgimgpaa
open Go.RowKit
set_option linter.unusedVariables false

set_option maxHeartbeats 400000 in
theorem fair_any (x now : Int) (w : World) : Calls Try.prog 6 #[.int .i64 x, .int .i64 now] w fun e w' => e = .returned (.bool (frB x now)) ∧ w = w' := by
  unfold frB
  by_cases h1 : 0 ≤ x
  · have d1 : decide (0 ≤ x) = true := by simpa using h1
    rw [d1, Bool.true_and]
    by_cases h2 : 0 ≤ now
    · have d2 : decide (0 ≤ now) = true := by simpa using h2
      rw [d2, Bool.true_and]
      go_enter Try.func6, Try.ntmps6
      go_wp2
      go_ret
      exact ⟨rfl, rfl⟩
    · have d2 : decide (0 ≤ now) = false := by simpa using h2
      rw [d2, Bool.false_and]
      go_enter Try.func6, Try.ntmps6
      go_wp2
      go_ret
      exact ⟨rfl, rfl⟩
  · have d1 : decide (0 ≤ x) = false := by simpa using h1
    rw [d1, Bool.false_and]
    go_enter Try.func6, Try.ntmps6
    go_wp2
    go_ret
    exact ⟨rfl, rfl⟩

set_option maxHeartbeats 400000 in
theorem dcheck_raw (p : Nat) (E H x e : Int) (w : World) (h1 : w.cell? ⟨p, 1, none⟩ = some (.int .u64 E)) (h2 : w.cell? ⟨p, 2, none⟩ = some (.int .i64 H)) :
    Calls Try.prog 7 #[.pointer (some ⟨p, 0, none⟩), .int .i64 x, .int .u64 e] w fun r w' => r = .returned (.int .i64 (chK E H x e)) ∧ w = w' := by
  rcases chK_cases E H x e with ⟨hb, a⟩ | ⟨hb, a, b | ⟨b, c⟩⟩ | ⟨hb, a, b, c⟩
  · rw [hb]
    clear hb
    go_enter Try.func7, Try.ntmps7
    go_wp2
    go_ret
    exact ⟨rfl, rfl⟩
  · have hn : (H != x) = true := by simpa using b
    rw [hb]
    clear hb
    go_enter Try.func7, Try.ntmps7
    go_wp2
    go_ret
    exact ⟨rfl, rfl⟩
  · subst b
    have hm : (E != e) = true := by simpa using c
    rw [hb]
    clear hb
    go_enter Try.func7, Try.ntmps7
    go_wp2
    go_ret
    exact ⟨rfl, rfl⟩
  · subst b c
    rw [hb]
    clear hb
    go_enter Try.func7, Try.ntmps7
    go_wp2
    go_ret
    exact ⟨rfl, rfl⟩
theorem dcheck_any {T : TypeId} {p : Nat} {L E H U : Int} {w : World} (h : LeM w T p L E H U) (x e : Int) :
    Calls Try.prog 7 #[.pointer (some ⟨p, 0, none⟩), .int .i64 x, .int .u64 e] w fun r w' => r = .returned (.int .i64 (chK E H x e)) ∧ w = w' := dcheck_raw p E H x e w h.c1 h.c2

/-- What Take leaves, and tells. -/
def DTakeO (w : World) (T : TypeId) (p : Nat) (L E H U x now : Int) (e : Ending) (w' : World) : Prop :=
  e = .returned (.tuple #[.int .u64 (told E H U x now), .int .i64 (takeK H U x now)]) ∧ Left w w' T p L (takeE E H U x now) (takeH H U x now) (takeU L H U x now)

set_option maxHeartbeats 400000 in
theorem dtake_bad (p : Nat) (x now : Int) (w : World) (h : frB x now = false) :
    Calls Try.prog 12 #[.pointer (some ⟨p, 0, none⟩), .int .i64 x, .int .i64 now] w fun e w' => e = .returned (.tuple #[.int .u64 0, .int .i64 1]) ∧ w = w' := by
  have HF := Lib.hid (fair_any x now w)
  rw [h] at HF
  clear h
  go_enter Try.func12, Try.ntmps12
  go_wp2_with (go_at_call 6; refine HF.out.mono ?_; rintro r w' ⟨rfl, rfl⟩)
  go_ret2
  exact ⟨rfl, rfl⟩

set_option maxHeartbeats 400000 in
theorem dtake_mine {T : TypeId} {p : Nat} {L E U x now : Int} {w : World} (hm : LeM w T p L E x U) (ok : OkL L E x U) (hx : 0 ≤ x) (n1 : 0 ≤ now) (n2 : now ≤ 1099511627776) (h : frB x now = true) :
    Calls Try.prog 12 #[.pointer (some ⟨p, 0, none⟩), .int .i64 x, .int .i64 now] w fun e w' => e = .returned (.tuple #[.int .u64 E, .int .i64 0]) ∧ Left w w' T p L E x (now + L) := by
  have HF := Lib.hid (fair_any x now w)
  rw [h] at HF
  have HL := Lib.hid (((Left.same hm).set2 x).set3 (now + L))
  have hd : decide (0 ≤ x) = true := by simpa using hx
  have c0 := hm.c0
  have c1 := hm.c1
  have c2 := hm.c2
  have c3 := hm.c3
  have hf := hm.frz
  have l1 := ok.l1
  have l2 := ok.l2
  clear hm ok hx h
  go_enter Try.func12, Try.ntmps12
  go_wp2_with (go_at_call 6; refine HF.out.mono ?_; rintro r w' ⟨rfl, rfl⟩)
  go_ret2
  exact ⟨rfl, HL.out⟩

set_option maxHeartbeats 400000 in
theorem dtake_busy {T : TypeId} {p : Nat} {L E H U x now : Int} {w : World} (hm : LeM w T p L E H U) (h : frB x now = true) (hn : H ≠ x) (h0 : 0 ≤ H) (h1 : now < U) :
    Calls Try.prog 12 #[.pointer (some ⟨p, 0, none⟩), .int .i64 x, .int .i64 now] w fun e w' => e = .returned (.tuple #[.int .u64 0, .int .i64 7]) ∧ w = w' := by
  have HF := Lib.hid (fair_any x now w)
  rw [h] at HF
  have hd : decide (0 ≤ H) = true := by simpa using h0
  have hne : (H != x) = true := by simpa using hn
  have hl : decide (now < U) = true := by simpa using h1
  have c2 := hm.c2
  have c3 := hm.c3
  clear hm h hn h0 h1
  go_enter Try.func12, Try.ntmps12
  go_wp2_with (go_at_call 6; refine HF.out.mono ?_; rintro r w' ⟨rfl, rfl⟩)
  go_ret2
  exact ⟨rfl, rfl⟩

set_option maxHeartbeats 400000 in
theorem dtake_free {T : TypeId} {p : Nat} {L E H U x now : Int} {w : World} (hm : LeM w T p L E H U) (ok : OkL L E H U) (n1 : 0 ≤ now) (n2 : now ≤ 1099511627776) (hE : E < 1000000) (h : frB x now = true) (hn : H ≠ x) (hh : H < 0 ∨ (0 ≤ H ∧ U ≤ now)) :
    Calls Try.prog 12 #[.pointer (some ⟨p, 0, none⟩), .int .i64 x, .int .i64 now] w fun e w' => e = .returned (.tuple #[.int .u64 (E + 1), .int .i64 0]) ∧ Left w w' T p L (E + 1) x (now + L) := by
  have HF := Lib.hid (fair_any x now w)
  rw [h] at HF
  have HL := Lib.hid ((((Left.same hm).set1 (E + 1)).set2 x).set3 (now + L))
  have hne : (H != x) = true := by simpa using hn
  have c0 := hm.c0
  have c1 := hm.c1
  have c2 := hm.c2
  have c3 := hm.c3
  have hf := hm.frz
  have l1 := ok.l1
  have l2 := ok.l2
  have e1 := ok.e1
  clear hm ok h hn
  rcases hh with hh | ⟨h0, h1⟩
  · have hd : decide (0 ≤ H) = false := by simpa using hh
    clear hh
    go_enter Try.func12, Try.ntmps12
    go_wp2_with (go_at_call 6; refine HF.out.mono ?_; rintro r w' ⟨rfl, rfl⟩)
    go_ret2
    exact ⟨rfl, HL.out⟩
  · have hd : decide (0 ≤ H) = true := by simpa using h0
    have hl : decide (now < U) = false := by simpa using h1
    clear h0 h1
    go_enter Try.func12, Try.ntmps12
    go_wp2_with (go_at_call 6; refine HF.out.mono ?_; rintro r w' ⟨rfl, rfl⟩)
    go_ret2
    exact ⟨rfl, HL.out⟩

theorem fr_true {x now : Int} (h : 0 ≤ x) (h1 : 0 ≤ now) (h2 : now ≤ 1099511627776) : frB x now = true := by simp [frB, h, h1, h2]

theorem dtake_any {T : TypeId} {p : Nat} {L E H U x now : Int} {w : World} (hm : LeM w T p L E H U) (ok : OkL L E H U) (hE : E < 1000000) :
    Calls Try.prog 12 #[.pointer (some ⟨p, 0, none⟩), .int .i64 x, .int .i64 now] w (DTakeO w T p L E H U x now) := by
  unfold DTakeO
  rcases take_ways H U x now with ⟨hk, h⟩ | ⟨⟨hx, n1, n2⟩, ⟨hk, h⟩ | ⟨hk, h, hh⟩ | ⟨hk, h, hh⟩⟩
  · obtain ⟨t1, t2, t3, t4⟩ := take_one (E := E) (L := L) hk (by omega)
    rw [t1, t2, t3, t4, hk]
    have hf : frB x now = false := by
      rcases frB_cases x now with h' | h'
      · omega
      · exact h'.1
    exact (dtake_bad p x now w hf).mono fun e w' ⟨he, hw⟩ => ⟨he, hw ▸ Left.same hm⟩
  · obtain ⟨t1, t2, t3, t4⟩ := take_two (E := E) (L := L) hk h
    rw [t1, t2, t3, t4, hk]
    subst h
    exact dtake_mine hm ok hx n1 n2 (fr_true hx n1 n2)
  · obtain ⟨t1, t2, t3, t4⟩ := take_one (E := E) (L := L) hk (by omega)
    rw [t1, t2, t3, t4, hk]
    rcases heldB_cases H U now with ⟨-, h0, h1⟩ | ⟨hb, -⟩
    · exact (dtake_busy hm (fr_true hx n1 n2) h h0 h1).mono fun e w' ⟨he, hw⟩ => ⟨he, hw ▸ Left.same hm⟩
    · rw [hh] at hb; cases hb
  · obtain ⟨t1, t2, t3, t4⟩ := take_three (E := E) (L := L) hk h
    rw [t1, t2, t3, t4, hk]
    rcases heldB_cases H U now with ⟨hb, -⟩ | ⟨-, h0⟩
    · rw [hh] at hb; cases hb
    · exact dtake_free hm ok n1 n2 hE (fr_true hx n1 n2) h h0
end Go.Proofs.Yteognjhbgimgpaa
