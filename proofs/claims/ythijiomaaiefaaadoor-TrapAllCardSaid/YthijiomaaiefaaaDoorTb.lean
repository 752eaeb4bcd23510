/- What the law's ways come to, package trap's Throw and the law's goes: by contracts. No condition but that an integer is one of its kind. -/
import Derived.Test.YthijiomaaiefaaaDoorRows
import Derived.WalkKit
import Derived.WalkSpells
import Derived.WalkLawsBesides
import Derived.LaidEql
import Derived.Below
import Derived.Lib.Hide
import Derived.Lib.BoundsPanic
import Derived.Laws.Panics
namespace Go.Proofs.YthijiomaaiefaaaDoor
open Go.RowKit

theorem ret_int {k : IntKind} {a b : Int} (h : a = b) : Ending.returned (.int k a) = .returned (.int k b) := by rw [h]

/-- What pick takes of a raw number, modulo m. -/
def pk (c m : Int) : Int := (if c < 0 then -(c + 1) else c) % m

theorem pk_lt (c m : Int) (hm : 0 < m) : 0 ≤ pk c m ∧ pk c m < m := by
  unfold pk
  exact ⟨Int.emod_nonneg _ (by omega), Int.emod_lt_of_pos _ hm⟩

set_option maxHeartbeats 400000 in
theorem pick_any (c m r : Int) (w : World) (h1 : -9223372036854775808 ≤ c) (h2 : c ≤ 9223372036854775807) (hm : 1 ≤ m) (hm2 : m ≤ 1000) (hr : pk c m = r) :
    Calls Tryd.prog 12 #[.int .i64 c, .int .i64 m] w fun e w' => e = .returned (.int .i64 r) ∧ w = w' := by
  subst hr
  by_cases hc : c < 0
  · have hv : -(c + 1).tmod m = pk c m := by
      unfold pk
      rw [if_pos hc, ← Int.neg_tmod, Int.tmod_eq_emod_of_nonneg (by omega)]
    have HV := Lib.hid hv
    clear hv
    go_enter Tryd.func12, Tryd.ntmps12
    go_wp2
    go_ret
    exact ⟨ret_int HV.out, rfl⟩
  · have hv : c % m = pk c m := by
      unfold pk
      rw [if_neg hc]
    have HV := Lib.hid hv
    clear hv
    go_enter Tryd.func12, Tryd.ntmps12
    go_wp2
    go_ret
    exact ⟨ret_int HV.out, rfl⟩

/-- trap.Throw panics with what it is given. -/
theorem throw_any (t : TypeId) (x : Value) (w : World) :
    Calls Tryd.prog 16 #[.iface t x] w fun e w' => e = .panicked [{ v := .iface t x, recovered := false }] ∧ w = w' := by
  go_enter Tryd.func16, Tryd.ntmps16
  go_wp2
  exact ⟨rfl, rfl, rfl⟩

/-- An index without a place: the value, and at most one draw. -/
theorem run_bounds {P : Program} (w : World) (x : Int) :
    ∃ s w', (boundsPanic (α := Value) .i64 x 0 .index).run P w = .halt (.panic (boundsValue P (IntKind.i64.wrap x) 0 s 0)) w' ∧ (w' = w ∨ w' = w.drew) := by
  unfold boundsPanic boundsValue
  split
  · simp [runtimePanic, goPanic, go_sem]
    by_cases hc : (Question.extern "runtime.boundsError.signed" 2).cut (w.tape w.drawn (Question.extern "runtime.boundsError.signed" 2)) = 1
    · exact .inr ⟨_, ⟨⟨hc, rfl⟩, rfl⟩, .inr rfl⟩
    · exact .inl ⟨_, ⟨⟨hc, rfl⟩, rfl⟩, .inr rfl⟩
  · simp [runtimePanic, goPanic, go_sem]
    exact ⟨_, ⟨rfl, rfl⟩, .inl rfl⟩

/-- A way as a value. -/
abbrev wayV (wh cd : Int) (tx : ByteArray) : Value := .agg #[.int .i64 wh, .int .i64 cd, .string tx]
/-- A way's block. -/
abbrev wayB (wh cd : Int) (tx : ByteArray) : Obj := .cells #[.int .i64 wh, .int .i64 cd, .string tx] 23

/-- What a way panics with. -/
def PV (wh cd : Int) (tx : ByteArray) (v : Value) : Prop :=
  (pk wh 5 = 2 ∧ v = .iface 42 (.int .i64 cd)) ∨ (pk wh 5 = 3 ∧ v = .iface 9 (.string tx)) ∨ (pk wh 5 = 4 ∧ ∃ x, v = .iface 8 x)
theorem PV.iface {wh cd : Int} {tx : ByteArray} {v : Value} (h : PV wh cd tx v) : ∃ t x, v = .iface t x := by
  rcases h with ⟨_, h⟩ | ⟨_, h⟩ | ⟨_, x, h⟩ <;> exact ⟨_, _, h⟩

set_option maxHeartbeats 800000 in
/-- goes, where the way comes back: the count is one more. -/
theorem goes_back (wh cd : Int) (tx : ByteArray) (nb : Nat) (k : Int) (w : World) (h1 : -9223372036854775808 ≤ wh) (h2 : wh ≤ 9223372036854775807) (hk : pk wh 5 < 2)
    (hk0 : 0 ≤ k) (hk1 : k ≤ 1000) (hc : w.cell? ⟨nb, 0, none⟩ = some (.int .i64 k)) (hf : w.frozen? ⟨nb, 0, none⟩ = false) (hb : nb < w.heap.size) :
    Calls Tryd.prog 8 #[wayV wh cd tx, .pointer (some ⟨nb, 0, none⟩)] w fun e w' => e = .returned (.tuple #[]) ∧ w' = (w.setCell ⟨nb, 0, none⟩ (.int .i64 (k + 1))).alloc (wayB wh cd tx) := by
  have hp := pk_lt wh 5 (by omega)
  obtain ⟨r, hr⟩ : ∃ r, pk wh 5 = r := ⟨_, rfl⟩
  rw [hr] at hk hp
  have HR := Lib.hid hr
  clear hr
  have r2 : (r == 2) = false := by simp; omega
  have r3 : (r == 3) = false := by simp; omega
  have r4 : (r == 4) = false := by simp; omega
  go_enter Tryd.func8, Tryd.ntmps8
  go_wp2_with (go_at_call 12; refine (pick_any _ 5 r _ (by omega) (by omega) (by omega) (by omega) HR.out).mono ?_; rintro e w' ⟨rfl, rfl⟩)
  go_end0
  exact ⟨rfl, rfl⟩

set_option maxHeartbeats 800000 in
theorem goes_code (wh cd : Int) (tx : ByteArray) (n : Value) (w : World) (h1 : -9223372036854775808 ≤ wh) (h2 : wh ≤ 9223372036854775807) (hk : pk wh 5 = 2) :
    Calls Tryd.prog 8 #[wayV wh cd tx, n] w fun e w' => e = .panicked [{ v := .iface 42 (.int .i64 cd), recovered := false }] ∧ w' = w.alloc (wayB wh cd tx) := by
  have HR := Lib.hid hk
  clear hk
  go_enter Tryd.func8, Tryd.ntmps8
  go_wp2_with (first | (go_at_call 12; refine (pick_any _ 5 2 _ (by omega) (by omega) (by omega) (by omega) HR.out).mono ?_; rintro e w' ⟨rfl, rfl⟩) | (go_at_call 16; refine (throw_any _ _ _).mono ?_; rintro e w' ⟨rfl, rfl⟩))
  exact ⟨rfl, rfl, rfl⟩

set_option maxHeartbeats 800000 in
theorem goes_text (wh cd : Int) (tx : ByteArray) (n : Value) (w : World) (h1 : -9223372036854775808 ≤ wh) (h2 : wh ≤ 9223372036854775807) (hk : pk wh 5 = 3) :
    Calls Tryd.prog 8 #[wayV wh cd tx, n] w fun e w' => e = .panicked [{ v := .iface 9 (.string tx), recovered := false }] ∧ w' = w.alloc (wayB wh cd tx) := by
  have HR := Lib.hid hk
  clear hk
  go_enter Tryd.func8, Tryd.ntmps8
  go_wp2_with (first | (go_at_call 12; refine (pick_any _ 5 3 _ (by omega) (by omega) (by omega) (by omega) HR.out).mono ?_; rintro e w' ⟨rfl, rfl⟩) | (go_at_call 16; refine (throw_any _ _ _).mono ?_; rintro e w' ⟨rfl, rfl⟩))
  exact ⟨rfl, rfl, rfl⟩

set_option maxHeartbeats 800000 in
theorem goes_out (wh cd : Int) (tx : ByteArray) (n : Value) (w : World) (h1 : -9223372036854775808 ≤ wh) (h2 : wh ≤ 9223372036854775807) (hk : pk wh 5 = 4) (ht : tx.size ≤ maxLen) :
    Calls Tryd.prog 8 #[wayV wh cd tx, n] w fun e w' => ∃ x, e = .panicked [{ v := .iface 8 x, recovered := false }] ∧ Below w.heap.size w w' := by
  have HR := Lib.hid hk
  clear hk
  unfold maxLen at ht
  obtain ⟨s, w1, hrun, hw⟩ := run_bounds (P := Tryd.prog) (w.alloc (wayB wh cd tx)) (tx.size : Int)
  have hix := Lib.run_indexAt_nil (P := Tryd.prog) (w.alloc (wayB wh cd tx)) 47 3 0 0 .i64 (tx.size : Int) Tryd.underlying47
  have hbel : Below w.heap.size w w1 := by
    rcases hw with rfl | rfl
    · exact (Below.refl _ _).alloc (Nat.le_refl _) _
    · exact ((Below.refl _ _).alloc (Nat.le_refl _) _).drew
  clear hw
  unfold boundsValue at hrun
  go_enter Tryd.func8, Tryd.ntmps8
  go_wp2_with (go_at_call 12; refine (pick_any _ 5 4 _ (by omega) (by omega) (by omega) (by omega) HR.out).mono ?_; rintro e w' ⟨rfl, rfl⟩)
  exact ⟨rfl, _, rfl, hbel⟩

/-- How a way that panics leaves goes. -/
def Dies (B : Nat) (wh cd : Int) (tx : ByteArray) (w : World) (e : Ending) (w' : World) : Prop :=
  ∃ v, PV wh cd tx v ∧ e = .panicked [{ v := v, recovered := false }] ∧ Below B w w'

theorem goes_dies (wh cd : Int) (tx : ByteArray) (n : Value) (w : World) (h1 : -9223372036854775808 ≤ wh) (h2 : wh ≤ 9223372036854775807) (ht : tx.size ≤ maxLen) (hk : 2 ≤ pk wh 5) :
    Calls Tryd.prog 8 #[wayV wh cd tx, n] w (Dies w.heap.size wh cd tx w) := by
  have hp := pk_lt wh 5 (by omega)
  rcases (show pk wh 5 = 2 ∨ pk wh 5 = 3 ∨ pk wh 5 = 4 by omega) with h | h | h
  · exact (goes_code wh cd tx n w h1 h2 h).mono fun e w' ⟨he, hw⟩ => ⟨_, .inl ⟨h, rfl⟩, he, hw ▸ (Below.refl _ _).alloc (Nat.le_refl _) _⟩
  · exact (goes_text wh cd tx n w h1 h2 h).mono fun e w' ⟨he, hw⟩ => ⟨_, .inr (.inl ⟨h, rfl⟩), he, hw ▸ (Below.refl _ _).alloc (Nat.le_refl _) _⟩
  · exact (goes_out wh cd tx n w h1 h2 h ht).mono fun e w' ⟨x, he, hw⟩ => ⟨_, .inr (.inr ⟨h, x, rfl⟩), he, hw⟩
end Go.Proofs.YthijiomaaiefaaaDoor
