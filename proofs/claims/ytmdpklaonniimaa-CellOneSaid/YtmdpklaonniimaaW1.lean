/- Contracts of the functions of package cell, over the translation: what each call does to the world. Conditions: stamps stay below one million. -/
import Derived.Test.YtmdpklaonniimaaRows
import Derived.WalkKit
import Derived.WalkSpells
import Derived.WalkLawsBesides
import Derived.Deep.OwnRows
import Derived.LaidEql
import Derived.Lib.Hide
namespace Go.Proofs.Ytmdpklaonniimaa
open Go.RowKit

/-- A row of pairs, a value and a stamp each. -/
def mix (V S : Nat → Int) (j : Nat) : Value := if j % 2 = 0 then .int .u64 (V (j / 2)) else .int .i64 (S (j / 2))

/-- Cells: a block of one slice, and the row that it leads to. -/
def Cl (w : World) (p b n : Nat) (V S : Nat → Int) : Prop :=
  w.heap[p]? = some (.cells #[.slice (some ⟨b, 0, none⟩) n n] 50 (0, 0)) ∧ w.rowIs b 53 (n * 2) (mix V S)

def upd (f : Nat → Int) (i : Nat) (x : Int) : Nat → Int := fun j => if j = i then x else f j

theorem upd_same (f : Nat → Int) (i : Nat) (x : Int) : upd f i x i = x := by simp [upd]
theorem upd_other (f : Nat → Int) (i j : Nat) (x : Int) (h : j ≠ i) : upd f i x j = f j := by simp [upd, h]

theorem Cl.ptr {w : World} {p b n : Nat} {V S : Nat → Int} (h : Cl w p b n V S) : w.cell? ⟨p, 0, none⟩ = some (.slice (some ⟨b, 0, none⟩) n n) := by
  simp [World.cell?, h.1]
theorem row_val {w : World} {b t n : Nat} {V S : Nat → Int} (h : w.rowIs b t (n * 2) (mix V S)) {i : Nat} (hi : i < n) : w.cell? ⟨b, i * 2, none⟩ = some (.int .u64 (V i)) := by
  rw [h.cell (by omega)]; simp [mix]
theorem row_stp {w : World} {b t n : Nat} {V S : Nat → Int} (h : w.rowIs b t (n * 2) (mix V S)) {i : Nat} (hi : i < n) : w.cell? ⟨b, i * 2 + 1, none⟩ = some (.int .i64 (S i)) := by
  rw [h.cell (by omega)]
  have e1 : (i * 2 + 1) % 2 = 1 := by omega
  have e2 : (i * 2 + 1) / 2 = i := by omega
  simp [mix, e1, e2]
theorem row_set {w : World} {b t n : Nat} {V S : Nat → Int} (h : w.rowIs b t (n * 2) (mix V S)) (i : Nat) (v s : Int) :
    ((w.setCell ⟨b, i * 2, none⟩ (.int .u64 v)).setCell ⟨b, i * 2 + 1, none⟩ (.int .i64 s)).rowIs b t (n * 2) (mix (upd V i v) (upd S i s)) := by
  refine ((h.set (i * 2) (.int .u64 v)).set (i * 2 + 1) (.int .i64 s)).congr fun j _ => ?_
  simp only [mix, upd]
  by_cases h1 : j = i * 2 + 1
  · subst h1
    have e1 : (i * 2 + 1) % 2 = 1 := by omega
    have e2 : (i * 2 + 1) / 2 = i := by omega
    simp [e1, e2]
  · by_cases h2 : j = i * 2
    · subst h2
      simp
    · rw [if_neg h1, if_neg h2]
      by_cases h3 : j % 2 = 0
      · have : j / 2 ≠ i := by omega
        simp [h3, this]
      · have : j / 2 ≠ i := by omega
        simp [h3, this]
theorem Cl.set {w : World} {p b n : Nat} {V S : Nat → Int} (h : Cl w p b n V S) (i : Nat) (v s : Int) (hpb : p ≠ b) :
    Cl ((w.setCell ⟨b, i * 2, none⟩ (.int .u64 v)).setCell ⟨b, i * 2 + 1, none⟩ (.int .i64 s)) p b n (upd V i v) (upd S i s) := by
  refine ⟨?_, row_set h.2 i v s⟩
  rw [Below.heap_setCell _ _ _ _ (by simpa using hpb), Below.heap_setCell _ _ _ _ (by simpa using hpb)]
  exact h.1

theorem grown_two (w : World) (b i : Nat) (u v : Value) : w.grownBy ((w.setCell ⟨b, i * 2, none⟩ u).setCell ⟨b, i * 2 + 1, none⟩ v) (some b) :=
  ⟨rfl, rfl, rfl, by simp [World.setCell], fun k _ hk => by
    have : k ≠ b := fun e => hk (by rw [e])
    rw [Below.heap_setCell _ _ _ _ (by simpa using this), Below.heap_setCell _ _ _ _ (by simpa using this)]⟩

theorem grown_size (w : World) (b i : Nat) (u v : Value) : ((w.setCell ⟨b, i * 2, none⟩ u).setCell ⟨b, i * 2 + 1, none⟩ v).heap.size = w.heap.size := by
  simp [World.setCell]

theorem Cl.ne {w : World} {p b n : Nat} {V S : Nat → Int} (h : Cl w p b n V S) : p ≠ b := by
  rintro rfl
  obtain ⟨c, hb, _⟩ := h.2
  rw [h.1] at hb
  simp at hb

/-- What a write leaves. -/
def Wrote (w w' : World) (p b n : Nat) (V S : Nat → Int) (i : Nat) (v : Int) : Prop :=
  Cl w' p b n (upd V i v) (upd S i (S i + 1)) ∧ w.grownBy w' (some b) ∧ w'.heap.size = w.heap.size

set_option maxHeartbeats 400000 in
theorem has_in (p b : Nat) (n : Nat) (i : Nat) (w : World) (hi : i < n)
    (hp : w.cell? ⟨p, 0, none⟩ = some (.slice (some ⟨b, 0, none⟩) n n)) :
    Calls Try.prog 14 #[.pointer (some ⟨p, 0, none⟩), .int .i64 i] w fun e w' => e = .returned (.bool true) ∧ w = w' := by
  go_enter Try.func14, Try.ntmps14
  go_wp2
  go_ret
  exact ⟨rfl, rfl⟩

set_option maxHeartbeats 400000 in
theorem has_out (p b : Nat) (n : Nat) (i : Int) (w : World) (hi : i < 0 ∨ (n : Int) ≤ i)
    (hp : w.cell? ⟨p, 0, none⟩ = some (.slice (some ⟨b, 0, none⟩) n n)) :
    Calls Try.prog 14 #[.pointer (some ⟨p, 0, none⟩), .int .i64 i] w fun e w' => e = .returned (.bool false) ∧ w = w' := by
  rcases hi with hi | hi
  · go_enter Try.func14, Try.ntmps14
    go_wp2
    go_ret
    exact ⟨rfl, rfl⟩
  · have h0 : 0 ≤ i := by omega
    have h1 : decide (i < (n : Int)) = false := by simp; omega
    go_enter Try.func14, Try.ntmps14
    go_wp2
    go_ret
    exact ⟨rfl, rfl⟩

set_option maxHeartbeats 400000 in
theorem stamp_in (p b : Nat) (n : Nat) (i : Int) (V S : Nat → Int) (w : World) (h0 : 0 ≤ i) (hi : i < n) (hc : Cl w p b n V S) :
    Calls Try.prog 7 #[.pointer (some ⟨p, 0, none⟩), .int .i64 i] w fun e w' => e = .returned (.int .i64 (S i.toNat)) ∧ w = w' := by
  obtain ⟨j, rfl⟩ := Int.eq_ofNat_of_zero_le h0
  have hj : j < n := by omega
  have hp := hc.ptr
  have hs := row_stp hc.2 hj
  rw [Int.toNat_natCast]
  generalize S j = s at hs ⊢
  clear hc
  go_enter Try.func7, Try.ntmps7
  go_wp2_with (go_at_call 14; refine (has_in p b n j _ hj hp).mono ?_; rintro e w' ⟨rfl, rfl⟩)
  go_ret
  exact ⟨rfl, rfl⟩

set_option maxHeartbeats 400000 in
theorem stamp_out (p b : Nat) (n : Nat) (i : Int) (V S : Nat → Int) (w : World) (hi : i < 0 ∨ (n : Int) ≤ i) (hc : Cl w p b n V S) :
    Calls Try.prog 7 #[.pointer (some ⟨p, 0, none⟩), .int .i64 i] w fun e w' => e = .returned (.int .i64 0) ∧ w = w' := by
  have hp := hc.ptr
  clear hc
  go_enter Try.func7, Try.ntmps7
  go_wp2_with (go_at_call 14; refine (has_out p b n i _ hi hp).mono ?_; rintro e w' ⟨rfl, rfl⟩)
  go_ret
  exact ⟨rfl, rfl⟩

set_option maxHeartbeats 400000 in
theorem load_in (p b : Nat) (n : Nat) (i : Int) (V S : Nat → Int) (w : World) (h0 : 0 ≤ i) (hi : i < n) (hc : Cl w p b n V S) :
    Calls Try.prog 9 #[.pointer (some ⟨p, 0, none⟩), .int .i64 i] w fun e w' => e = .returned (.tuple #[.int .u64 (V i.toNat), .nilIface]) ∧ w = w' := by
  obtain ⟨j, rfl⟩ := Int.eq_ofNat_of_zero_le h0
  have hj : j < n := by omega
  have hp := hc.ptr
  have hs := row_val hc.2 hj
  rw [Int.toNat_natCast]
  generalize V j = s at hs ⊢
  clear hc
  go_enter Try.func9, Try.ntmps9
  go_wp2_with (go_at_call 14; refine (has_in p b n j _ hj hp).mono ?_; rintro e w' ⟨rfl, rfl⟩)
  go_ret2
  exact ⟨rfl, rfl⟩

set_option maxHeartbeats 400000 in
theorem load_out (p b : Nat) (n : Nat) (i : Int) (V S : Nat → Int) (w : World) (hi : i < 0 ∨ (n : Int) ≤ i) (hc : Cl w p b n V S) :
    Calls Try.prog 9 #[.pointer (some ⟨p, 0, none⟩), .int .i64 i] w fun e w' => e = .returned (.tuple #[.int .u64 0, .iface 29 (.int .i64 6)]) ∧ w = w' := by
  have hp := hc.ptr
  clear hc
  go_enter Try.func9, Try.ntmps9
  go_wp2_with (go_at_call 14; refine (has_out p b n i _ hi hp).mono ?_; rintro e w' ⟨rfl, rfl⟩)
  go_ret2
  exact ⟨rfl, rfl⟩

set_option maxHeartbeats 400000 in
theorem write_raw (p b : Nat) (n : Nat) (i : Nat) (x v s : Int) (w : World) (hi : i < n) (hpb : p ≠ b)
    (hp : w.cell? ⟨p, 0, none⟩ = some (.slice (some ⟨b, 0, none⟩) n n)) (hx : w.cell? ⟨b, i * 2, none⟩ = some (.int .u64 x)) (hs : w.cell? ⟨b, i * 2 + 1, none⟩ = some (.int .i64 s))
    (hf : ∀ j, w.frozen? ⟨b, j, none⟩ = false) (h0 : 0 ≤ s) (h1 : s ≤ 1000000) :
    Calls Try.prog 15 #[.pointer (some ⟨p, 0, none⟩), .int .i64 i, .int .u64 v] w fun e w' => e = .returned (.tuple #[]) ∧ (w.setCell ⟨b, i * 2, none⟩ (.int .u64 v)).setCell ⟨b, i * 2 + 1, none⟩ (.int .i64 (s + 1)) = w' := by
  go_enter Try.func15, Try.ntmps15
  go_wp2
  go_end0
  exact ⟨rfl, rfl⟩

theorem write_in (p b : Nat) (n : Nat) (i : Nat) (v : Int) (V S : Nat → Int) (w : World) (hi : i < n) (hc : Cl w p b n V S) (h0 : 0 ≤ S i) (h1 : S i ≤ 1000000) :
    Calls Try.prog 15 #[.pointer (some ⟨p, 0, none⟩), .int .i64 i, .int .u64 v] w fun e w' => e = .returned (.tuple #[]) ∧ Wrote w w' p b n V S i v :=
  (write_raw p b n i (V i) v (S i) w hi hc.ne hc.ptr (row_val hc.2 hi) (row_stp hc.2 hi) (fun j => hc.2.frozen j) h0 h1).mono fun _ _ ⟨he, hw⟩ =>
    ⟨he, by subst hw; exact ⟨hc.set i v _ hc.ne, grown_two _ _ _ _ _, grown_size _ _ _ _ _⟩⟩

set_option maxHeartbeats 400000 in
theorem store_in (p b : Nat) (n : Nat) (i v : Int) (V S : Nat → Int) (w : World) (hi0 : 0 ≤ i) (hi : i < n) (hc : Cl w p b n V S) (h0 : 0 ≤ S i.toNat) (h1 : S i.toNat ≤ 1000000) :
    Calls Try.prog 10 #[.pointer (some ⟨p, 0, none⟩), .int .i64 i, .int .u64 v] w fun e w' => e = .returned .nilIface ∧ Wrote w w' p b n V S i.toNat v := by
  obtain ⟨j, rfl⟩ := Int.eq_ofNat_of_zero_le hi0
  have hj : j < n := by omega
  have hp := hc.ptr
  rw [Int.toNat_natCast] at *
  have H := write_in p b n j v V S w hj hc h0 h1
  have HH := Lib.hid H
  clear H hc
  go_enter Try.func10, Try.ntmps10
  go_wp2_with (first | (go_at_call 14; refine (has_in p b n j _ hj hp).mono ?_; rintro e w' ⟨rfl, rfl⟩) | (go_at_call 15; refine HH.out.mono ?_; rintro e w' ⟨rfl, hw⟩))
  go_ret
  exact ⟨rfl, hw⟩

set_option maxHeartbeats 400000 in
theorem store_out (p b : Nat) (n : Nat) (i v : Int) (V S : Nat → Int) (w : World) (hi : i < 0 ∨ (n : Int) ≤ i) (hc : Cl w p b n V S) :
    Calls Try.prog 10 #[.pointer (some ⟨p, 0, none⟩), .int .i64 i, .int .u64 v] w fun e w' => e = .returned (.iface 29 (.int .i64 6)) ∧ w = w' := by
  have hp := hc.ptr
  clear hc
  go_enter Try.func10, Try.ntmps10
  go_wp2_with (go_at_call 14; refine (has_out p b n i _ hi hp).mono ?_; rintro e w' ⟨rfl, rfl⟩)
  go_ret
  exact ⟨rfl, rfl⟩

set_option maxHeartbeats 400000 in
theorem swap_yes (p b : Nat) (n : Nat) (i v : Int) (V S : Nat → Int) (w : World) (hi0 : 0 ≤ i) (hi : i < n) (hc : Cl w p b n V S) (h0 : 0 ≤ S i.toNat) (h1 : S i.toNat ≤ 1000000) :
    Calls Try.prog 11 #[.pointer (some ⟨p, 0, none⟩), .int .i64 i, .int .u64 (V i.toNat), .int .u64 v] w fun e w' => e = .returned (.tuple #[.bool true, .nilIface]) ∧ Wrote w w' p b n V S i.toNat v := by
  obtain ⟨j, rfl⟩ := Int.eq_ofNat_of_zero_le hi0
  have hj : j < n := by omega
  have hp := hc.ptr
  rw [Int.toNat_natCast] at *
  have hs := row_val hc.2 hj
  have H := write_in p b n j v V S w hj hc h0 h1
  have HH := Lib.hid H
  clear H hc
  generalize V j = s at hs ⊢
  go_enter Try.func11, Try.ntmps11
  go_wp2_with (first | (go_at_call 14; refine (has_in p b n j _ hj hp).mono ?_; rintro e w' ⟨rfl, rfl⟩) | (go_at_call 15; refine HH.out.mono ?_; rintro e w' ⟨rfl, hw⟩))
  go_ret2
  exact ⟨rfl, hw⟩

set_option maxHeartbeats 400000 in
theorem swap_no (p b : Nat) (n : Nat) (i old v : Int) (V S : Nat → Int) (w : World) (hi0 : 0 ≤ i) (hi : i < n) (hc : Cl w p b n V S) (hne : V i.toNat ≠ old) :
    Calls Try.prog 11 #[.pointer (some ⟨p, 0, none⟩), .int .i64 i, .int .u64 old, .int .u64 v] w fun e w' => e = .returned (.tuple #[.bool false, .nilIface]) ∧ w = w' := by
  obtain ⟨j, rfl⟩ := Int.eq_ofNat_of_zero_le hi0
  have hj : j < n := by omega
  have hp := hc.ptr
  rw [Int.toNat_natCast] at *
  have hs := row_val hc.2 hj
  have hb : (V j != old) = true := by simpa using hne
  clear hc hne
  generalize V j = s at hs hb ⊢
  go_enter Try.func11, Try.ntmps11
  go_wp2_with (first | (go_at_call 14; refine (has_in p b n j _ hj hp).mono ?_; rintro e w' ⟨rfl, rfl⟩))
  go_ret2
  exact ⟨rfl, rfl⟩

set_option maxHeartbeats 400000 in
theorem swap_out (p b : Nat) (n : Nat) (i old v : Int) (V S : Nat → Int) (w : World) (hi : i < 0 ∨ (n : Int) ≤ i) (hc : Cl w p b n V S) :
    Calls Try.prog 11 #[.pointer (some ⟨p, 0, none⟩), .int .i64 i, .int .u64 old, .int .u64 v] w fun e w' => e = .returned (.tuple #[.bool false, .iface 29 (.int .i64 6)]) ∧ w = w' := by
  have hp := hc.ptr
  clear hc
  go_enter Try.func11, Try.ntmps11
  go_wp2_with (go_at_call 14; refine (has_out p b n i _ hi hp).mono ?_; rintro e w' ⟨rfl, rfl⟩)
  go_ret2
  exact ⟨rfl, rfl⟩

set_option maxHeartbeats 400000 in
theorem add_in (p b : Nat) (n : Nat) (i d : Int) (V S : Nat → Int) (w : World) (hi0 : 0 ≤ i) (hi : i < n) (hc : Cl w p b n V S) (h0 : 0 ≤ S i.toNat) (h1 : S i.toNat ≤ 1000000) :
    Calls Try.prog 12 #[.pointer (some ⟨p, 0, none⟩), .int .i64 i, .int .u64 d] w fun e w' => e = .returned (.tuple #[.int .u64 (V i.toNat), .nilIface]) ∧ Wrote w w' p b n V S i.toNat (IntKind.u64.wrap (V i.toNat + d)) := by
  obtain ⟨j, rfl⟩ := Int.eq_ofNat_of_zero_le hi0
  have hj : j < n := by omega
  have hp := hc.ptr
  rw [Int.toNat_natCast] at *
  have hs := row_val hc.2 hj
  have H := fun v => write_in p b n j v V S w hj hc h0 h1
  have HH := Lib.hid H
  clear H hc
  generalize V j = s at hs ⊢
  go_enter Try.func12, Try.ntmps12
  go_wp2_with (first | (go_at_call 14; refine (has_in p b n j _ hj hp).mono ?_; rintro e w' ⟨rfl, rfl⟩) | (go_at_call 15; refine (HH.out _).mono ?_; rintro e w' ⟨rfl, hw⟩))
  go_ret2
  exact ⟨rfl, hw⟩

set_option maxHeartbeats 400000 in
theorem add_out (p b : Nat) (n : Nat) (i d : Int) (V S : Nat → Int) (w : World) (hi : i < 0 ∨ (n : Int) ≤ i) (hc : Cl w p b n V S) :
    Calls Try.prog 12 #[.pointer (some ⟨p, 0, none⟩), .int .i64 i, .int .u64 d] w fun e w' => e = .returned (.tuple #[.int .u64 0, .iface 29 (.int .i64 6)]) ∧ w = w' := by
  have hp := hc.ptr
  clear hc
  go_enter Try.func12, Try.ntmps12
  go_wp2_with (go_at_call 14; refine (has_out p b n i _ hi hp).mono ?_; rintro e w' ⟨rfl, rfl⟩)
  go_ret2
  exact ⟨rfl, rfl⟩

end Go.Proofs.Ytmdpklaonniimaa
