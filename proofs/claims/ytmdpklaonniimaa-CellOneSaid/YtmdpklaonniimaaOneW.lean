/- The walk of CellOne: it returns true, and nothing that was there before the call is changed. -/
import Derived.Test.YtmdpklaonniimaaW2
namespace Go.Proofs.Ytmdpklaonniimaa
open Go.RowKit

def OneRel (old : Int) (p b : Nat) (w wr : World) (wn : Int) (V S : Nat → Int) : Prop :=
  Cl wr p b 2 V S ∧ Below w.heap.size w wr ∧ S 1 = 1 + wn ∧ S 0 = 0 ∧ (wn = 0 ∧ V 1 = old ∨ wn = 1 ∧ V 1 ≠ old)

theorem OneRel.first {old : Int} {p b : Nat} {w w1 w2 w3 : World} (hp : p = w1.heap.size + 1) (hb : b = w1.heap.size) (h1 : Below w.heap.size w w1) (hn : Newed w1 w2 2)
    (h3 : Wrote w2 w3 p b 2 (fun _ => 0) (fun _ => 0) 1 old) : OneRel old p b w w3 0 (upd (fun _ => 0) 1 old) (upd (fun _ => 0) 1 (0 + 1)) := by
  subst hp hb
  have hs := h1.size
  have hz := hn.2.2
  refine ⟨h3.1, (h1.trans (hn.2.1.mono hs)).trans (grown_below h3.2.1 hs (by omega)), by simp [upd], by simp [upd], .inl ⟨rfl, by simp [upd]⟩⟩

theorem OneRel.next {old x : Int} {p b : Nat} {w wr w' : World} {V S : Nat → Int} (h : OneRel old p b w wr 0 V S) (hb : w.heap.size ≤ b) (h3 : Wrote wr w' p b 2 V S 1 x) (hx : x ≠ old) :
    OneRel old p b w w' 1 (upd V 1 x) (upd S 1 (S 1 + 1)) := by
  obtain ⟨hc, hbl, hs1, hs0, _⟩ := h
  refine ⟨h3.1, hbl.trans (grown_below h3.2.1 hb hbl.size), by simp [upd, hs1], by simp [upd, hs0], .inr ⟨rfl, by simp [upd, hx]⟩⟩

theorem load_at (p b : Nat) (V S : Nat → Int) (w : World) (hc : Cl w p b 2 V S) (v : Int) (hv : V 1 = v) :
    Calls Try.prog 9 #[.pointer (some ⟨p, 0, none⟩), .int .i64 1] w fun e w' => e = .returned (.tuple #[.int .u64 v, .nilIface]) ∧ w = w' := by
  subst hv
  exact load_in p b 2 1 V S w (by omega) (by omega) hc
theorem stamp_at (p b : Nat) (V S : Nat → Int) (w : World) (hc : Cl w p b 2 V S) (i : Nat) (hi : i < 2) (v : Int) (hv : S i = v) :
    Calls Try.prog 7 #[.pointer (some ⟨p, 0, none⟩), .int .i64 (i : Int)] w fun e w' => e = .returned (.int .i64 v) ∧ w = w' := by
  subst hv
  exact stamp_in p b 2 i V S w (by omega) (by omega) hc

set_option maxRecDepth 100000 in
set_option maxHeartbeats 1000000 in
theorem cellOne_some (old : Int) (b off len cap : Nat) (zs : List Int) (w : World) (hlen : len ≤ 300) (hb : b < w.heap.size)
    (hcell : ∀ j, j < len → w.cell? ⟨b, off + j, none⟩ = some (.int .u64 (zs.getD j 0))) :
    Calls Try.prog 4 #[.int .u64 old, .slice (some ⟨b, off, none⟩) len cap] w fun e w' => e = .returned (.bool true) ∧ Below w.heap.size w w' := by
  have HC := Lib.hid hcell
  clear hcell
  have h300 : decide (300 < (len : Int)) = false := by simp; omega
  go_enter Try.func4, Try.ntmps4
  go_wp2_with fail
  refine (up_any _).mono ?_
  rintro e w1 ⟨rfl, hb1⟩
  go_wp2_with fail
  refine (new_ok 2 _ (by omega) (by omega)).mono ?_
  rintro e w2 ⟨rfl, hn⟩
  go_wp2_with fail
  refine (store_in _ _ 2 1 old _ _ _ (by omega) (by omega) hn.1 (by simp) (by simp)).mono ?_
  rintro e w3 ⟨rfl, hw3⟩
  have hrel := OneRel.first rfl rfl hb1 hn hw3
  have hsz := hb1.size
  clear hb1 hn hw3
  generalize upd (fun _ => 0) 1 old = V at hrel
  generalize upd (fun _ => 0) 1 (0 + 1) = S at hrel
  go_wp2_with fail
  go_loopw [9, 10] (fun won i wr => ∃ (k : Nat) (wn : Int) (V S : Nat → Int), k ≤ len ∧ i = .int .i64 k ∧ won = .int .i64 wn ∧ OneRel old (w1.heap.size + 1) w1.heap.size w wr wn V S) (fun _ i _ => len - (intOf i).toNat)
  case atStart => exact ⟨0, 0, _, _, Nat.zero_le _, rfl, rfl, hrel⟩
  case round =>
    obtain ⟨k, wn, V, S, hk, rfl, rfl, hr⟩ := hrel
    by_cases hlt : k < len
    · have hx : wr.cell? ⟨b, off + k, none⟩ = some (.int .u64 (zs.getD k 0)) := (hr.2.1.cell (by exact hb)).trans (HC.out k hlt)
      generalize zs.getD k 0 = x at hx
      by_cases hxo : x = old
      · subst hxo
        go_wp2
        go_roundw
        case rel => exact ⟨k + 1, wn, V, S, by omega, by go_num, rfl, hr⟩
        case measure => simp [intOf]; omega
      · have hxo' : (x == old) = false := by simpa using hxo
        have HXO := Lib.hid hxo
        clear hxo
        rcases hr.2.2.2.2 with ⟨rfl, hV⟩ | ⟨rfl, hV⟩
        · go_wp2_with fail
          subst hV
          refine (swap_yes _ _ 2 1 x V S _ (by omega) (by omega) hr.1 (by simp [hr.2.2.1]) (by simp [hr.2.2.1])).mono ?_
          rintro e w4 ⟨rfl, hw4⟩
          have hr4 := hr.next hsz hw4 HXO.out
          clear hw4
          have hs1 := Lib.hid hr4.2.2.1
          have hs0 := Lib.hid hr4.2.2.2.1
          have hv4 := Lib.hid (upd_same V 1 x)
          generalize upd V 1 x = V4 at hr4 hv4
          generalize upd S 1 (S 1 + 1) = S4 at hr4 hs1 hs0
          go_wp2_with fail
          refine (load_at _ _ V4 S4 _ hr4.1 x hv4.out).mono ?_
          rintro e w5 ⟨rfl, rfl⟩
          go_wp2_with fail
          refine (stamp_at _ _ V4 S4 _ hr4.1 1 (by omega) 2 (by rw [hs1.out]; rfl)).mono ?_
          rintro e w5 ⟨rfl, rfl⟩
          go_wp2_with fail
          refine (stamp_at _ _ V4 S4 _ hr4.1 0 (by omega) 0 hs0.out).mono ?_
          rintro e w5 ⟨rfl, rfl⟩
          go_wp2
          go_roundw
          case rel => exact ⟨k + 1, 1, V4, S4, by omega, by go_num, rfl, hr4⟩
          case measure => simp [intOf]; omega
        · have HVN := Lib.hid hV
          clear hV
          go_wp2_with fail
          refine (swap_no _ _ 2 1 old x V S _ (by omega) (by omega) hr.1 HVN.out).mono ?_
          rintro e w4 ⟨rfl, rfl⟩
          have hs1 := Lib.hid hr.2.2.1
          have hs0 := Lib.hid hr.2.2.2.1
          obtain ⟨v, hv⟩ : ∃ v, V 1 = v := ⟨_, rfl⟩
          have hvo : (v == old) = false := by rw [← hv]; simpa using HVN.out
          have HV := Lib.hid hv
          clear hv
          go_wp2_with fail
          refine (load_at _ _ V S _ hr.1 v HV.out).mono ?_
          rintro e w5 ⟨rfl, rfl⟩
          go_wp2_with fail
          refine (stamp_at _ _ V S _ hr.1 1 (by omega) 2 (by rw [hs1.out]; rfl)).mono ?_
          rintro e w5 ⟨rfl, rfl⟩
          go_wp2_with fail
          refine (stamp_at _ _ V S _ hr.1 0 (by omega) 0 hs0.out).mono ?_
          rintro e w5 ⟨rfl, rfl⟩
          go_wp2
          go_roundw
          case rel => exact ⟨k + 1, 1, V, S, by omega, by go_num, rfl, hr⟩
          case measure => simp [intOf]; omega
    · go_wp2
      go_ret
      exact ⟨rfl, hr.2.1⟩

set_option maxRecDepth 100000 in
set_option maxHeartbeats 1000000 in
theorem cellOne_zero (old : Int) (a : Option Addr) (cap : Nat) (w : World) :
    Calls Try.prog 4 #[.int .u64 old, .slice a 0 cap] w fun e w' => e = .returned (.bool true) ∧ Below w.heap.size w w' := by
  go_enter Try.func4, Try.ntmps4
  go_wp2_with fail
  refine (up_any _).mono ?_
  rintro e w1 ⟨rfl, hb1⟩
  go_wp2_with fail
  refine (new_ok 2 _ (by omega) (by omega)).mono ?_
  rintro e w2 ⟨rfl, hn⟩
  go_wp2_with fail
  refine (store_in _ _ 2 1 old _ _ _ (by omega) (by omega) hn.1 (by simp) (by simp)).mono ?_
  rintro e w3 ⟨rfl, hw3⟩
  have hrel := OneRel.first rfl rfl hb1 hn hw3
  clear hb1 hn hw3
  have hbl := hrel.2.1
  clear hrel
  go_wp2_with fail
  refine wp_loop_rounds 1 ?_
  rw [rounds_succ]
  go_wp2
  go_ret
  exact ⟨rfl, hbl⟩

set_option maxRecDepth 100000 in
set_option maxHeartbeats 1000000 in
theorem cellOne_long (old : Int) (a : Option Addr) (len cap : Nat) (w : World) (hlen : 300 < len) (hm : len ≤ maxLen) :
    Calls Try.prog 4 #[.int .u64 old, .slice a len cap] w fun e w' => e = .returned (.bool true) ∧ Below w.heap.size w w' := by
  unfold maxLen at hm
  have h300 : decide (300 < (len : Int)) = true := by simp; omega
  go_enter Try.func4, Try.ntmps4
  go_wp2_with fail
  refine (up_any _).mono ?_
  rintro e w1 ⟨rfl, hb1⟩
  go_wp2_with fail
  refine (new_ok 2 _ (by omega) (by omega)).mono ?_
  rintro e w2 ⟨rfl, hn⟩
  have hbl := hb1.trans (hn.2.1.mono hb1.size)
  clear hb1 hn
  go_wp2
  go_ret
  exact ⟨rfl, hbl⟩
end Go.Proofs.Ytmdpklaonniimaa
