/- The walk of CrewDead: it returns true, and nothing that was there before the call is changed. -/
import Derived.Test.YtjehpdandidkmaaRef
namespace Go.Proofs.Ytjehpdandidkmaa
open Go.RowKit
set_option linter.unusedVariables false

/-- A deed, as three cells from an offset on. -/
def DeedAt (w : World) (b off : Nat) (wh at' x : Int) : Prop :=
  w.cell? ⟨b, off, none⟩ = some (.int .i64 wh) ∧ w.cell? ⟨b, off + 1, none⟩ = some (.int .i64 at') ∧ w.cell? ⟨b, off + 1 + 1, none⟩ = some (.int .i64 x) ∧ (-9223372036854775808 ≤ wh ∧ wh ≤ 9223372036854775807)

def DeadRel (i : Int) (p b : Nat) (w wr : World) (S : Nat → Int) (c : Int) : Prop :=
  Cw wr 46 p b 16 S c ∧ OkS S ∧ OkC c ∧ stOf 16 S i = 2 ∧ Below w.heap.size w wr

theorem turned_dead {n : Nat} {S : Nat → Int} {i j s : Int} (h : stOf n S i = 2) : stOf n (turned n S j s) i = 2 := by
  unfold turned
  rcases turn_cases (n := n) (S := S) j with h0 | ⟨h0, k, rfl, hk⟩
  · rw [if_neg h0]
    exact h
  · rw [if_pos h0, Int.toNat_natCast]
    rcases in_out n i with ⟨m, rfl, hm⟩ | hi
    · rw [stOf_in hm] at *
      unfold upd
      by_cases e : m = k
      · subst e
        rw [stOf_in hm, h] at h0
        exact absurd h0 (by decide)
      · rw [if_neg e]
        exact h
    · rw [stOf_out hi] at h
      exact absurd h (by decide)

theorem may_dead (T : TypeId) (p b n : Nat) (S : Nat → Int) (c i : Int) (w : World) (hc : Cw w T p b n S c) (hS : OkS S) (h : stOf n S i = 2) :
    Calls Try.prog 17 #[.pointer (some ⟨p, 0, none⟩), .int .i64 i] w fun e w' => e = .returned (.iface 29 (.int .i64 9)) ∧ w = w' := by
  have := may_any T p b n S c i w hc hS
  rw [h] at this
  exact this

theorem kill_live (p b n : Nat) (S : Nat → Int) (c i : Int) (w : World) (hc : Cw w 46 p b n S c) (hS : OkS S) (h : turnK (stOf n S i) = 0) :
    Calls Try.prog 11 #[.pointer (some ⟨p, 0, none⟩), .int .i64 i] w fun e w' => e = .returned .nilIface ∧ Left w w' 46 p b n (turned n S i 2) c :=
  (kill_any p b n S c i w hc hS).mono fun e w' ⟨he, hw⟩ => ⟨by rw [he, h, errV_zero], hw⟩

theorem killed {n : Nat} {S : Nat → Int} {i : Int} (h : turnK (stOf n S i) = 0) : stOf n (turned n S i 2) i = 2 := by
  rcases turn_cases (n := n) (S := S) i with h0 | ⟨h0, k, rfl, hk⟩
  · exact absurd h h0
  · unfold turned
    rw [if_pos h, Int.toNat_natCast, stOf_in hk]
    simp [upd]

theorem fresh_live {i : Int} (h0 : 0 ≤ i) (h1 : i ≤ 15) : turnK (stOf 16 (fun _ => 0) i) = 0 := by
  obtain ⟨j, rfl⟩ := Int.eq_ofNat_of_zero_le h0
  rw [stOf_in (by omega)]
  rfl

theorem ticked_ge {c x : Int} : c ≤ ticked c x := by unfold ticked; split <;> omega

theorem DeadRel.turn {i j s : Int} {p b : Nat} {w wr w' : World} {S : Nat → Int} {c : Int} (h : DeadRel i p b w wr S c) (hp : w.heap.size ≤ p) (hb : w.heap.size ≤ b) (hs : s = 0 ∨ s = 1 ∨ s = 2)
    (hw : Left wr w' 46 p b 16 (turned 16 S j s) c) : DeadRel i p b w w' (turned 16 S j s) c :=
  ⟨hw.1, turned_ok h.2.1 hs, h.2.2.1, turned_dead h.2.2.2.1, h.2.2.2.2.trans (hw.2.below hp hb)⟩
theorem DeadRel.tick {i x : Int} {p b : Nat} {w wr w' : World} {S : Nat → Int} {c : Int} (h : DeadRel i p b w wr S c) (hp : w.heap.size ≤ p) (hb : w.heap.size ≤ b)
    (hw : Left wr w' 46 p b 16 S (ticked c x)) : DeadRel i p b w w' S (ticked c x) :=
  ⟨hw.1, h.2.1, ticked_ok h.2.2.1, h.2.2.2.1, h.2.2.2.2.trans (hw.2.below hp hb)⟩

set_option maxRecDepth 100000 in
set_option maxHeartbeats 1000000 in
theorem dead_some (i : Int) (b off len cap : Nat) (w : World) (hi0 : 0 ≤ i) (hi1 : i ≤ 15) (hlen : len ≤ 300) (hb : b < w.heap.size)
    (hcell : ∀ j, j < len → ∃ wh at' x, DeedAt w b (off + j * 3) wh at' x) :
    Calls Try.prog 4 #[.int .i64 i, .slice (some ⟨b, off, none⟩) len cap] w fun e w' => e = .returned (.bool true) ∧ Below w.heap.size w w' := by
  have HC := Lib.hid hcell
  clear hcell
  have h300 : decide (300 < (len : Int)) = false := by simp; omega
  have hi2 : decide (i < 0) = false := by simp; omega
  have hi3 : decide (15 < i) = false := by simp; omega
  have HE := Lib.hid neq_err
  go_enter Try.func4, Try.ntmps4
  go_wp2_with fail
  refine (up_any _).mono ?_
  rintro e w1 ⟨rfl, hb1⟩
  go_wp2_with fail
  refine (new_ok 16 _ (by omega) (by omega)).mono ?_
  rintro e w2 ⟨rfl, hn⟩
  have hn := Lib.hid hn
  go_wp2_with fail
  refine (kill_live _ _ 16 _ 0 i _ hn.out.1 ok0 (fresh_live hi0 hi1)).mono ?_
  rintro e w3 ⟨rfl, hw3⟩
  go_wp2_with fail
  refine (now_any _ _ _ 16 _ _ _ hw3.1).mono ?_
  rintro e w4 ⟨rfl, rfl⟩
  have hsz := hb1.size
  have hr0 : DeadRel i (w1.heap.size + 1) w1.heap.size w w3 (turned 16 (fun _ => 0) i 2) 0 :=
    ⟨hw3.1, turned_ok ok0 (.inr (.inr rfl)), okc0, killed (fresh_live hi0 hi1), (hb1.trans (hn.out.2.1.mono hsz)).trans (hw3.2.below (by omega) hsz)⟩
  clear hw3 hb1
  generalize turned 16 (fun _ => 0) i 2 = S0 at hr0
  go_wp2_with fail
  go_loopw [9, 10] (fun last j wr => ∃ (k : Nat) (S : Nat → Int) (c : Int), k ≤ len ∧ j = .int .i64 k ∧ last = .int .i64 c ∧ DeadRel i (w1.heap.size + 1) w1.heap.size w wr S c) (fun _ j _ => len - (intOf j).toNat)
  case atStart => exact ⟨0, S0, 0, Nat.zero_le _, rfl, rfl, hr0⟩
  case round =>
    obtain ⟨k, S, c, hk, rfl, rfl, hr⟩ := hrel
    clear hr0
    by_cases hlt : k < len
    · obtain ⟨wh, at', x, d0, d1, d2, hwh⟩ := HC.out k hlt
      have c0 := (hr.2.2.2.2.cell (by exact hb)).trans d0
      have c1 := (hr.2.2.2.2.cell (by exact hb)).trans d1
      have c2 := (hr.2.2.2.2.cell (by exact hb)).trans d2
      clear d0 d1 d2
      have hpk := pk_lt wh 3 (by omega)
      have hp3 : pk wh 3 = 0 ∨ pk wh 3 = 1 ∨ pk wh 3 = 2 := by omega
      clear hpk
      go_wp2_with fail
      rcases hp3 with hp | hp | hp
      · refine (pick_any wh 3 0 _ hwh.1 hwh.2 (by omega) (by omega) hp).mono ?_
        rintro e w4 ⟨rfl, rfl⟩
        clear hp
        go_wp2_with fail
        refine (stall_any _ _ 16 S c at' _ hr.1 hr.2.1).mono ?_
        rintro e w4 ⟨rfl, hw4⟩
        have hr4 := hr.turn (by omega) hsz (.inr (.inl rfl)) hw4
        clear hw4
        generalize turned 16 S at' 1 = S4 at hr4
        go_wp2_with fail
        refine (state_any _ _ _ 16 S4 c i 2 _ hr4.1 hr4.2.2.2.1).mono ?_
        rintro e w5 ⟨rfl, rfl⟩
        go_wp2_with fail
        refine (may_dead _ _ _ 16 S4 c i _ hr4.1 hr4.2.1 hr4.2.2.2.1).mono ?_
        rintro e w5 ⟨rfl, rfl⟩
        have he := HE.out
        go_wp2_with fail
        clear he
        refine (now_any _ _ _ 16 S4 c _ hr4.1).mono ?_
        rintro e w5 ⟨rfl, rfl⟩
        go_wp2_with fail
        refine (now_any _ _ _ 16 S4 c _ hr4.1).mono ?_
        rintro e w5 ⟨rfl, rfl⟩
        go_wp2
        go_roundw
        case rel => exact ⟨k + 1, S4, c, by omega, by go_num, rfl, hr4⟩
        case measure => simp [intOf]; omega
      · refine (pick_any wh 3 1 _ hwh.1 hwh.2 (by omega) (by omega) hp).mono ?_
        rintro e w4 ⟨rfl, rfl⟩
        clear hp
        go_wp2_with fail
        refine (wake_any _ _ 16 S c at' _ hr.1 hr.2.1).mono ?_
        rintro e w4 ⟨rfl, hw4⟩
        have hr4 := hr.turn (by omega) hsz (.inl rfl) hw4
        clear hw4
        generalize turned 16 S at' 0 = S4 at hr4
        go_wp2_with fail
        refine (state_any _ _ _ 16 S4 c i 2 _ hr4.1 hr4.2.2.2.1).mono ?_
        rintro e w5 ⟨rfl, rfl⟩
        go_wp2_with fail
        refine (may_dead _ _ _ 16 S4 c i _ hr4.1 hr4.2.1 hr4.2.2.2.1).mono ?_
        rintro e w5 ⟨rfl, rfl⟩
        have he := HE.out
        go_wp2_with fail
        clear he
        refine (now_any _ _ _ 16 S4 c _ hr4.1).mono ?_
        rintro e w5 ⟨rfl, rfl⟩
        go_wp2_with fail
        refine (now_any _ _ _ 16 S4 c _ hr4.1).mono ?_
        rintro e w5 ⟨rfl, rfl⟩
        go_wp2
        go_roundw
        case rel => exact ⟨k + 1, S4, c, by omega, by go_num, rfl, hr4⟩
        case measure => simp [intOf]; omega
      · refine (pick_any wh 3 2 _ hwh.1 hwh.2 (by omega) (by omega) hp).mono ?_
        rintro e w4 ⟨rfl, rfl⟩
        clear hp
        go_wp2_with fail
        refine (tick_any _ _ 16 S c x _ hr.1 hr.2.2.1).mono ?_
        rintro e w4 ⟨rfl, hw4⟩
        have hr4 := hr.tick (by omega) hsz hw4
        clear hw4
        have hge : c ≤ ticked c x := ticked_ge
        generalize ticked c x = c4 at hr4 hge
        have hnl : decide (c4 < c) = false := by simp; omega
        clear hge
        go_wp2_with fail
        refine (state_any _ _ _ 16 S c4 i 2 _ hr4.1 hr4.2.2.2.1).mono ?_
        rintro e w5 ⟨rfl, rfl⟩
        go_wp2_with fail
        refine (may_dead _ _ _ 16 S c4 i _ hr4.1 hr4.2.1 hr4.2.2.2.1).mono ?_
        rintro e w5 ⟨rfl, rfl⟩
        have he := HE.out
        go_wp2_with fail
        clear he
        refine (now_any _ _ _ 16 S c4 _ hr4.1).mono ?_
        rintro e w5 ⟨rfl, rfl⟩
        go_wp2_with fail
        refine (now_any _ _ _ 16 S c4 _ hr4.1).mono ?_
        rintro e w5 ⟨rfl, rfl⟩
        go_wp2
        go_roundw
        case rel => exact ⟨k + 1, S, c4, by omega, by go_num, rfl, hr4⟩
        case measure => simp [intOf]; omega
    · go_wp2
      go_ret
      exact ⟨rfl, hr.2.2.2.2⟩

set_option maxRecDepth 100000 in
set_option maxHeartbeats 1000000 in
theorem dead_zero (i : Int) (a : Option Addr) (cap : Nat) (w : World) (hi0 : 0 ≤ i) (hi1 : i ≤ 15) :
    Calls Try.prog 4 #[.int .i64 i, .slice a 0 cap] w fun e w' => e = .returned (.bool true) ∧ Below w.heap.size w w' := by
  have hi2 : decide (i < 0) = false := by simp; omega
  have hi3 : decide (15 < i) = false := by simp; omega
  go_enter Try.func4, Try.ntmps4
  go_wp2_with fail
  refine (up_any _).mono ?_
  rintro e w1 ⟨rfl, hb1⟩
  go_wp2_with fail
  refine (new_ok 16 _ (by omega) (by omega)).mono ?_
  rintro e w2 ⟨rfl, hn⟩
  have hn := Lib.hid hn
  go_wp2_with fail
  refine (kill_live _ _ 16 _ 0 i _ hn.out.1 ok0 (fresh_live hi0 hi1)).mono ?_
  rintro e w3 ⟨rfl, hw3⟩
  go_wp2_with fail
  refine (now_any _ _ _ 16 _ _ _ hw3.1).mono ?_
  rintro e w4 ⟨rfl, rfl⟩
  have hsz := hb1.size
  have hbl : Below w.heap.size w w3 := (hb1.trans (hn.out.2.1.mono hsz)).trans (hw3.2.below (by omega) hsz)
  clear hw3 hb1 hn
  go_wp2_with fail
  refine wp_loop_rounds 1 ?_
  rw [rounds_succ]
  go_wp2
  go_ret
  exact ⟨rfl, hbl⟩

/-- More deeds than are looked at, or no such worker. -/
theorem dead_let_raw (i : Int) (a : Option Addr) (len cap : Nat) (w : World) (hm : len ≤ maxLen) (h : decide (300 < (len : Int)) = true ∨ decide (300 < (len : Int)) = false ∧ decide (i < 0) = true ∨ decide (300 < (len : Int)) = false ∧ decide (i < 0) = false ∧ decide (15 < i) = true) :
    Calls Try.prog 4 #[.int .i64 i, .slice a len cap] w fun e w' => e = .returned (.bool true) ∧ Below w.heap.size w w' := by
  unfold maxLen at hm
  rcases h with h1 | ⟨h1, h2⟩ | ⟨h1, h2, h3⟩
  all_goals
    go_enter Try.func4, Try.ntmps4
    go_wp2_with fail
    refine (up_any _).mono ?_
    rintro e w1 ⟨rfl, hb1⟩
    go_wp2_with fail
    refine (new_ok 16 _ (by omega) (by omega)).mono ?_
    rintro e w2 ⟨rfl, hn⟩
    have hbl := hb1.trans (hn.2.1.mono hb1.size)
    clear hb1 hn
    go_wp2
    go_ret
    exact ⟨rfl, hbl⟩

theorem dead_let (i : Int) (a : Option Addr) (len cap : Nat) (w : World) (hm : len ≤ maxLen) (h : 300 < len ∨ i < 0 ∨ 15 < i) :
    Calls Try.prog 4 #[.int .i64 i, .slice a len cap] w fun e w' => e = .returned (.bool true) ∧ Below w.heap.size w w' := by
  refine dead_let_raw i a len cap w hm ?_
  by_cases h1 : 300 < len
  · exact .inl (by simp; omega)
  · by_cases h2 : i < 0
    · exact .inr (.inl ⟨by simp; omega, by simpa using h2⟩)
    · exact .inr (.inr ⟨by simp; omega, by simp; omega, by simp; omega⟩)
end Go.Proofs.Ytjehpdandidkmaa
