/- Contracts of package weigh's Heaviest, and of the law's head, over the translation. Condition: the cells are float64 words. -/
import Derived.Test.YtdgdacfccdfjmaaWg2
import Derived.Below
namespace Go.Proofs.Ytdgdacfccdfjmaa
open Go.RowKit

theorem ret_int {k : IntKind} {a b : Int} (h : a = b) : Ending.returned (.int k a) = .returned (.int k b) := by rw [h]

/-- The place of the heaviest of the first n. -/
def hv (F : Nat → Nat) : Nat → Int
  | 0 => -1
  | k + 1 => if hv F k < 0 then k else if 0 < cF (F k) (F (hv F k).toNat) then k else hv F k

theorem hv_bd (F : Nat → Nat) (k : Nat) : -1 ≤ hv F k ∧ hv F k < k ∧ (0 < k → 0 ≤ hv F k) := by
  induction k with
  | zero => exact ⟨Int.le_refl _, show (-1 : Int) < 0 by decide, fun h => absurd h (by decide)⟩
  | succ k ih =>
    unfold hv
    split
    · exact ⟨by omega, by omega, fun _ => by omega⟩
    · split
      · exact ⟨by omega, by omega, fun _ => by omega⟩
      · exact ⟨by omega, by omega, fun _ => by omega⟩

theorem hv_one (F : Nat → Nat) : hv F (0 + 1) = ((0 : Nat) : Int) := rfl
theorem hv_new {F : Nat → Nat} {k m : Nat} (hm : hv F k = m) (h : 0 < cF (F k) (F m)) : hv F (k + 1) = k := by
  show (if hv F k < 0 then _ else _) = _
  rw [hm, if_neg (by omega), Int.toNat_natCast, if_pos h]
theorem hv_old {F : Nat → Nat} {k m : Nat} (hm : hv F k = m) (h : ¬ 0 < cF (F k) (F m)) : hv F (k + 1) = m := by
  show (if hv F k < 0 then _ else _) = _
  rw [hm, if_neg (by omega), Int.toNat_natCast, if_neg h]

set_option maxHeartbeats 400000 in
theorem heaviest_nil (w : World) : Calls Try.prog 12 #[.slice none 0 0] w fun e w' => e = .returned (.int .i64 (-1)) ∧ w = w' := by
  go_enter Try.func12, Try.ntmps12
  go_wp2
  go_loop [3, 8] (fun v i => v = .int .i64 (-1) ∧ i = .int .i64 0) (fun _ _ => 0)
  case atStart => exact ⟨rfl, rfl⟩
  case round =>
    obtain ⟨rfl, rfl⟩ := hrel
    go_wp2
    go_ret
    exact ⟨rfl, rfl⟩

set_option maxHeartbeats 1000000 in
theorem heaviest_any (b off n cap : Nat) (F : Nat → Nat) (w : World) (hn : n ≤ 9223372036854775807) (hF : ∀ j, j < n → F j < 18446744073709551616) (hc : ∀ j, j < n → w.cell? ⟨b, off + j, none⟩ = some (.float .f64 (F j))) :
    Calls Try.prog 12 #[.slice (some ⟨b, off, none⟩) n cap] w fun e w' => e = .returned (.int .i64 (hv F n)) ∧ w = w' := by
  have HF := Lib.hid hF
  have HC := Lib.hid hc
  clear hF hc
  go_enter Try.func12, Try.ntmps12
  go_wp2
  go_loop [3, 8] (fun v i => ∃ k : Nat, k ≤ n ∧ i = .int .i64 k ∧ v = .int .i64 (hv F k)) (fun _ i => n - (intOf i).toNat)
  case atStart => exact ⟨0, by omega, rfl, rfl⟩
  case round =>
    obtain ⟨k, hk, rfl, rfl⟩ := hrel
    by_cases hlt : k < n
    · have ck := HC.out k hlt
      have fk := HF.out k hlt
      by_cases h0 : k = 0
      · subst h0
        have hm : hv F 0 = -1 := rfl
        simp only [Nat.add_zero] at ck
        go_wp2
        go_round
        case rel => exact ⟨0 + 1, by omega, by go_num, rfl⟩
        case measure => simp [intOf]; omega
      · have hb := hv_bd F k
        obtain ⟨m, hm⟩ : ∃ m : Nat, hv F k = m := ⟨(hv F k).toNat, by omega⟩
        have hmk : m < k := by omega
        have cm := HC.out m (by omega)
        have fm := HF.out m (by omega)
        clear hb
        rw [hm]
        by_cases hg : 0 < cF (F k) (F m)
        · have HN := Lib.hid (hv_new hm hg)
          clear hm h0
          have hmn : m < n := by omega
          go_wp2_with (go_at_call 7; refine (wcmp _ _ _ (by assumption) (by assumption)).mono ?_; rintro e w' ⟨rfl, rfl⟩)
          go_round
          case rel => exact ⟨k + 1, by omega, by go_num, by rw [HN.out]⟩
          case measure => simp [intOf]; omega
        · have HN := Lib.hid (hv_old hm hg)
          clear hm h0
          have hmn : m < n := by omega
          have hg' : cF (F k) (F m) ≤ 0 := by omega
          go_wp2_with (go_at_call 7; refine (wcmp _ _ _ (by assumption) (by assumption)).mono ?_; rintro e w' ⟨rfl, rfl⟩)
          go_round
          case rel => exact ⟨k + 1, by omega, by go_num, by rw [HN.out]⟩
          case measure => simp [intOf]; omega
    · obtain rfl : k = n := by omega
      go_wp2
      go_ret
      exact ⟨rfl, rfl⟩

/-- Two weights, as the law lays them. -/
def F12 (j : Nat) : Nat := if j = 0 then 4607182418800017408 else 4611686018427387904
theorem F12_lt (j : Nat) : F12 j < 18446744073709551616 := by unfold F12; split <;> decide
theorem hv_F12 : hv F12 2 = 1 := by decide +kernel
theorem cF_mz : cF 9223372036854775808 0 = -1 := by decide +kernel
theorem isN_m1 : isN 13830554455654793216 = false := by decide +kernel

theorem two_cells (w : World) (j : Nat) (h : j < 2) : ((w.alloc (.cells #[.float .f64 4607182418800017408, .float .f64 4611686018427387904] 22)).drew).cell? ⟨w.heap.size, 0 + j, none⟩ = some (.float .f64 (F12 j)) := by
  obtain rfl | rfl : j = 0 ∨ j = 1 := by omega
  · simp [go_sem, F12]
  · simp [go_sem, F12]
theorem two_heavy (w : World) : Calls Try.prog 12 #[.slice (some ⟨w.heap.size, 0, none⟩) 2 2] ((w.alloc (.cells #[.float .f64 4607182418800017408, .float .f64 4611686018427387904] 22)).drew) fun e w' => e = .returned (.int .i64 1) ∧ ((w.alloc (.cells #[.float .f64 4607182418800017408, .float .f64 4611686018427387904] 22)).drew) = w' := by
  have h := heaviest_any w.heap.size 0 2 2 F12 _ (by decide) (fun j _ => F12_lt j) (two_cells w)
  rw [hv_F12] at h
  exact h

set_option maxHeartbeats 1000000 in
theorem up_any (w : World) : Calls Try.prog 6 #[] w fun e w' => e = .returned (.bool true) ∧ Below w.heap.size w w' := by
  have c1 := cF_mz
  have c2 : cF (nb w) 13830554455654793216 = -1 := cF_n (nb_nan w) isN_m1
  have l2 := nb_lt w
  go_enter Try.func6, Try.ntmps6
  go_wp2_with (first | (go_at_call 14; refine (minus_any _).mono ?_; rintro e w' ⟨rfl, rfl⟩) | (go_at_call 9; refine (none_any _).mono ?_; rintro e w' ⟨rfl, rfl⟩) | (go_at_call 7; refine (wcmp _ _ _ (by first | assumption | decide) (by first | assumption | decide)).mono ?_; rintro e w' ⟨rfl, rfl⟩) | (go_at_call 12; with_reducible refine (heaviest_nil _).mono ?_; rintro e w' ⟨rfl, rfl⟩) | (go_at_call 12; with_reducible refine (two_heavy _).mono ?_; rintro e w' ⟨rfl, rfl⟩))
  go_ret
  exact ⟨rfl, ((Below.refl _ _).alloc (Nat.le_refl _) _).drew⟩

end Go.Proofs.Ytdgdacfccdfjmaa
