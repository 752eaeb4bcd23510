/- The walk of RingOrder: it returns true, and nothing that was there before the call is changed. -/
import Derived.Test.YtnghhcjfalgkdaaRc
namespace Go.Proofs.Ytnghhcjfalgkdaa
open Go.RowKit
set_option linter.unusedVariables false
set_option maxRecDepth 100000

/-- m numbers, from t on. -/
def seqL (t m : Nat) : List Int := (List.range m).map fun i => ((t + i : Nat) : Int)
theorem seq_len (t m : Nat) : (seqL t m).length = m := by simp [seqL]
theorem seq_last (t m : Nat) : seqL t m ++ [((t + m : Nat) : Int)] = seqL t (m + 1) := by
  unfold seqL
  rw [List.range_succ, List.map_append]
  rfl
theorem seq_first (t m : Nat) : seqL t (m + 1) = (t : Int) :: seqL (t + 1) m := by
  unfold seqL
  rw [List.range_succ_eq_map, List.map_cons, List.map_map]
  congr 1
  refine List.map_congr_left fun i _ => ?_
  show ((t + (i + 1) : Nat) : Int) = ((t + 1 + i : Nat) : Int)
  congr 1
  omega
theorem seq_at {t m j : Nat} (h : j < m) : (seqL t m).getD j 0 = ((t + j : Nat) : Int) := by
  unfold seqL
  rw [List.getD_eq_getElem?_getD, List.getElem?_map, List.getElem?_range h]
  rfl

theorem wraps (a : Int) (h : -1000 ≤ a ∧ a ≤ 1000) : IntKind.i64.wrap a = a ∧ wrap64 a = a := ⟨IntWalk.i64_in _ (by omega), IntWalk.wrap64_in _ (by omega)⟩

set_option maxHeartbeats 2000000 in
theorem order_no (n : Int) (A : Option Addr) (len cap : Nat) (w : World) (h : n < 1 ∨ 64 < n) :
    Calls Try.prog 4 #[.int .i64 n, .slice A len cap] w fun e w' => e = .returned (.bool true) ∧ Below w.heap.size w w' := by
  have HUP := up_any w
  go_enter Try.func4, Try.ntmps4
  go_wp2_with fail
  refine HUP.mono ?_
  rintro e w1 ⟨rfl, hb1⟩
  clear HUP
  go_wp2_with fail
  refine (new_noi n _ h).mono ?_
  rintro e w2 ⟨rfl, rfl⟩
  go_wp2
  go_ret
  exact ⟨rfl, hb1⟩

set_option maxHeartbeats 2000000 in
theorem order_long (n : Nat) (A : Option Addr) (len cap : Nat) (w : World) (h1 : 1 ≤ n) (h2 : n ≤ 64) (hl : 300 < len) (hm : len ≤ maxLen) :
    Calls Try.prog 4 #[.int .i64 (n : Int), .slice A len cap] w fun e w' => e = .returned (.bool true) ∧ Below w.heap.size w w' := by
  have HUP := up_any w
  unfold maxLen at hm
  have h300 : decide (300 < (len : Int)) = true := by simp; omega
  go_enter Try.func4, Try.ntmps4
  go_wp2_with fail
  refine HUP.mono ?_
  rintro e w1 ⟨rfl, hb1⟩
  clear HUP
  go_wp2_with fail
  refine (new_oki n _ h1 h2).mono ?_
  rintro e w2 ⟨rfl, -, hb2⟩
  go_wp2
  go_ret
  exact ⟨rfl, hb1.trans (hb2.mono hb1.size)⟩

set_option maxHeartbeats 8000000 in
theorem order_some (n : Nat) (A : Option Addr) (len cap : Nat) (B : Nat → Bool) (w : World) (h1 : 1 ≤ n) (h2 : n ≤ 64) (hl : len ≤ 300)
    (hA : 0 < len → ∃ b off, A = some ⟨b, off, none⟩ ∧ b < w.heap.size ∧ ∀ j, j < len → w.cell? ⟨b, off + j, none⟩ = some (.bool (B j))) :
    Calls Try.prog 4 #[.int .i64 (n : Int), .slice A len cap] w fun e w' => e = .returned (.bool true) ∧ Below w.heap.size w w' := by
  have HUP := up_any w
  have HA := Lib.hid hA
  have h300 : decide (300 < (len : Int)) = false := by simp; omega
  clear hA
  go_enter Try.func4, Try.ntmps4
  go_wp2_with fail
  refine HUP.mono ?_
  rintro e w1 ⟨rfl, hb1⟩
  clear HUP
  go_wp2_with fail
  refine (new_oki n _ h1 h2).mono ?_
  rintro e w2 ⟨rfl, hr2, hb2⟩
  have hs1 := hb1.size
  have HR := Lib.hid hr2
  have HB := Lib.hid (hb1.trans (hb2.mono hb1.size))
  clear hr2 hb1 hb2
  generalize hN : w1.heap.size = N at *
  clear hN
  go_wp2_with fail
  go_loopw [8, 9, 10] (fun pu ta i wr => ∃ k t m : Nat, k ≤ len ∧ i = .int .i64 k ∧ ta = .int .i64 t ∧ pu = .int .i64 ((t + m : Nat) : Int) ∧ t + m ≤ k ∧ Hid (Rgi wr N n t (seqL t m)) ∧ Hid (Below w.heap.size w wr)) (fun _ _ i _ => len - (intOf i).toNat)
  case atStart => exact ⟨0, 0, 0, Nat.zero_le _, rfl, rfl, rfl, Nat.le_refl _, HR, HB⟩
  case round =>
    clear HR HB
    obtain ⟨k, t, m, hk, rfl, rfl, rfl, htm, HR, HB⟩ := hrel
    have hmn : m ≤ n := by have := HR.out.facts.1; rw [seq_len] at this; exact this
    by_cases hlt : k < len
    · obtain ⟨b, off, rfl, hbw, hc⟩ := HA.out (by omega)
      have hx : wr.cell? ⟨b, off + k, none⟩ = some (.bool (B k)) := (HB.out.cell (by exact hbw)).trans (hc k hlt)
      clear hc
      have hwr := HB.out.size
      generalize B k = x at hx
      cases x
      case true =>
        by_cases hf : m = n
        · have HP := Lib.hid (put_fulli HR.out ((t + m : Nat) : Int) (by rw [seq_len]; exact hf))
          obtain ⟨p, hp⟩ : ∃ p : Int, ((t + m : Nat) : Int) = p := ⟨_, rfl⟩
          rw [hp] at HP ⊢
          have e1 : IntKind.i64.wrap (p - (t : Int)) = (m : Int) := by rw [IntWalk.i64_in _ (by omega)]; omega
          have e2 : wrap64 (p - (t : Int)) = (m : Int) := by rw [IntWalk.wrap64_in _ (by omega)]; omega
          have e3 : ((m : Int) == (n : Int)) = true := by simp; omega
          have e4 : decide (p < (t : Int)) = false := by simp; omega
          have e5 : decide ((n : Int) < (m : Int)) = false := by simp; omega
          have HQ := Lib.hid hp
          clear hp hf
          go_wp2_with fail
          refine HP.out.mono ?_
          rintro e w3 ⟨rfl, d, rfl⟩
          go_wp2
          go_roundw
          case rel => exact ⟨k + 1, t, m, by omega, by go_num, rfl, by rw [HQ.out], by omega, Lib.hid (HR.out.drewN d), Lib.hid ⟨HB.out.os, HB.out.tape, HB.out.output, HB.out.size, HB.out.block⟩⟩
          case measure => simp [intOf]; omega
        · have HP := Lib.hid (put_roomi HR.out ((t + m : Nat) : Int) (by rw [seq_len]; omega) (by rw [seq_len]; omega))
          rw [seq_last] at HP
          obtain ⟨p, hp⟩ : ∃ p : Int, ((t + m : Nat) : Int) = p := ⟨_, rfl⟩
          rw [hp] at HP ⊢
          have hsz := HR.out.lt
          have e1 : IntKind.i64.wrap (p - (t : Int)) = (m : Int) := by rw [IntWalk.i64_in _ (by omega)]; omega
          have e2 : wrap64 (p - (t : Int)) = (m : Int) := by rw [IntWalk.wrap64_in _ (by omega)]; omega
          have e3 : ((m : Int) == (n : Int)) = false := by simp; omega
          have f1 : IntKind.i64.wrap (p + 1) = p + 1 := IntWalk.i64_in _ (by omega)
          have f2 : wrap64 (p + 1) = p + 1 := IntWalk.wrap64_in _ (by omega)
          have g1 : IntKind.i64.wrap (p + 1 - (t : Int)) = (m : Int) + 1 := by rw [IntWalk.i64_in _ (by omega)]; omega
          have g2 : wrap64 (p + 1 - (t : Int)) = (m : Int) + 1 := by rw [IntWalk.wrap64_in _ (by omega)]; omega
          have e4 : decide (p + 1 < (t : Int)) = false := by simp; omega
          have e5 : decide ((n : Int) < (m : Int) + 1) = false := by simp; omega
          have HQ := Lib.hid hp
          clear hp hf
          go_wp2_with fail
          refine HP.out.mono ?_
          rintro e w3 ⟨rfl, hr3, hc3⟩
          have HR3 := Lib.hid hr3
          have HB3 := Lib.hid (HB.out.trans (hc3.below hs1 hwr))
          clear hr3 hc3
          go_wp2
          go_roundw
          case rel => exact ⟨k + 1, t, m + 1, by omega, by go_num, rfl, by have := HQ.out; first | (congr 1; omega) | go_num, by omega, HR3, HB3⟩
          case measure => simp [intOf]; omega
      case false =>
        cases m with
        | zero =>
          have HT := Lib.hid (take_nonei HR.out)
          have e4 : decide ((t : Int) < (t : Int)) = false := by simp
          have e1 : IntKind.i64.wrap ((t : Int) - (t : Int)) = 0 := by rw [IntWalk.i64_in _ (by omega)]; omega
          have e2 : wrap64 ((t : Int) - (t : Int)) = 0 := by rw [IntWalk.wrap64_in _ (by omega)]; omega
          have e5 : decide ((n : Int) < 0) = false := by simp
          rw [Nat.add_zero]
          go_wp2_with fail
          refine HT.out.mono ?_
          rintro e w3 ⟨rfl, rfl⟩
          go_wp2
          go_roundw
          case rel => exact ⟨k + 1, t, 0, by omega, by go_num, rfl, rfl, by omega, HR, HB⟩
          case measure => simp [intOf]; omega
        | succ m =>
          have hR := HR.out
          rw [seq_first] at hR
          have HT := Lib.hid (take_somei hR)
          obtain ⟨p, hp⟩ : ∃ p : Int, ((t + (m + 1) : Nat) : Int) = p := ⟨_, rfl⟩
          rw [hp]
          have hm9 : m ≤ 64 := by omega
          have ht9 : t ≤ 300 := by omega
          have hpt : p = (t : Int) + (m : Int) + 1 := by rw [← hp]; simp; omega
          have hpd : p - ((t : Int) + 1) = (m : Int) := by rw [hpt]; omega
          have F := Lib.hid (wraps ((t : Int) + 1) (by omega))
          have G := Lib.hid (show IntKind.i64.wrap (p - ((t : Int) + 1)) = (m : Int) ∧ wrap64 (p - ((t : Int) + 1)) = (m : Int) from by rw [hpd]; exact wraps (m : Int) (by omega))
          have e4 : decide (p < (t : Int) + 1) = false := by rw [hpt]; simp; omega
          have e5 : decide ((n : Int) < (m : Int)) = false := by simp; omega
          have HQ := Lib.hid hp
          clear hp hR hpt hpd
          obtain ⟨f1, f2⟩ := F.out
          obtain ⟨g1, g2⟩ := G.out
          go_wp2_with fail
          refine HT.out.mono ?_
          rintro e w3 ⟨rfl, hr3, hc3⟩
          have HR3 := Lib.hid hr3
          have HB3 := Lib.hid (HB.out.trans (hc3.below hs1 hwr))
          clear hr3 hc3
          go_wp2
          clear f1 f2 g1 g2 e4 e5
          go_roundw
          case rel => exact ⟨k + 1, t + 1, m, by omega, by go_num, by go_num, by have := HQ.out; (congr 1; omega), by omega, HR3, HB3⟩
          case measure => simp [intOf]; omega
    · have HD := Lib.hid (draini HR.out)
      have hwr := HB.out.size
      obtain ⟨p, hp⟩ : ∃ p : Int, ((t + m : Nat) : Int) = p := ⟨_, rfl⟩
      rw [hp]
      have HQ := Lib.hid hp
      have f1 : IntKind.i64.wrap ((t : Int) + (m : Int)) = p := by rw [IntWalk.i64_in _ (by omega)]; omega
      have f2 : wrap64 ((t : Int) + (m : Int)) = p := by rw [IntWalk.wrap64_in _ (by omega)]; omega
      have HF := Lib.hid (And.intro f1 f2)
      clear hp f1 f2
      go_wp2_with fail
      refine HD.out.mono ?_
      rintro e w3 ⟨A1, c1, rfl, hls, hr3, hc3⟩
      have HLS := Lib.hid hls
      have HL3 := Lib.hid (leni hr3)
      have HB3 := Lib.hid (HB.out.trans (hc3.below hs1 hwr))
      clear hr3 hc3 hls HR HB HD
      rw [seq_len]
      go_wp2_with fail
      go_loopw [16] (fun i wr => ∃ j : Nat, j ≤ m ∧ i = .int .i64 j ∧ wr = w3) (fun i _ => m - (intOf i).toNat)
      case atStart => exact ⟨0, Nat.zero_le _, rfl, rfl⟩
      case round =>
        obtain ⟨j, hj, rfl, rfl⟩ := hrel
        by_cases hjm : j < m
        · obtain ⟨b1, o1, rfl, hb1, hx⟩ := HLS.out.at_ (j := j) (by rw [seq_len]; exact hjm)
          rw [seq_at hjm] at hx
          obtain ⟨q, hq⟩ : ∃ q : Int, ((t + j : Nat) : Int) = q := ⟨_, rfl⟩
          rw [hq] at hx
          have g1 : IntKind.i64.wrap ((t : Int) + (j : Int)) = q := by rw [IntWalk.i64_in _ (by omega)]; omega
          have g2 : wrap64 ((t : Int) + (j : Int)) = q := by rw [IntWalk.wrap64_in _ (by omega)]; omega
          clear hq
          go_wp2
          go_roundw
          case rel => exact ⟨j + 1, by omega, by go_num, trivial⟩
          case measure => simp [intOf]; omega
        · obtain rfl : j = m := by omega
          have f1 := HF.out.1
          have f2 := HF.out.2
          go_wp2_with fail
          refine HL3.out.mono ?_
          rintro e w4 ⟨rfl, rfl⟩
          go_wp2
          go_ret
          exact ⟨rfl, HB3.out⟩
end Go.Proofs.Ytnghhcjfalgkdaa
