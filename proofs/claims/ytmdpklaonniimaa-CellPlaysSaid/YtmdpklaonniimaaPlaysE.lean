/- The walks of CellPlays at its edges: a number of cells that there may not be, no deeds, more deeds than are looked at. -/
import Derived.Test.YtmdpklaonniimaaW2
namespace Go.Proofs.Ytmdpklaonniimaa
open Go.RowKit

set_option maxRecDepth 100000 in
set_option maxHeartbeats 1000000 in
theorem plays_bad (n : Int) (a : Option Addr) (len cap : Nat) (w : World) (h : n < 1 ∨ 1000 < n) :
    Calls Try.prog 3 #[.int .i64 n, .slice a len cap] w fun e w' => e = .returned (.bool true) ∧ Below w.heap.size w w' := by
  have he := eql_err
  have HE := Lib.hid he
  clear he
  have HN := Lib.hid h
  rcases h with h | h
  · go_enter Try.func3, Try.ntmps3
    go_wp2_with fail
    refine (up_any _).mono ?_
    rintro e w1 ⟨rfl, hb1⟩
    go_wp2_with fail
    refine (new_no n _ HN.out).mono ?_
    rintro e w2 ⟨rfl, rfl⟩
    have he := HE.out
    go_wp2
    go_ret
    exact ⟨rfl, hb1⟩
  · have h' : ¬ n < 1 := by omega
    go_enter Try.func3, Try.ntmps3
    go_wp2_with fail
    refine (up_any _).mono ?_
    rintro e w1 ⟨rfl, hb1⟩
    go_wp2_with fail
    refine (new_no n _ HN.out).mono ?_
    rintro e w2 ⟨rfl, rfl⟩
    have he := HE.out
    go_wp2
    go_ret
    exact ⟨rfl, hb1⟩

set_option maxRecDepth 100000 in
set_option maxHeartbeats 1000000 in
theorem plays_long (n : Int) (a : Option Addr) (len cap : Nat) (w : World) (h1 : 1 ≤ n) (h2 : n ≤ 1000) (hlen : 300 < len) (hm : len ≤ maxLen) :
    Calls Try.prog 3 #[.int .i64 n, .slice a len cap] w fun e w' => e = .returned (.bool true) ∧ Below w.heap.size w w' := by
  unfold maxLen at hm
  have h300 : decide (300 < (len : Int)) = true := by simp; omega
  have hn1 : decide (n < 1) = false := by simp; omega
  have hn2 : decide (1000 < n) = false := by simp; omega
  go_enter Try.func3, Try.ntmps3
  go_wp2_with fail
  refine (up_any _).mono ?_
  rintro e w1 ⟨rfl, hb1⟩
  go_wp2_with fail
  refine (new_ok n _ (by omega) (by omega)).mono ?_
  rintro e w2 ⟨rfl, hn⟩
  have hbl := hb1.trans (hn.2.1.mono hb1.size)
  clear hb1 hn
  go_wp2
  go_ret
  exact ⟨rfl, hbl⟩

set_option maxRecDepth 100000 in
set_option maxHeartbeats 1000000 in
theorem plays_zero (n : Int) (a : Option Addr) (cap : Nat) (w : World) (h1 : 1 ≤ n) (h2 : n ≤ 1000) :
    Calls Try.prog 3 #[.int .i64 n, .slice a 0 cap] w fun e w' => e = .returned (.bool true) ∧ Below w.heap.size w w' := by
  obtain ⟨N, rfl⟩ := Int.eq_ofNat_of_zero_le (show 0 ≤ n by omega)
  have hn1 : decide ((N : Int) < 1) = false := by simp; omega
  have hn2 : decide (1000 < (N : Int)) = false := by simp; omega
  have hmk := run_make_pairs 30 35 Try.underlying30 Try.info35 N (by omega)
  go_enter Try.func3, Try.ntmps3
  go_wp2_with fail
  refine (up_any _).mono ?_
  rintro e w1 ⟨rfl, hb1⟩
  go_wp2_with fail
  refine (new_ok N _ (by omega) (by omega)).mono ?_
  rintro e w2 ⟨rfl, hn⟩
  have hbl := hb1.trans (hn.2.1.mono hb1.size)
  have hb2 := hbl.size
  clear hb1 hn
  go_wp2_with fail
  refine wp_loop_rounds 1 ?_
  rw [rounds_succ]
  go_wp2
  go_ret
  exact ⟨rfl, hbl.alloc hb2 _⟩
end Go.Proofs.Ytmdpklaonniimaa
