/- Contracts of cell.New, of the laws' own small functions (up, pick) and of the errors' numbers. No condition. -/
import Derived.Test.YtmdpklaonniimaaW1
namespace Go.Proofs.Ytmdpklaonniimaa
open Go.RowKit

theorem Try.info53 : (Try.prog.info? 53).map (fun i => (i.zero, i.size, i.bytes)) = some (some (.agg #[.int .u64 0, .int .i64 0]), 2, 16) := by kernel_rfl
theorem Try.info35 : (Try.prog.info? 35).map (fun i => (i.zero, i.size, i.bytes)) = some (some (.agg #[.int .u64 0, .int .i64 0]), 2, 16) := by kernel_rfl
theorem Try.info29 : (Try.prog.info? 29).map (fun i => i.comparable) = some true := by kernel_rfl

theorem made_row (w : World) (n : Nat) (t : TypeId) : (w.alloc (.cells (madeCells #[.int .u64 0, .int .i64 0] (n * 2)) t)).rowIs w.heap.size t (n * 2) (mix (fun _ => 0) (fun _ => 0)) := by
  refine ⟨_, Deep.blk_alloc_new _ _, size_madeCells _ _, fun i hi => ?_⟩
  have h2 : i % 2 < 2 := Nat.mod_lt _ (by omega)
  simp only [madeCells, mix]
  by_cases h : i % 2 = 0
  · simp [hi, h]
  · have h1 : i % 2 = 1 := by omega
    simp [hi, h1]

theorem run_make_pairs (t e : TypeId) (ht : Try.prog.underlying t = some (.slice e))
    (hinfo : (Try.prog.info? e).map (fun i => (i.zero, i.size, i.bytes)) = some (some (.agg #[.int .u64 0, .int .i64 0]), 2, 16)) (n : Nat) (hn : n ≤ 1000) (w : World) :
    (Instr.makeSlice t (.int .i64 (n : Int)) (.int .i64 (n : Int))).run Try.prog w = .ok (.slice (some ⟨w.heap.size, 0, none⟩) n n) (w.alloc (.cells (madeCells #[.int .u64 0, .int .i64 0] (n * 2)) e)) := by
  obtain ⟨i, hi, hzz⟩ := Option.map_eq_some_iff.1 hinfo
  simp only [Prod.mk.injEq] at hzz
  obtain ⟨hz, hs, hb⟩ := hzz
  have hr := run_make (P := Try.prog) w t e i _ ht hi hz .i64 .i64 n n (by omega) (Int.le_refl _) (by rw [hb]; omega) (by omega)
  simp only [Int.toNat_natCast, hs] at hr
  exact hr

/-- What New leaves. -/
def Newed (w w' : World) (n : Nat) : Prop :=
  Cl w' (w.heap.size + 1) w.heap.size n (fun _ => 0) (fun _ => 0) ∧ Below w.heap.size w w' ∧ w'.heap.size = w.heap.size + 2

set_option maxHeartbeats 400000 in
theorem new_ok (n : Int) (w : World) (h1 : 1 ≤ n) (h2 : n ≤ 1000) :
    Calls Try.prog 6 #[.int .i64 n] w fun e w' => e = .returned (.tuple #[.pointer (some ⟨w.heap.size + 1, 0, none⟩), .nilIface]) ∧ Newed w w' n.toNat := by
  obtain ⟨m, rfl⟩ := Int.eq_ofNat_of_zero_le (show 0 ≤ n by omega)
  rw [Int.toNat_natCast]
  have hmk := run_make_pairs 48 53 Try.underlying48 Try.info53 m (by omega)
  go_enter Try.func6, Try.ntmps6
  go_wp2
  go_ret2
  refine ⟨rfl, ⟨?_, ?_⟩, ?_, ?_⟩
  · rw [show w.heap.size + 1 = (w.alloc (.cells (madeCells #[.int .u64 0, .int .i64 0] (m * 2)) 53)).heap.size by simp]
    exact Deep.blk_alloc_new _ _
  · exact (made_row w m 53).alloc _
  · exact ((Below.refl _ _).alloc (Nat.le_refl _) _).alloc (by simp) _
  · simp

set_option maxHeartbeats 400000 in
theorem new_no (n : Int) (w : World) (h : n < 1 ∨ 1000 < n) :
    Calls Try.prog 6 #[.int .i64 n] w fun e w' => e = .returned (.tuple #[.pointer none, .iface 29 (.int .i64 1)]) ∧ w = w' := by
  rcases h with h | h
  · go_enter Try.func6, Try.ntmps6
    go_wp2
    go_ret2
    exact ⟨rfl, rfl⟩
  · have h' : ¬ n < 1 := by omega
    go_enter Try.func6, Try.ntmps6
    go_wp2
    go_ret2
    exact ⟨rfl, rfl⟩

theorem errs_alike (depth : Nat) (a b : Int) (w : World) : (Op.equalIn (depth + 2) 26 (.iface 29 (.int .i64 a)) (.iface 29 (.int .i64 b))).run Try.prog w = .ok (a == b) w := by
  obtain ⟨i, hi, hc⟩ := Option.map_eq_some_iff.1 Try.info29
  have u26 := run_underlying (w := w) Try.underlying26
  simp [Op.equalIn, u26, typeInfo, hi, hc]

/-- Two errors that are numbers of api's own type are the same if the numbers are. -/
theorem eql_err (a b : Int) (w : World) : (binOp .eql 26 (.iface 29 (.int .i64 a)) (.iface 29 (.int .i64 b))).run Try.prog w = .ok (.bool (a == b)) w := by
  have h := errs_alike 9998 a b w
  simp only [binOp, Op.equal, Op.maxDepth]
  simp [h]

theorem grown_below {w w' : World} {b B : Nat} (h : w.grownBy w' (some b)) (hb : B ≤ b) (hB : B ≤ w.heap.size) : Below B w w' :=
  (Below.refl B w).grown h hB (fun k hk => by injection hk with e; omega)

theorem up_any (w : World) : Calls Try.prog 5 #[] w fun e w' => e = .returned (.bool true) ∧ Below w.heap.size w w' := by
  have he := eql_err
  have HE := Lib.hid he
  clear he
  go_enter Try.func5, Try.ntmps5
  go_wp2_with fail
  refine (new_ok 1 _ (by omega) (by omega)).mono ?_
  rintro e w1 ⟨rfl, hn⟩
  go_wp2_with fail
  refine (new_no 0 _ (by omega)).mono ?_
  rintro e w2 ⟨rfl, rfl⟩
  go_wp2_with fail
  refine (swap_yes _ _ 1 0 5 _ _ _ (by omega) (by omega) hn.1 (by simp) (by simp)).mono ?_
  rintro e w3 ⟨rfl, hw3⟩
  go_wp2_with fail
  refine (swap_no _ _ 1 0 0 6 _ _ _ (by omega) (by omega) hw3.1 (by simp [upd])).mono ?_
  rintro e w4 ⟨rfl, rfl⟩
  have he := HE.out
  go_wp2_with fail
  refine (stamp_in _ _ 1 0 _ _ _ (by omega) (by omega) hw3.1).mono ?_
  rintro e w4 ⟨rfl, rfl⟩
  go_wp2
  go_ret
  refine ⟨by simp [upd], hn.2.1.trans (grown_below hw3.2.1 (Nat.le_refl _) (by have := hn.2.2; omega))⟩

theorem ret_int {k : IntKind} {a b : Int} (h : a = b) : Ending.returned (.int k a) = .returned (.int k b) := by rw [h]

/-- What pick takes of a raw number, modulo 4. -/
def pk (c : Int) : Int := (if c < 0 then -(c + 1) else c) % 4

theorem pk_cases (c : Int) : pk c = 0 ∨ pk c = 1 ∨ pk c = 2 ∨ pk c = 3 := by unfold pk; omega

set_option maxHeartbeats 400000 in
theorem pick_any (c : Int) (w : World) (h1 : -9223372036854775808 ≤ c) (h2 : c ≤ 9223372036854775807) :
    Calls Try.prog 8 #[.int .i64 c, .int .i64 4] w fun e w' => e = .returned (.int .i64 (pk c)) ∧ w = w' := by
  by_cases hc : c < 0
  · have hv : -(c + 1).tmod 4 = pk c := by
      unfold pk
      rw [if_pos hc, ← Int.neg_tmod, Int.tmod_eq_emod_of_nonneg (by omega)]
    have HV := Lib.hid hv
    clear hv
    go_enter Try.func8, Try.ntmps8
    go_wp2
    go_ret
    exact ⟨ret_int HV.out, rfl⟩
  · have hv : c % 4 = pk c := by
      unfold pk
      rw [if_neg hc]
    have HV := Lib.hid hv
    clear hv
    go_enter Try.func8, Try.ntmps8
    go_wp2
    go_ret
    exact ⟨ret_int HV.out, rfl⟩

set_option maxHeartbeats 400000 in
theorem code_six (w : World) : Calls Try.prog 13 #[.iface 29 (.int .i64 6)] w fun e w' => e = .returned (.int .i64 6) ∧ w = w' := by
  have he := eql_err
  go_enter Try.func13, Try.ntmps13
  go_wp2
  go_loop [3] (fun i => ∃ k : Int, 1 ≤ k ∧ k ≤ 6 ∧ i = .int .i64 k) (fun i => (6 - intOf i).toNat)
  case atStart => exact ⟨1, by omega, by omega, rfl⟩
  case round =>
    obtain ⟨k, hk1, hk2, rfl⟩ := hrel
    by_cases h6 : k = 6
    · subst h6
      go_wp2
      go_ret
      exact ⟨rfl, rfl⟩
    · have hb : ((6 : Int) == k) = false := by simp; omega
      go_wp2
      go_round
      case rel => exact ⟨k + 1, by omega, by omega, rfl⟩
      case measure => simp [intOf]; omega
end Go.Proofs.Ytmdpklaonniimaa
