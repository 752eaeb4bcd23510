/- Contracts of package weigh's Compare and of the document's own Compare and Same, of what is no number and of -0, over the translation. Condition: words are below 2^64. -/
import Derived.Test.YtdgdacfccdfjmaaWg
import Derived.LoopTactic
import Derived.Deep.Draws
namespace Go.Proofs.Ytdgdacfccdfjmaa
open Go.RowKit

theorem cC_one : cC 4607182418800017408 4607182418800017408 = 0 ∧ cC 4607182418800017408 13830554455654793216 = 1 ∧ cC 13830554455654793216 4607182418800017408 = -1 ∧ cC 13830554455654793216 13830554455654793216 = 0 := by decide +kernel
theorem cF_zero : cF 0 0 = 0 ∧ cF 0 9223372036854775808 = 1 ∧ cF 9223372036854775808 0 = -1 ∧ cF 9223372036854775808 9223372036854775808 = 0 := by decide +kernel
theorem isZ_two : isZ 0 = true ∧ isZ 9223372036854775808 = true := by decide +kernel

theorem cC_cF {a b : Nat} (hz : (isZ a && isZ b) = false) : cC a b = cF a b := by
  unfold cC
  cases ha : isN a <;> cases hb : isN b
  · rw [cF_num ha hb hz]; rfl
  · rw [cF_m ha hb]; rfl
  · rw [cF_n ha hb]; rfl
  · rw [cF_nn ha hb]; rfl

set_option maxHeartbeats 1000000 in
theorem wcmp_zero (a b : Nat) (w : World) (ha : a = 0 ∨ a = 9223372036854775808) (hb : b = 0 ∨ b = 9223372036854775808) : Calls Try.prog 7 #[.float .f64 a, .float .f64 b] w fun e w' => e = .returned (.int .i64 (cF a b)) ∧ w = w' := by
  obtain ⟨c1, c2, c3, c4⟩ := cC_one
  obtain ⟨f1, f2, f3, f4⟩ := cF_zero
  obtain ⟨z1, z2⟩ := isZ_two
  have o1 := order_zero
  rcases ha with rfl | rfl <;> rcases hb with rfl | rfl
  all_goals
    simp only [f1, f2, f3, f4]
    clear f1 f2 f3 f4
    go_enter Try.func7, Try.ntmps7
    go_wp2_with (first | (go_at_call 16; with_reducible refine (copysign_pos _).mono ?_; rintro e w' ⟨rfl, rfl⟩) | (go_at_call 16; with_reducible refine (copysign_neg _).mono ?_; rintro e w' ⟨rfl, rfl⟩) | (go_at_call 15; refine (cmp_any _ _ _).mono ?_; rintro e w' ⟨rfl, rfl⟩))
    go_ret
    exact ⟨rfl, rfl⟩

set_option maxHeartbeats 1000000 in
theorem wcmp_other (a b : Nat) (w : World) (hz : (isZ a && isZ b) = false) : Calls Try.prog 7 #[.float .f64 a, .float .f64 b] w fun e w' => e = .returned (.int .i64 (cF a b)) ∧ w = w' := by
  have hc := cC_cF hz
  have o1 := order_zero a
  have o2 := order_zero b
  rw [← hc]
  clear hc
  cases h1 : isZ a
  · clear o2 hz
    rw [h1] at o1
    go_enter Try.func7, Try.ntmps7
    go_wp2_with (go_at_call 15; refine (cmp_any _ _ _).mono ?_; rintro e w' ⟨rfl, rfl⟩)
    go_ret
    exact ⟨rfl, rfl⟩
  · have h2 : isZ b = false := by rw [h1] at hz; simpa using hz
    rw [h1] at o1
    rw [h2] at o2
    clear hz
    go_enter Try.func7, Try.ntmps7
    go_wp2_with (go_at_call 15; refine (cmp_any _ _ _).mono ?_; rintro e w' ⟨rfl, rfl⟩)
    go_ret
    exact ⟨rfl, rfl⟩

/-- weigh.Compare tells how two weights stand in the document's order. -/
theorem wcmp (a b : Nat) (w : World) (ha : a < 18446744073709551616) (hb : b < 18446744073709551616) : Calls Try.prog 7 #[.float .f64 a, .float .f64 b] w fun e w' => e = .returned (.int .i64 (cF a b)) ∧ w = w' := by
  cases hz : (isZ a && isZ b)
  · exact wcmp_other a b w hz
  · rw [Bool.and_eq_true] at hz
    exact wcmp_zero a b w (isZ_cases hz.1 ha) (isZ_cases hz.2 hb)

theorem quo_pos (w : World) : (binOp .quo 22 (.float .f64 4607182418800017408) (.float .f64 0)).run Try.prog w = .ok (.float .f64 9218868437227405312) w :=
  run_float_arith w .quo _ .f64 _ _ _ (by decide +kernel)
theorem quo_neg (w : World) : (binOp .quo 22 (.float .f64 4607182418800017408) (.float .f64 9223372036854775808)).run Try.prog w = .ok (.float .f64 18442240474082181120) w :=
  run_float_arith w .quo _ .f64 _ _ _ (by decide +kernel)
theorem inf_orders : FloatKind.f64.format.order 9218868437227405312 9218868437227405312 = some .eq ∧ FloatKind.f64.format.order 9218868437227405312 18442240474082181120 = some .gt ∧
    FloatKind.f64.format.order 18442240474082181120 9218868437227405312 = some .lt ∧ FloatKind.f64.format.order 18442240474082181120 18442240474082181120 = some .eq := by decide +kernel
theorem zero_orders : FloatKind.f64.format.order 0 0 = some .eq ∧ FloatKind.f64.format.order 0 9223372036854775808 = some .eq ∧
    FloatKind.f64.format.order 9223372036854775808 0 = some .eq ∧ FloatKind.f64.format.order 9223372036854775808 9223372036854775808 = some .eq := by decide +kernel

set_option maxHeartbeats 1000000 in
theorem rcmp_zero (a b : Nat) (w : World) (ha : a = 0 ∨ a = 9223372036854775808) (hb : b = 0 ∨ b = 9223372036854775808) : Calls Try.prog 8 #[.float .f64 a, .float .f64 b] w fun e w' => e = .returned (.int .i64 (cF a b)) ∧ w = w' := by
  obtain ⟨f1, f2, f3, f4⟩ := cF_zero
  obtain ⟨o1, o2, o3, o4⟩ := zero_orders
  obtain ⟨i1, i2, i3, i4⟩ := inf_orders
  have q1 := quo_pos
  have q2 := quo_neg
  rcases ha with rfl | rfl <;> rcases hb with rfl | rfl
  all_goals
    simp only [f1, f2, f3, f4]
    clear f1 f2 f3 f4
    go_enter Try.func8, Try.ntmps8
    go_wp2
    go_ret
    exact ⟨rfl, rfl⟩

set_option maxHeartbeats 1000000 in
theorem rcmp_other (a b : Nat) (w : World) (hz : (isZ a && isZ b) = false) : Calls Try.prog 8 #[.float .f64 a, .float .f64 b] w fun e w' => e = .returned (.int .i64 (cF a b)) ∧ w = w' := by
  have sa := order_self a
  have sb := order_self b
  have za := order_zero a
  cases ha : isN a <;> cases hb : isN b <;> rw [ha] at sa <;> rw [hb] at sb
  · have ea : FloatKind.f64.format.order a a = some .eq := by simpa using sa
    have eb : FloatKind.f64.format.order b b = some .eq := by simpa using sb
    have hc := cF_num ha hb hz
    rw [hc]
    clear hc sa sb
    rcases order_cases ha hb with ⟨h1, h2, h3⟩ | ⟨h1, h2, h3⟩ | ⟨h1, h2, h3⟩
    · rw [h2]
      clear h2 h3 za hz ha hb
      go_enter Try.func8, Try.ntmps8
      go_wp2
      go_ret
      exact ⟨rfl, rfl⟩
    · rw [h2]
      have hza : isZ a = false := by
        cases h : isZ a
        · rfl
        · have r1 : rung a = 0 := of_decide_eq_true h
          have r2 : sr a = 0 := (sr_zero a).2 r1
          have r3 : rung b = 0 := (sr_zero b).1 (by rw [← h3]; exact r2)
          have r4 : isZ b = true := decide_eq_true r3
          rw [h, r4] at hz
          cases hz
      rw [hza] at za
      have za' : FloatKind.f64.format.order a 0 ≠ some .eq := by simpa using za
      have za2 : (FloatKind.f64.format.order a 0 != some .eq) = true := by simpa using za'
      clear h2 h3 hza hz ha hb za za'
      go_enter Try.func8, Try.ntmps8
      go_wp2
      go_ret
      exact ⟨rfl, rfl⟩
    · rw [h2]
      clear h2 h3 za hz ha hb
      go_enter Try.func8, Try.ntmps8
      go_wp2
      go_ret
      exact ⟨rfl, rfl⟩
  · have ea : FloatKind.f64.format.order a a = some .eq := by simpa using sa
    have eb : FloatKind.f64.format.order b b = none := order_nan_left hb
    rw [cF_m ha hb]
    clear sa sb za hz ha hb
    go_enter Try.func8, Try.ntmps8
    go_wp2
    go_ret
    exact ⟨rfl, rfl⟩
  · have ea : FloatKind.f64.format.order a a = none := order_nan_left ha
    have eb : FloatKind.f64.format.order b b = some .eq := by simpa using sb
    rw [cF_n ha hb]
    clear sa sb za hz ha hb
    go_enter Try.func8, Try.ntmps8
    go_wp2
    go_ret
    exact ⟨rfl, rfl⟩
  · have ea : FloatKind.f64.format.order a a = none := order_nan_left ha
    have eb : FloatKind.f64.format.order b b = none := order_nan_left hb
    rw [cF_nn ha hb]
    clear sa sb za hz ha hb
    go_enter Try.func8, Try.ntmps8
    go_wp2
    go_ret
    exact ⟨rfl, rfl⟩

/-- The document's own Compare tells the same. -/
theorem rcmp (a b : Nat) (w : World) (ha : a < 18446744073709551616) (hb : b < 18446744073709551616) : Calls Try.prog 8 #[.float .f64 a, .float .f64 b] w fun e w' => e = .returned (.int .i64 (cF a b)) ∧ w = w' := by
  cases hz : (isZ a && isZ b)
  · exact rcmp_other a b w hz
  · rw [Bool.and_eq_true] at hz
    exact rcmp_zero a b w (isZ_cases hz.1 ha) (isZ_cases hz.2 hb)

/-- The bits of 0 / 0, as the tape tells them. -/
def nb (w : World) : Nat := (Question.nanBits .f64 0 0).cut (w.tape w.drawn (.nanBits .f64 0 0))

theorem nb_lt (w : World) : nb w < 18446744073709551616 := by
  show (w.tape w.drawn (.nanBits .f64 0 0) % 2) * 2 ^ 63 + 0x7ff0000000000000 + 1 + (w.tape w.drawn (.nanBits .f64 0 0) / 2) % (2 ^ 52 - 1) < _
  generalize w.tape w.drawn (.nanBits .f64 0 0) = t
  omega
theorem nb_nan (w : World) : isN (nb w) = true := by
  refine decide_eq_true ?_
  show INF < ((w.tape w.drawn (.nanBits .f64 0 0) % 2) * 2 ^ 63 + 0x7ff0000000000000 + 1 + (w.tape w.drawn (.nanBits .f64 0 0) / 2) % (2 ^ 52 - 1)) % S63
  generalize w.tape w.drawn (.nanBits .f64 0 0) = t
  unfold INF S63
  have h : t % 2 = 0 ∨ t % 2 = 1 := by omega
  have hm : t / 2 % (2 ^ 52 - 1) < 2 ^ 52 - 1 := Nat.mod_lt _ (by decide)
  generalize t / 2 % (2 ^ 52 - 1) = m at hm
  rcases h with h | h <;> rw [h] <;> omega

theorem quo_none (w : World) : (binOp .quo 22 (.float .f64 0) (.float .f64 0)).run Try.prog w = .ok (.float .f64 (nb w)) w.drew := by
  have h : FloatKind.f64.format.div 0 0 = none := by decide +kernel
  have hf : (Question.nanBits .f64 0 0).forced = false := rfl
  simp [binOp, Op.floatArith, h, hf]
  rfl

set_option maxHeartbeats 400000 in
/-- What is no number: some NaN, and one draw. -/
theorem none_any (w : World) : Calls Try.prog 9 #[] w fun e w' => e = .returned (.float .f64 (nb w)) ∧ w.drew = w' := by
  have h := quo_none
  go_enter Try.func9, Try.ntmps9
  go_wp2
  go_ret
  exact ⟨rfl, rfl⟩

set_option maxHeartbeats 400000 in
theorem minus_any (w : World) : Calls Try.prog 14 #[] w fun e w' => e = .returned (.float .f64 9223372036854775808) ∧ w = w' := by
  have h : ∀ w : World, (Op.unary .neg (.float .f64 0)).run Try.prog w = .ok (.float .f64 9223372036854775808) w := fun w => by kernel_rfl
  go_enter Try.func14, Try.ntmps14
  go_wp2
  go_ret
  exact ⟨rfl, rfl⟩

end Go.Proofs.Ytdgdacfccdfjmaa
