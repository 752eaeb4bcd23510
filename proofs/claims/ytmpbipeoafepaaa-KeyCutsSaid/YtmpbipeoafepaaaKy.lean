/- Contracts of package key's May, Sound, In, below, follows, and of the document's own May, Sound, In, Ranges: each tells one function of the bytes. Condition: what came in can be read. -/
import Derived.Test.YtmpbipeoafepaaaKb
namespace Go.Proofs.Ytmpbipeoafepaaa
open Go.RowKit
set_option linter.unusedVariables false

def mayB (x : List UInt8) : Bool := decide (1 ≤ x.length) && decide (x.length ≤ 16)
def belowB (x k : List UInt8) : Bool := decide (k.length = 0) || ltB x k
def soundB (l k : List UInt8) : Bool := decide (l.length ≤ 16) && (decide (k.length ≤ 16) && belowB l k)
def inB (l k x : List UInt8) : Bool := !ltB x l && belowB x k
def followsB (k l : List UInt8) : Bool := decide (0 < k.length) && sameB k l

theorem cmp_lt (l k : List UInt8) : decide (cmpB l k < 0) = ltB l k := by
  unfold ltB
  rcases cmpB_three l k with h | h | h <;> rw [h] <;> rfl
theorem cmp_ge (l k : List UInt8) : decide (0 ≤ cmpB l k) = !ltB l k := by
  unfold ltB
  rcases cmpB_three l k with h | h | h <;> rw [h] <;> rfl
theorem cmp_zero (l k : List UInt8) : (cmpB l k == 0) = sameB l k := by
  unfold sameB
  by_cases h : l = k
  · simp [h]
    exact (cmpB_eq k k).2 rfl
  · have : cmpB l k ≠ 0 := fun e => h ((cmpB_eq l k).1 e)
    simp [h, this]
theorem ltB_self (l : List UInt8) : ltB l l = false := by
  unfold ltB
  rw [(cmpB_eq l l).2 rfl]
  rfl

set_option maxHeartbeats 400000 in
theorem may_any {w : World} {A : Option Addr} {n : Nat} (c : Nat) {x : List UInt8} (h : Byt w A n x) (hn : n ≤ maxLen) :
    Calls Try.prog 13 #[.slice A n c] w fun e w' => e = .returned (.bool (mayB x)) ∧ w = w' := by
  unfold maxLen at hn
  have hr : mayB x = (decide (1 ≤ n) && decide (n ≤ 16)) := by rw [← h.1]; rfl
  have HR := Lib.hid hr
  clear hr h
  by_cases h1 : 1 ≤ n <;> by_cases h2 : n ≤ 16
  all_goals first | (exfalso; omega) | skip
  all_goals
    go_enter Try.func13, Try.ntmps13
    go_wp2
    go_ret
    refine ⟨ret_bool ?_, rfl⟩
    rw [HR.out]
    first | rfl | (rw [Bool.eq_iff_iff]; simp; omega)

set_option maxHeartbeats 400000 in
theorem rmay_any {w : World} {A : Option Addr} {n : Nat} (c : Nat) {x : List UInt8} (h : Byt w A n x) (hn : n ≤ maxLen) :
    Calls Try.prog 6 #[.slice A n c] w fun e w' => e = .returned (.bool (mayB x)) ∧ w = w' := by
  unfold maxLen at hn
  have hr : mayB x = (decide (1 ≤ n) && decide (n ≤ 16)) := by rw [← h.1]; rfl
  have HR := Lib.hid hr
  clear hr h
  by_cases h1 : 0 < n <;> by_cases h2 : n ≤ 16
  all_goals first | (exfalso; omega) | skip
  all_goals
    go_enter Try.func6, Try.ntmps6
    go_wp2
    go_ret
    refine ⟨ret_bool ?_, rfl⟩
    rw [HR.out]
    first | rfl | (rw [Bool.eq_iff_iff]; simp; omega)

set_option maxHeartbeats 400000 in
theorem below_any {w : World} {A B : Option Addr} {n m : Nat} (c d : Nat) {x k : List UInt8} (h : Byt w A n x) (h' : Byt w B m k) :
    Calls Try.prog 21 #[.slice A n c, .slice B m d] w fun e w' => e = .returned (.bool (belowB x k)) ∧ w = w' := by
  have H := Lib.hid (compare_any c d h h')
  have hr : belowB x k = (decide (m = 0) || ltB x k) := by rw [← h'.1]; rfl
  have HR := Lib.hid hr
  clear hr h h'
  by_cases h0 : m = 0
  · subst h0
    go_enter Try.func21, Try.ntmps21
    go_wp2
    go_ret
    exact ⟨ret_bool (by rw [HR.out]; simp), rfl⟩
  · have hb : ((m : Int) == 0) = false := by simp; omega
    have H0 := Lib.hid h0
    clear h0
    go_enter Try.func21, Try.ntmps21
    go_wp2_with (go_at_call 18; refine H.out.mono ?_; rintro e w' ⟨rfl, rfl⟩)
    go_ret
    exact ⟨ret_bool (by rw [HR.out, cmp_lt]; simp [H0.out]), rfl⟩

set_option maxHeartbeats 400000 in
theorem sound_any {w : World} {A B : Option Addr} {n m : Nat} (c d : Nat) {l k : List UInt8} (h : Byt w A n l) (h' : Byt w B m k) (hn : n ≤ maxLen) (hm : m ≤ maxLen) :
    Calls Try.prog 16 #[.agg #[.slice A n c, .slice B m d]] w fun e w' => e = .returned (.bool (soundB l k)) ∧ Below w.heap.size w w' := by
  unfold maxLen at hn hm
  have H := Lib.hid (fun o => below_any c d (h.alloc o) (h'.alloc o))
  have hr : soundB l k = (decide (n ≤ 16) && (decide (m ≤ 16) && belowB l k)) := by rw [← h.1, ← h'.1]; rfl
  have HR := Lib.hid hr
  clear hr h h'
  by_cases h1 : 16 < n
  · go_enter Try.func16, Try.ntmps16
    go_wp2
    go_ret
    exact ⟨ret_bool (by rw [HR.out]; simp; omega), (Below.refl _ _).alloc (Nat.le_refl _) _⟩
  · by_cases h2 : 16 < m
    · go_enter Try.func16, Try.ntmps16
      go_wp2
      go_ret
      exact ⟨ret_bool (by rw [HR.out]; simp; omega), (Below.refl _ _).alloc (Nat.le_refl _) _⟩
    · have h3 : n ≤ 16 := by omega
      have h4 : m ≤ 16 := by omega
      clear h1 h2
      go_enter Try.func16, Try.ntmps16
      go_wp2_with (go_at_call 21; refine (H.out _).mono ?_; rintro e w' ⟨rfl, rfl⟩)
      go_ret
      exact ⟨ret_bool (by rw [HR.out]; simp [h3, h4]), (Below.refl _ _).alloc (Nat.le_refl _) _⟩

set_option maxHeartbeats 400000 in
theorem in_any {w : World} {A B C : Option Addr} {n m o : Nat} (c d q : Nat) {l k x : List UInt8} (h : Byt w A n l) (h' : Byt w B m k) (hx : Byt w C o x) :
    Calls Try.prog 17 #[.agg #[.slice A n c, .slice B m d], .slice C o q] w fun e w' => e = .returned (.bool (inB l k x)) ∧ Below w.heap.size w w' := by
  have H1 := Lib.hid (fun o => compare_any q c (hx.alloc o) (h.alloc o))
  have H2 := Lib.hid (fun o => below_any q d (hx.alloc o) (h'.alloc o))
  clear h h' hx
  cases hl : ltB x l
  · have hg := cmp_ge x l
    rw [hl] at hg
    have HL := Lib.hid hl
    clear hl
    simp only [Bool.not_false] at hg
    go_enter Try.func17, Try.ntmps17
    go_wp2_with (first | (go_at_call 18; refine (H1.out _).mono ?_; rintro e w' ⟨rfl, rfl⟩) | (go_at_call 21; refine (H2.out _).mono ?_; rintro e w' ⟨rfl, rfl⟩))
    go_ret
    exact ⟨ret_bool (by unfold inB; rw [HL.out]; simp), (Below.refl _ _).alloc (Nat.le_refl _) _⟩
  · have hg := cmp_ge x l
    rw [hl] at hg
    have HL := Lib.hid hl
    clear hl
    simp only [Bool.not_true] at hg
    go_enter Try.func17, Try.ntmps17
    go_wp2_with (first | (go_at_call 18; refine (H1.out _).mono ?_; rintro e w' ⟨rfl, rfl⟩) | (go_at_call 21; refine (H2.out _).mono ?_; rintro e w' ⟨rfl, rfl⟩))
    go_ret
    exact ⟨ret_bool (by unfold inB; rw [HL.out]; simp), (Below.refl _ _).alloc (Nat.le_refl _) _⟩

set_option maxHeartbeats 400000 in
theorem follows_any {w : World} {A B C D : Option Addr} {n m o p : Nat} (c d q s : Nat) {l k l' k' : List UInt8} (h1 : Byt w A n l) (h2 : Byt w B m k) (h3 : Byt w C o l') (h4 : Byt w D p k') (hm : m ≤ maxLen) :
    Calls Try.prog 20 #[.agg #[.slice A n c, .slice B m d], .agg #[.slice C o q, .slice D p s]] w fun e w' => e = .returned (.bool (followsB k l')) ∧ Below w.heap.size w w' := by
  unfold maxLen at hm
  have H1 := Lib.hid (fun o o' => compare_any d q ((h2.alloc o).alloc o') ((h3.alloc o).alloc o'))
  have hr : followsB k l' = (decide (0 < m) && sameB k l') := by rw [← h2.1]; rfl
  have HR := Lib.hid hr
  clear hr h1 h2 h3 h4
  by_cases h0 : 0 < m
  all_goals
    go_enter Try.func20, Try.ntmps20
    go_wp2_with (go_at_call 18; refine (H1.out _ _).mono ?_; rintro e w' ⟨rfl, rfl⟩)
    go_ret
    exact ⟨ret_bool (by rw [HR.out]; try rw [cmp_zero]
                        simp [h0]), ((Below.refl _ _).alloc (Nat.le_refl _) _).alloc (by simp) _⟩

theorem Drawn.below {w w' : World} (h : Drawn w w') (B : Nat) : Below B w w' := by
  obtain ⟨d, rfl⟩ := h
  exact ⟨rfl, rfl, rfl, Nat.le_refl _, fun _ _ => rfl⟩

set_option maxHeartbeats 400000 in
theorem rsound_any {w : World} {A B : Option Addr} {n m : Nat} (c d : Nat) {l k : List UInt8} (h : Byt w A n l) (h' : Byt w B m k) (hn : n ≤ maxLen) (hm : m ≤ maxLen) :
    Calls Try.prog 5 #[.agg #[.slice A n c, .slice B m d]] w fun e w' => e = .returned (.bool (soundB l k)) ∧ Below w.heap.size w w' := by
  have H := Lib.hid (fun o => less_any c d (h.alloc o) (h'.alloc o) hn hm)
  unfold maxLen at hn hm
  have hr : soundB l k = (decide (n ≤ 16) && (decide (m ≤ 16) && (decide (m = 0) || ltB l k))) := by rw [← h.1, ← h'.1]; rfl
  have HR := Lib.hid hr
  clear hr h h'
  have h0 : m = 0 ∨ (((m : Int) == 0) = false ∧ 0 < m) := by
    by_cases h : m = 0
    · exact .inl h
    · exact .inr ⟨by simp; omega, by omega⟩
  by_cases h1 : n ≤ 16 <;> by_cases h2 : m ≤ 16 <;> rcases h0 with rfl | ⟨h0, h00⟩
  all_goals first | (exfalso; omega) | skip
  all_goals
    go_enter Try.func5, Try.ntmps5
    go_wp2_with (go_at_call 15; refine (H.out _).mono ?_; rintro e w' ⟨rfl, dd, rfl⟩)
    go_ret
    refine ⟨ret_bool ?_, ((Below.refl _ _).alloc (Nat.le_refl _) _).trans (Drawn.below ⟨dd, rfl⟩ _)⟩
    rw [HR.out]
    first | (simp [h1, h2]; done) | (simp [h1, h2]; omega)

set_option maxHeartbeats 400000 in
theorem rin_any {w : World} {A B C : Option Addr} {n m o : Nat} (c d q : Nat) {l k x : List UInt8} (h : Byt w A n l) (h' : Byt w B m k) (hx : Byt w C o x) (hn : n ≤ maxLen) (hm : m ≤ maxLen) (ho : o ≤ maxLen) :
    Calls Try.prog 7 #[.agg #[.slice A n c, .slice B m d], .slice C o q] w fun e w' => e = .returned (.bool (inB l k x)) ∧ Below w.heap.size w w' := by
  have H1 := Lib.hid (fun o => less_any q c (hx.alloc o) (h.alloc o) ho hn)
  have H2 := Lib.hid (fun o k => less_any q d ((hx.alloc o).drewN k) ((h'.alloc o).drewN k) ho hm)
  unfold maxLen at hn hm ho
  have hr : inB l k x = (!ltB x l && (decide (m = 0) || ltB x k)) := by rw [← h'.1]; rfl
  have HR := Lib.hid hr
  clear hr h h' hx
  have h0 : m = 0 ∨ (((m : Int) == 0) = false ∧ 0 < m) := by
    by_cases h : m = 0
    · exact .inl h
    · exact .inr ⟨by simp; omega, by omega⟩
  cases hl : ltB x l <;> rcases h0 with rfl | ⟨h0, h00⟩
  all_goals
    rw [hl] at HR H1
    clear hl
    go_enter Try.func7, Try.ntmps7
    go_wp2_with fail
    refine (H1.out _).mono ?_
    rintro e w' ⟨rfl, dd, rfl⟩
    go_wp2_with (go_at_call 15; refine (H2.out _ _).mono ?_; rintro e w' ⟨rfl, ee, rfl⟩)
    go_ret
    refine ⟨ret_bool ?_, ((Below.refl _ _).alloc (Nat.le_refl _) _).trans (Drawn.below ⟨dd + ee, rfl⟩ _)⟩
    rw [HR.out]
    first | (simp; done) | (simp; omega)

set_option maxHeartbeats 400000 in
theorem ranges_any {w : World} {A B C D : Option Addr} {n m o p : Nat} (c d q s : Nat) {l k l' k' : List UInt8} (h1 : Byt w A n l) (h2 : Byt w B m k) (h3 : Byt w C o l') (h4 : Byt w D p k') :
    Calls Try.prog 11 #[.agg #[.slice A n c, .slice B m d], .agg #[.slice C o q, .slice D p s]] w fun e w' => e = .returned (.bool (sameB l l' && sameB k k')) ∧ Below w.heap.size w w' := by
  have H1 := Lib.hid (fun o o' => same_any c q ((h1.alloc o).alloc o') ((h3.alloc o).alloc o'))
  have H2 := Lib.hid (fun o o' => same_any d s ((h2.alloc o).alloc o') ((h4.alloc o).alloc o'))
  clear h1 h2 h3 h4
  cases hl : sameB l l'
  all_goals
    rw [hl] at H1
    clear hl
    go_enter Try.func11, Try.ntmps11
    go_wp2_with fail
    refine (H1.out _ _).mono ?_
    rintro e w' ⟨rfl, rfl⟩
    go_wp2_with (go_at_call 8; refine (H2.out _ _).mono ?_; rintro e w' ⟨rfl, rfl⟩)
    go_ret
    exact ⟨ret_bool (by simp), ((Below.refl _ _).alloc (Nat.le_refl _) _).alloc (by simp) _⟩
end Go.Proofs.Ytmpbipeoafepaaa
