/- Slices of bytes: what a slice reads as, string(b), bytes.Compare, key.Compare, the document's own Less and Same. Condition: what came in can be read. -/
import Derived.Test.YtpicdokkdpbpdaaRows
import Derived.WalkKit
import Derived.WalkSpells
import Derived.WalkLawsBesides
import Derived.Below
import Derived.Deep.OwnRows
import Derived.Deep.QuietTactic
import Derived.BigQuiet
import Derived.Laws.IdiomStrings
import Derived.Laws.BytesArg
import Derived.Lib.Bytealg
import Derived.Lib.BytesEntry
import Derived.Lib.Hide
namespace Go.Proofs.Ytpicdokkdpbpdaa
open Go.RowKit
set_option linter.unusedVariables false

/-- A slice of bytes that reads as the list l; nil, or an empty one, reads as nothing. -/
def Byt (w : World) (A : Option Addr) (n : Nat) (l : List UInt8) : Prop :=
  l.length = n ∧ (0 < n → ∃ a : Addr, A = some a ∧ a.block < w.heap.size ∧ ∀ j (h : j < l.length), w.cell? (a.add j) = some (.int .u8 (l[j].toNat : Int)))

theorem add_block (a : Addr) (n : Nat) : (a.add n).block = a.block := by unfold Addr.add; split <;> rfl

theorem Byt.keep {w w' : World} {A : Option Addr} {n : Nat} {l : List UInt8} (h : Byt w A n l) (hs : w.heap.size ≤ w'.heap.size) (hc : ∀ p : Addr, p.block < w.heap.size → w'.cell? p = w.cell? p) : Byt w' A n l :=
  ⟨h.1, fun h0 => by
    obtain ⟨a, e, hb, hj⟩ := h.2 h0
    exact ⟨a, e, by omega, fun j hl => (hc _ (by rw [add_block]; exact hb)).trans (hj j hl)⟩⟩
theorem Byt.below {w w' : World} {A : Option Addr} {n : Nat} {l : List UInt8} (h : Byt w A n l) (hb : Below w.heap.size w w') : Byt w' A n l := h.keep hb.size fun _ hp => hb.cell hp
theorem Byt.alloc {w : World} {A : Option Addr} {n : Nat} {l : List UInt8} (h : Byt w A n l) (o : Obj) : Byt (w.alloc o) A n l :=
  h.below ((Below.refl _ _).alloc (Nat.le_refl _) _)
theorem Byt.drewN {w : World} {A : Option Addr} {n : Nat} {l : List UInt8} (h : Byt w A n l) (k : Nat) : Byt (w.drewN k) A n l := h

theorem Byt.at_ {w : World} {A : Option Addr} {n k : Nat} {l : List UInt8} (h : Byt w A n l) (hk : k < n) :
    ∃ (a : Addr) (u : UInt8) (x : Int), A = some a ∧ l.drop k = u :: l.drop (k + 1) ∧ x = u.toNat ∧ w.cell? (a.add k) = some (.int .u8 x) := by
  obtain ⟨a, e, _, hj⟩ := h.2 (by omega)
  have hl : k < l.length := by have := h.1; omega
  exact ⟨a, l[k], _, e, List.drop_eq_getElem_cons hl, rfl, hj k hl⟩

/-- string(b). -/
theorem run_str {w : World} {A : Option Addr} {n c : Nat} {l : List UInt8} (h : Byt w A n l) : (convert 23 9 (.slice A n c)).run Try.prog w = .ok (.string ⟨l.toArray⟩) w := by
  obtain ⟨rfl, h⟩ := h
  rcases A with _ | a
  · have h0 : l.length = 0 := by
      rcases Nat.eq_zero_or_pos l.length with h0 | h0
      · exact h0
      · obtain ⟨a, e, _⟩ := h h0
        cases e
    rw [List.length_eq_zero_iff] at h0
    subst h0
    exact run_convert_bytes_nil w _ _ Try.underlying23 Try.underlying5 _ _ _ Try.underlying9
  · refine run_convert_bytes_back w _ _ _ a c l Try.underlying23 Try.underlying5 Try.underlying9 fun j hj => ?_
    obtain ⟨a', e, _, hc⟩ := h (by omega)
    injection e with e
    subst e
    exact hc j hj

theorem back (l : List UInt8) : Lib.bytesOf (l.map fun u => (u.toNat : Int)) = l := by
  simp [Lib.bytesOf, Function.comp_def]

theorem run_bytes {P : Program} {w : World} {A : Option Addr} {n c : Nat} {l : List UInt8} (h : Byt w A n l) : (Extern.Bytes.bytesOf (.slice A n c)).run P w = .ok ⟨l.toArray⟩ w := by
  obtain ⟨rfl, h⟩ := h
  rcases A with _ | a
  · have h0 : l.length = 0 := by
      rcases Nat.eq_zero_or_pos l.length with h0 | h0
      · exact h0
      · obtain ⟨a, e, _⟩ := h h0
        cases e
    rw [List.length_eq_zero_iff] at h0
    subst h0
    rfl
  · have hc : ∀ j (h : j < l.length), w.cell? (a.add j) = some (.int .u8 (l[j].toNat : Int)) := fun j hj => by
      obtain ⟨a', e, _, hc⟩ := h (by omega)
      injection e with e
      subst e
      exact hc j hj
    have := Lib.run_loadBytesX (P := P) w (l.map fun u => (u.toNat : Int)) a .empty (fun j x hj => by
      obtain ⟨h1, h2⟩ := List.getElem?_eq_some_iff.1 hj
      simp at h1 h2
      subst h2
      exact hc j h1)
    rw [List.length_map, back] at this
    have he : (⟨ByteArray.empty.data ++ l.toArray⟩ : ByteArray) = ⟨l.toArray⟩ := by
      apply ByteArray.ext
      show (#[] : Array UInt8) ++ l.toArray = l.toArray
      simp
    rw [he] at this
    exact this

/-- How two stand to each other. -/
def cmpB (l k : List UInt8) : Int := Lib.compareBytes l k
theorem cmpB_three (l k : List UInt8) : cmpB l k = -1 ∨ cmpB l k = 0 ∨ cmpB l k = 1 := by
  unfold cmpB
  induction l generalizing k with
  | nil => cases k <;> simp [Lib.compareBytes]
  | cons x l ih =>
    cases k with
    | nil => simp [Lib.compareBytes]
    | cons y k =>
      unfold Lib.compareBytes
      split
      · exact .inl rfl
      · split
        · exact .inr (.inr rfl)
        · exact ih k
theorem cmpB_eq (l k : List UInt8) : cmpB l k = 0 ↔ l = k := by
  unfold cmpB
  induction l generalizing k with
  | nil => cases k <;> simp [Lib.compareBytes]
  | cons x l ih =>
    cases k with
    | nil => simp [Lib.compareBytes]
    | cons y k =>
      unfold Lib.compareBytes
      by_cases h1 : x < y
      · have : x ≠ y := UInt8.ne_of_lt h1
        simp [h1, this]
      · by_cases h2 : y < x
        · have : x ≠ y := (UInt8.ne_of_lt h2).symm
          simp [h1, h2, this]
        · have e : x = y := UInt8.le_antisymm (UInt8.not_lt.1 h2) (UInt8.not_lt.1 h1)
          simp [ih, e]
theorem cmpB_swap (l k : List UInt8) : cmpB k l = - cmpB l k := by
  unfold cmpB
  induction l generalizing k with
  | nil => cases k <;> simp [Lib.compareBytes]
  | cons x l ih =>
    cases k with
    | nil => simp [Lib.compareBytes]
    | cons y k =>
      unfold Lib.compareBytes
      by_cases h1 : x < y
      · have : ¬ y < x := fun h => UInt8.lt_asymm h h1
        simp [h1, this]
      · by_cases h2 : y < x
        · simp [h1, h2]
        · simp [h1, h2, ih]

/-- Does one stand ahead of another? -/
def ltB (l k : List UInt8) : Bool := cmpB l k == -1

theorem run_cmp {w : World} {A B : Option Addr} {n m c d : Nat} {l k : List UInt8} (h : Byt w A n l) (h' : Byt w B m k) :
    (callFunc 30 #[.slice A n c, .slice B m d]).run Try.prog w = .ok (.value (.int .i64 (cmpB l k))) w := by
  rw [run_callFunc_extern Try.func30 (by kernel_rfl) (by kernel_rfl) (by kernel_rfl) (e := Extern.BytealgCompare.compare) (by kernel_rfl)]
  have e : (Extern.BytealgCompare.compare #[.slice A n c, .slice B m d]).run Try.prog w = .ok (.int .i64 (cmpB l k)) w := by
    change Sem.run Try.prog (do pure (goInt (Extern.BytealgCompare.cmp (← Extern.Bytes.bytesOf (.slice A n c)) (← Extern.Bytes.bytesOf (.slice B m d))))) w = _
    simp only [Sem.run_bind, Sem.run_pure, run_bytes h, run_bytes h', Result.andThen]
    rw [Lib.cmp_eq]
    rfl
  rw [e]
  rfl

set_option maxHeartbeats 400000 in
theorem bcompare_any {w : World} {A B : Option Addr} {n m : Nat} (c d : Nat) {l k : List UInt8} (h : Byt w A n l) (h' : Byt w B m k) :
    Calls Try.prog 27 #[.slice A n c, .slice B m d] w fun e w' => e = .returned (.int .i64 (cmpB l k)) ∧ w = w' := by
  have h1 := run_cmp (c := c) (d := d) h h'
  clear h h'
  go_enter Try.func27, Try.ntmps27
  go_wp2
  go_ret
  exact ⟨rfl, rfl⟩

set_option maxHeartbeats 400000 in
theorem compare_any {w : World} {A B : Option Addr} {n m : Nat} (c d : Nat) {l k : List UInt8} (h : Byt w A n l) (h' : Byt w B m k) :
    Calls Try.prog 19 #[.slice A n c, .slice B m d] w fun e w' => e = .returned (.int .i64 (cmpB l k)) ∧ w = w' := by
  have h1 := Lib.hid (bcompare_any c d h h')
  clear h h'
  go_enter Try.func19, Try.ntmps19
  go_wp2_with (go_at_call 27; refine h1.out.mono ?_; rintro e w' ⟨rfl, rfl⟩)
  go_ret
  exact ⟨rfl, rfl⟩

theorem ret_bool {a b : Bool} (h : a = b) : Ending.returned (.bool a) = .returned (.bool b) := by rw [h]

/-- Are they the same? -/
def sameB (l k : List UInt8) : Bool := decide (l = k)

theorem str_eq (l k : List UInt8) : (l == k) = sameB l k := by
  unfold sameB
  by_cases h : l = k
  · simp [h]
  · simp [h]

set_option maxHeartbeats 400000 in
theorem same_any {w : World} {A B : Option Addr} {n m : Nat} (c d : Nat) {l k : List UInt8} (h : Byt w A n l) (h' : Byt w B m k) :
    Calls Try.prog 23 #[.slice A n c, .slice B m d] w fun e w' => e = .returned (.bool (sameB l k)) ∧ w = w' := by
  have h1 := run_str (c := c) h
  have h2 := run_str (c := d) h'
  clear h h'
  go_enter Try.func23, Try.ntmps23
  go_wp2
  go_ret
  exact ⟨ret_bool (str_eq l k), rfl⟩

theorem step_lt {l k : List UInt8} {u v : UInt8} {i : Nat} (h1 : l.drop i = u :: l.drop (i + 1)) (h2 : k.drop i = v :: k.drop (i + 1)) (h : (u.toNat : Int) < v.toNat) (e : cmpB l k = cmpB (l.drop i) (k.drop i)) : ltB l k = true := by
  unfold ltB
  rw [e, h1, h2]
  unfold cmpB Lib.compareBytes
  have : u < v := UInt8.lt_iff_toNat_lt.2 (by omega)
  simp [this]
theorem step_gt {l k : List UInt8} {u v : UInt8} {i : Nat} (h1 : l.drop i = u :: l.drop (i + 1)) (h2 : k.drop i = v :: k.drop (i + 1)) (h : (v.toNat : Int) < u.toNat) (e : cmpB l k = cmpB (l.drop i) (k.drop i)) : ltB l k = false := by
  unfold ltB
  rw [e, h1, h2]
  unfold cmpB Lib.compareBytes
  have : v < u := UInt8.lt_iff_toNat_lt.2 (by omega)
  have h' : ¬ u < v := fun h => UInt8.lt_asymm h this
  simp [this, h']
theorem step_eq {l k : List UInt8} {u v : UInt8} {i : Nat} (h1 : l.drop i = u :: l.drop (i + 1)) (h2 : k.drop i = v :: k.drop (i + 1)) (h : (v.toNat : Int) = u.toNat) (e : cmpB l k = cmpB (l.drop i) (k.drop i)) : cmpB l k = cmpB (l.drop (i + 1)) (k.drop (i + 1)) := by
  rw [e, h1, h2]
  have e : u = v := UInt8.toNat_inj.1 (by omega)
  subst e
  have : ¬ u < u := UInt8.lt_irrefl u
  show Lib.compareBytes _ _ = Lib.compareBytes _ _
  rw [Lib.compareBytes.eq_4]
  simp [this]
theorem step_end {l k : List UInt8} {i : Nat} (h1 : i ≤ l.length) (h2 : i ≤ k.length) (h : ¬ (i < l.length ∧ i < k.length)) (e : cmpB l k = cmpB (l.drop i) (k.drop i)) : ltB l k = decide (l.length < k.length) := by
  unfold ltB
  rw [e]
  by_cases hl : i < l.length
  · have hk : i = k.length := by omega
    subst hk
    rw [List.drop_eq_getElem_cons hl, List.drop_length]
    simp [cmpB, Lib.compareBytes]
    omega
  · have hl : i = l.length := by omega
    subst hl
    rw [List.drop_length]
    by_cases hk : l.length < k.length
    · rw [List.drop_eq_getElem_cons hk]
      simp [cmpB, Lib.compareBytes, hk]
    · rw [List.drop_eq_nil_of_le (by omega)]
      simp [cmpB, Lib.compareBytes, hk]

/-- Only draws have been made. -/
def Drawn (w w' : World) : Prop := ∃ d, w' = w.drewN d
theorem Drawn.byt {w w' : World} {A : Option Addr} {n : Nat} {l : List UInt8} (h : Drawn w w') (hb : Byt w A n l) : Byt w' A n l := by
  obtain ⟨d, rfl⟩ := h
  exact hb
theorem Drawn.more {w w' : World} (h : Drawn w w') (d : Nat) : Drawn w (w'.drewN d) := by
  obtain ⟨k, rfl⟩ := h
  exact ⟨k + d, World.drewN_drewN _ _ _⟩

set_option maxHeartbeats 1000000 in
theorem less_any {w : World} {A B : Option Addr} {n m : Nat} (c d : Nat) {l k : List UInt8} (h : Byt w A n l) (h' : Byt w B m k) (hn : n ≤ maxLen) (hm : m ≤ maxLen) :
    Calls Try.prog 20 #[.slice A n c, .slice B m d] w fun e w' => e = .returned (.bool (ltB l k)) ∧ Drawn w w' := by
  unfold maxLen at hn hm
  have H := Lib.hid h
  have H' := Lib.hid h'
  clear h h'
  go_enter Try.func20, Try.ntmps20
  go_wp2
  go_loopw [5] (fun i wr => ∃ j : Nat, j ≤ n ∧ j ≤ m ∧ i = .int .i64 j ∧ cmpB l k = cmpB (l.drop j) (k.drop j) ∧ Drawn w wr) (fun i _ => n - (intOf i).toNat)
  case atStart => exact ⟨0, Nat.zero_le _, Nat.zero_le _, rfl, rfl, 0, rfl⟩
  case round =>
    obtain ⟨j, hj1, hj2, rfl, hc, hd⟩ := hrel
    have HC := Lib.hid hc
    clear hc
    by_cases hlt : j < n ∧ j < m
    · obtain ⟨hl1, hl2⟩ := hlt
      obtain ⟨a, u, x, rfl, e1, ex, c1⟩ := (hd.byt H.out).at_ hl1
      obtain ⟨b, v, y, rfl, e2, ey, c2⟩ := (hd.byt H'.out).at_ hl2
      have E1 := Lib.hid e1
      have E2 := Lib.hid e2
      have EX := Lib.hid ex
      have EY := Lib.hid ey
      clear e1 e2 ex ey H H'
      rcases Int.lt_trichotomy x y with hxy | hxy | hxy
      · have hne : (x != y) = true := by simp; omega
        go_wp2
        go_quiet (fail)
        go_wp2
        go_quiet (fail)
        go_wp2
        go_ret
        exact ⟨ret_bool (step_lt E1.out E2.out (by rw [← EX.out, ← EY.out]; exact hxy) HC.out).symm, (hd.more _).more _⟩
      · have HXY := Lib.hid hxy
        have hne : (x != y) = false := by simp [hxy]
        clear hxy
        go_wp2
        go_quiet (fail)
        go_wp2
        go_roundw
        case rel => exact ⟨j + 1, by omega, by omega, by go_num, step_eq E1.out E2.out (by rw [← EX.out, ← EY.out]; exact HXY.out.symm) HC.out, hd.more _⟩
        case measure => simp [intOf]; omega
      · have hne : (x != y) = true := by simp; omega
        have hnl : decide (x < y) = false := by simp; omega
        go_wp2
        go_quiet (fail)
        go_wp2
        go_quiet (fail)
        go_wp2
        go_ret
        exact ⟨ret_bool (step_gt E1.out E2.out (by rw [← EX.out, ← EY.out]; exact hxy) HC.out).symm, (hd.more _).more _⟩
    · have hr : ltB l k = decide (n < m) := by
        have h1 := H.out.1
        have h2 := H'.out.1
        rw [step_end (by omega) (by omega) (by omega) HC.out, h1, h2]
      have HR := Lib.hid hr
      clear hr
      by_cases hl1 : j < n
      · have hl2 : decide (j < m) = false := by simp; omega
        go_wp2
        go_ret
        exact ⟨ret_bool (by rw [HR.out]), hd⟩
      · go_wp2
        go_ret
        exact ⟨ret_bool (by rw [HR.out]), hd⟩
end Go.Proofs.Ytpicdokkdpbpdaa
