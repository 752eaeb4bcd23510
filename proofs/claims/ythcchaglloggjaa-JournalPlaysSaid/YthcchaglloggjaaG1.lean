/- Errors as numbers: '==' of two errors, the law's Code. No condition but that a number is one of api's. Slices of bytes: what a slice reads as, string(b), bytes.Compare, key.Compare, the document's own Less and Same. Condition: what came in can be read. Rows as lists of pairs of byte lists: places, deleting, putting, and that they stay rows. Plain; no condition. A slice of pairs that reads as a list; contracts of key.May, key.Fair, row.may and the document's own May. Condition: what came in can be read. Contracts of row.Find (with slices.BinarySearchFunc and its closure) and of the document's own Find: the key's place in a row, and whether it is there; nothing that was there is changed. Condition: a row (keys rise), no longer than 1000 pairs. Contracts of what only reads pairs: the document's own Few, Is, Find and Pairs, and row.Is. Condition: what came in can be read (Find, Is: keys of at most 1000 bytes; Find: a row). Contracts of the document's own Is and of row.Is: whether pairs are a row. Condition: what came in can be read (the document's own: keys of at most 1000 bytes). Contracts of row.Is (whether pairs are a row) and of the document's own Pairs (where both read the same: true). Condition: what came in can be read. Rows of pairs of one's own, and the contract of the document's own Delete. Condition: what came in can be read; no more than 1000 pairs. Contracts of the document's own Put and Row. Condition: what came in can be read; no more than 1000 pairs; keys of at most 1000 bytes. Contracts of bytes.Clone, of slices.Grow of nothing, and of slices.Concat of pairs: new memory; nothing that was there is changed. Condition: what came in can be read; no more than 3000 pairs, slices of at most 1000 bytes. The contract of slices.Concat of pairs: a row of its own, in new memory; nothing that was there is changed. Condition: what came in can be read; no more than 3 pieces, no more than 3000 pairs. The contract of package row's told: pairs as new memory; nothing that was there is changed. Condition: what came in can be read; no more than 3 pieces, no more than 3000 pairs, keys and values of at most 1000 bytes. Contracts of package row's Put and Delete. Condition: what came in can be read; a row of no more than 1000 pairs; keys and values of at most 1000 bytes. The contracts of package row's Put: what may not be is an error; else the row with the pair. Condition: what came in can be read; a row of no more than 1000 pairs; keys and values of at most 1000 bytes. -/
import Derived.Test.YthcchaglloggjaaRows
import Derived.WalkKit
import Derived.WalkSpells
import Derived.WalkLawsBesides
import Derived.Deep.OwnRows
import Derived.LaidEql
import Derived.Lib.Hide
import Derived.Below
import Derived.Deep.QuietTactic
import Derived.BigQuiet
import Derived.Laws.IdiomStrings
import Derived.Laws.BytesArg
import Derived.Lib.Bytealg
import Derived.Lib.BytesEntry
import Derived.Laws.AppendOwn
import Derived.Laws.AppendOwnNone
import Derived.OwnWalk
import Derived.StillTailTactics
import Derived.Lib.AppendZeros
import Derived.Deep.RegionHeld3
import Derived.IntWalk
namespace Go.Proofs.Ythcchaglloggjaa
open Go.RowKit

theorem Try.infoErr : (Try.prog.info? 62).map (fun i => i.comparable) = some true := by kernel_rfl

theorem errs_alike (depth : Nat) (a b : Int) (w : World) : (Op.equalIn (depth + 2) 36 (.iface 62 (.int .i64 a)) (.iface 62 (.int .i64 b))).run Try.prog w = .ok (a == b) w := by
  obtain ⟨i, hi, hc⟩ := Option.map_eq_some_iff.1 Try.infoErr
  have u26 := run_underlying (w := w) Try.underlying36
  simp [Op.equalIn, u26, typeInfo, hi, hc]

/-- Two errors that are numbers of api's own type are the same if the numbers are. -/
theorem eql_err (a b : Int) (w : World) : (binOp .eql 36 (.iface 62 (.int .i64 a)) (.iface 62 (.int .i64 b))).run Try.prog w = .ok (.bool (a == b)) w := by
  have h := errs_alike 9998 a b w
  simp only [binOp, Op.equal, Op.maxDepth]
  simp [h]

theorem neq_err (a b : Int) (w : World) : (binOp .neq 36 (.iface 62 (.int .i64 a)) (.iface 62 (.int .i64 b))).run Try.prog w = .ok (.bool (a != b)) w := by
  have h := errs_alike 9998 a b w
  simp only [binOp, Op.equal, Op.maxDepth]
  simp [h, bne]

theorem ret_int {k : IntKind} {a b : Int} (h : a = b) : Ending.returned (.int k a) = .returned (.int k b) := by rw [h]

/-- An error by its number; 0 is none. -/
def errV (k : Int) : Value := if k = 0 then .nilIface else .iface 62 (.int .i64 k)
theorem errV_zero : errV 0 = .nilIface := rfl
theorem errV_some {k : Int} (h : k ≠ 0) : errV k = .iface 62 (.int .i64 k) := if_neg h

set_option maxHeartbeats 400000 in
theorem code_nil (w : World) : Calls Try.prog 20 #[.nilIface] w fun e w' => e = .returned (.int .i64 0) ∧ w = w' := by
  go_enter Try.func20, Try.ntmps20
  go_wp2
  go_ret
  exact ⟨rfl, rfl⟩

set_option maxHeartbeats 400000 in
theorem code_some (n : Int) (w : World) (h1 : 1 ≤ n) (h2 : n ≤ 11) : Calls Try.prog 20 #[.iface 62 (.int .i64 n)] w fun e w' => e = .returned (.int .i64 n) ∧ w = w' := by
  have he := eql_err
  go_enter Try.func20, Try.ntmps20
  go_wp2
  go_loop [3] (fun i => ∃ k : Int, 1 ≤ k ∧ k ≤ n ∧ i = .int .i64 k) (fun i => (n - intOf i).toNat)
  case atStart => exact ⟨1, by omega, by omega, rfl⟩
  case round =>
    obtain ⟨k, hk1, hk2, rfl⟩ := hrel
    by_cases h6 : k = n
    · subst h6
      go_wp2
      go_ret
      exact ⟨rfl, rfl⟩
    · have hb : (n == k) = false := by simp; omega
      clear h6
      have h6 : k < n := by simp at hb; omega
      go_wp2
      go_round
      case rel => exact ⟨k + 1, by omega, by omega, rfl⟩
      case measure => simp [intOf]; omega

/-- The law's number of an error is the number. -/
theorem code_any (k : Int) (w : World) (h1 : 0 ≤ k) (h2 : k ≤ 11) : Calls Try.prog 20 #[errV k] w fun e w' => e = .returned (.int .i64 k) ∧ w = w' := by
  by_cases h : k = 0
  · subst h
    exact code_nil w
  · rw [errV_some h]
    exact code_some k w (by omega) h2

end Go.Proofs.Ythcchaglloggjaa

namespace Go.Proofs.Ythcchaglloggjaa
open Go.RowKit
set_option linter.unusedVariables false
set_option maxRecDepth 100000

/-- A slice of bytes that reads as the list l; nil, or an empty one, reads as nothing. -/
def Byt (w : World) (A : Option Addr) (n : Nat) (l : List UInt8) : Prop :=
  l.length = n ∧ (0 < n → ∃ a : Addr, A = some a ∧ a.block < w.heap.size ∧ ∀ j (h : j < l.length), w.cell? (a.add j) = some (.int .u8 (l[j].toNat : Int)))

theorem add_block (a : Addr) (n : Nat) : (a.add n).block = a.block := by unfold Addr.add; split <;> rfl

theorem Byt.keep {w w' : World} {A : Option Addr} {n : Nat} {l : List UInt8} (h : Byt w A n l) (hs : w.heap.size ≤ w'.heap.size) (hc : ∀ p : Addr, p.block < w.heap.size → w'.cell? p = w.cell? p) : Byt w' A n l :=
  ⟨h.1, fun h0 => by
    obtain ⟨a, e, hb, hj⟩ := h.2 h0
    exact ⟨a, e, by omega, fun j hl => (hc _ (by rw [add_block]; exact hb)).trans (hj j hl)⟩⟩
theorem Byt.below {w w' : World} {A : Option Addr} {n : Nat} {l : List UInt8} (h : Byt w A n l) (hb : Below w.heap.size w w') : Byt w' A n l := h.keep hb.size fun _ hp => hb.cell hp
theorem Byt.alloc {w : World} {A : Option Addr} {n : Nat} {l : List UInt8} (h : Byt w A n l) (o : Obj) : Byt (w.alloc o) A n l :=
  h.below ((Below.refl _ _).alloc (Nat.le_refl _) _)
theorem Byt.drewN {w : World} {A : Option Addr} {n : Nat} {l : List UInt8} (h : Byt w A n l) (k : Nat) : Byt (w.drewN k) A n l := h

theorem Byt.at_ {w : World} {A : Option Addr} {n k : Nat} {l : List UInt8} (h : Byt w A n l) (hk : k < n) :
    ∃ (a : Addr) (u : UInt8) (x : Int), A = some a ∧ l.drop k = u :: l.drop (k + 1) ∧ x = u.toNat ∧ w.cell? (a.add k) = some (.int .u8 x) := by
  obtain ⟨a, e, _, hj⟩ := h.2 (by omega)
  have hl : k < l.length := by have := h.1; omega
  exact ⟨a, l[k], _, e, List.drop_eq_getElem_cons hl, rfl, hj k hl⟩

/-- string(b). -/
theorem run_str {w : World} {A : Option Addr} {n c : Nat} {l : List UInt8} (h : Byt w A n l) : (convert 42 9 (.slice A n c)).run Try.prog w = .ok (.string ⟨l.toArray⟩) w := by
  obtain ⟨rfl, h⟩ := h
  rcases A with _ | a
  · have h0 : l.length = 0 := by
      rcases Nat.eq_zero_or_pos l.length with h0 | h0
      · exact h0
      · obtain ⟨a, e, _⟩ := h h0
        cases e
    rw [List.length_eq_zero_iff] at h0
    subst h0
    exact run_convert_bytes_nil w _ _ Try.underlying42 Try.underlying5 _ _ _ Try.underlying9
  · refine run_convert_bytes_back w _ _ _ a c l Try.underlying42 Try.underlying5 Try.underlying9 fun j hj => ?_
    obtain ⟨a', e, _, hc⟩ := h (by omega)
    injection e with e
    subst e
    exact hc j hj

theorem back (l : List UInt8) : Lib.bytesOf (l.map fun u => (u.toNat : Int)) = l := by
  simp [Lib.bytesOf, Function.comp_def]

theorem run_bytes {P : Program} {w : World} {A : Option Addr} {n c : Nat} {l : List UInt8} (h : Byt w A n l) : (Extern.Bytes.bytesOf (.slice A n c)).run P w = .ok ⟨l.toArray⟩ w := by
  obtain ⟨rfl, h⟩ := h
  rcases A with _ | a
  · have h0 : l.length = 0 := by
      rcases Nat.eq_zero_or_pos l.length with h0 | h0
      · exact h0
      · obtain ⟨a, e, _⟩ := h h0
        cases e
    rw [List.length_eq_zero_iff] at h0
    subst h0
    rfl
  · have hc : ∀ j (h : j < l.length), w.cell? (a.add j) = some (.int .u8 (l[j].toNat : Int)) := fun j hj => by
      obtain ⟨a', e, _, hc⟩ := h (by omega)
      injection e with e
      subst e
      exact hc j hj
    have := Lib.run_loadBytesX (P := P) w (l.map fun u => (u.toNat : Int)) a .empty (fun j x hj => by
      obtain ⟨h1, h2⟩ := List.getElem?_eq_some_iff.1 hj
      simp at h1 h2
      subst h2
      exact hc j h1)
    rw [List.length_map, back] at this
    have he : (⟨ByteArray.empty.data ++ l.toArray⟩ : ByteArray) = ⟨l.toArray⟩ := by
      apply ByteArray.ext
      show (#[] : Array UInt8) ++ l.toArray = l.toArray
      simp
    rw [he] at this
    exact this

/-- How two stand to each other. -/
def cmpB (l k : List UInt8) : Int := Lib.compareBytes l k
theorem cmpB_three (l k : List UInt8) : cmpB l k = -1 ∨ cmpB l k = 0 ∨ cmpB l k = 1 := by
  unfold cmpB
  induction l generalizing k with
  | nil => cases k <;> simp [Lib.compareBytes]
  | cons x l ih =>
    cases k with
    | nil => simp [Lib.compareBytes]
    | cons y k =>
      unfold Lib.compareBytes
      split
      · exact .inl rfl
      · split
        · exact .inr (.inr rfl)
        · exact ih k
theorem cmpB_eq (l k : List UInt8) : cmpB l k = 0 ↔ l = k := by
  unfold cmpB
  induction l generalizing k with
  | nil => cases k <;> simp [Lib.compareBytes]
  | cons x l ih =>
    cases k with
    | nil => simp [Lib.compareBytes]
    | cons y k =>
      unfold Lib.compareBytes
      by_cases h1 : x < y
      · have : x ≠ y := UInt8.ne_of_lt h1
        simp [h1, this]
      · by_cases h2 : y < x
        · have : x ≠ y := (UInt8.ne_of_lt h2).symm
          simp [h1, h2, this]
        · have e : x = y := UInt8.le_antisymm (UInt8.not_lt.1 h2) (UInt8.not_lt.1 h1)
          simp [ih, e]
theorem cmpB_swap (l k : List UInt8) : cmpB k l = - cmpB l k := by
  unfold cmpB
  induction l generalizing k with
  | nil => cases k <;> simp [Lib.compareBytes]
  | cons x l ih =>
    cases k with
    | nil => simp [Lib.compareBytes]
    | cons y k =>
      unfold Lib.compareBytes
      by_cases h1 : x < y
      · have : ¬ y < x := fun h => UInt8.lt_asymm h h1
        simp [h1, this]
      · by_cases h2 : y < x
        · simp [h1, h2]
        · simp [h1, h2, ih]

/-- Does one stand ahead of another? -/
def ltB (l k : List UInt8) : Bool := cmpB l k == -1

theorem run_cmp {w : World} {A B : Option Addr} {n m c d : Nat} {l k : List UInt8} (h : Byt w A n l) (h' : Byt w B m k) :
    (callFunc 78 #[.slice A n c, .slice B m d]).run Try.prog w = .ok (.value (.int .i64 (cmpB l k))) w := by
  rw [run_callFunc_extern Try.func78 (by kernel_rfl) (by kernel_rfl) (by kernel_rfl) (e := Extern.BytealgCompare.compare) (by kernel_rfl)]
  have e : (Extern.BytealgCompare.compare #[.slice A n c, .slice B m d]).run Try.prog w = .ok (.int .i64 (cmpB l k)) w := by
    change Sem.run Try.prog (do pure (goInt (Extern.BytealgCompare.cmp (← Extern.Bytes.bytesOf (.slice A n c)) (← Extern.Bytes.bytesOf (.slice B m d))))) w = _
    simp only [Sem.run_bind, Sem.run_pure, run_bytes h, run_bytes h', Result.andThen]
    rw [Lib.cmp_eq]
    rfl
  rw [e]
  rfl

set_option maxHeartbeats 400000 in
theorem bcompare_any {w : World} {A B : Option Addr} {n m : Nat} (c d : Nat) {l k : List UInt8} (h : Byt w A n l) (h' : Byt w B m k) :
    Calls Try.prog 63 #[.slice A n c, .slice B m d] w fun e w' => e = .returned (.int .i64 (cmpB l k)) ∧ w = w' := by
  have h1 := run_cmp (c := c) (d := d) h h'
  clear h h'
  go_enter Try.func63, Try.ntmps63
  go_wp2
  go_ret
  exact ⟨rfl, rfl⟩

set_option maxHeartbeats 400000 in
theorem compare_any {w : World} {A B : Option Addr} {n m : Nat} (c d : Nat) {l k : List UInt8} (h : Byt w A n l) (h' : Byt w B m k) :
    Calls Try.prog 53 #[.slice A n c, .slice B m d] w fun e w' => e = .returned (.int .i64 (cmpB l k)) ∧ w = w' := by
  have h1 := Lib.hid (bcompare_any c d h h')
  clear h h'
  go_enter Try.func53, Try.ntmps53
  go_wp2_with (go_at_call 63; refine h1.out.mono ?_; rintro e w' ⟨rfl, rfl⟩)
  go_ret
  exact ⟨rfl, rfl⟩

theorem ret_bool {a b : Bool} (h : a = b) : Ending.returned (.bool a) = .returned (.bool b) := by rw [h]

/-- Are they the same? -/
def sameB (l k : List UInt8) : Bool := decide (l = k)

theorem str_eq (l k : List UInt8) : (l == k) = sameB l k := by
  unfold sameB
  by_cases h : l = k
  · simp [h]
  · simp [h]

theorem step_lt {l k : List UInt8} {u v : UInt8} {i : Nat} (h1 : l.drop i = u :: l.drop (i + 1)) (h2 : k.drop i = v :: k.drop (i + 1)) (h : (u.toNat : Int) < v.toNat) (e : cmpB l k = cmpB (l.drop i) (k.drop i)) : ltB l k = true := by
  unfold ltB
  rw [e, h1, h2]
  unfold cmpB Lib.compareBytes
  have : u < v := UInt8.lt_iff_toNat_lt.2 (by omega)
  simp [this]
theorem step_gt {l k : List UInt8} {u v : UInt8} {i : Nat} (h1 : l.drop i = u :: l.drop (i + 1)) (h2 : k.drop i = v :: k.drop (i + 1)) (h : (v.toNat : Int) < u.toNat) (e : cmpB l k = cmpB (l.drop i) (k.drop i)) : ltB l k = false := by
  unfold ltB
  rw [e, h1, h2]
  unfold cmpB Lib.compareBytes
  have : v < u := UInt8.lt_iff_toNat_lt.2 (by omega)
  have h' : ¬ u < v := fun h => UInt8.lt_asymm h this
  simp [this, h']
theorem step_eq {l k : List UInt8} {u v : UInt8} {i : Nat} (h1 : l.drop i = u :: l.drop (i + 1)) (h2 : k.drop i = v :: k.drop (i + 1)) (h : (v.toNat : Int) = u.toNat) (e : cmpB l k = cmpB (l.drop i) (k.drop i)) : cmpB l k = cmpB (l.drop (i + 1)) (k.drop (i + 1)) := by
  rw [e, h1, h2]
  have e : u = v := UInt8.toNat_inj.1 (by omega)
  subst e
  have : ¬ u < u := UInt8.lt_irrefl u
  show Lib.compareBytes _ _ = Lib.compareBytes _ _
  rw [Lib.compareBytes.eq_4]
  simp [this]
theorem step_end {l k : List UInt8} {i : Nat} (h1 : i ≤ l.length) (h2 : i ≤ k.length) (h : ¬ (i < l.length ∧ i < k.length)) (e : cmpB l k = cmpB (l.drop i) (k.drop i)) : ltB l k = decide (l.length < k.length) := by
  unfold ltB
  rw [e]
  by_cases hl : i < l.length
  · have hk : i = k.length := by omega
    subst hk
    rw [List.drop_eq_getElem_cons hl, List.drop_length]
    simp [cmpB, Lib.compareBytes]
    omega
  · have hl : i = l.length := by omega
    subst hl
    rw [List.drop_length]
    by_cases hk : l.length < k.length
    · rw [List.drop_eq_getElem_cons hk]
      simp [cmpB, Lib.compareBytes, hk]
    · rw [List.drop_eq_nil_of_le (by omega)]
      simp [cmpB, Lib.compareBytes, hk]

/-- Only draws have been made. -/
def Drawn (w w' : World) : Prop := ∃ d, w' = w.drewN d
theorem Drawn.byt {w w' : World} {A : Option Addr} {n : Nat} {l : List UInt8} (h : Drawn w w') (hb : Byt w A n l) : Byt w' A n l := by
  obtain ⟨d, rfl⟩ := h
  exact hb
theorem Drawn.more {w w' : World} (h : Drawn w w') (d : Nat) : Drawn w (w'.drewN d) := by
  obtain ⟨k, rfl⟩ := h
  exact ⟨k + d, World.drewN_drewN _ _ _⟩

set_option maxHeartbeats 1000000 in
theorem less_any {w : World} {A B : Option Addr} {n m : Nat} (c d : Nat) {l k : List UInt8} (h : Byt w A n l) (h' : Byt w B m k) (hn : n ≤ maxLen) (hm : m ≤ maxLen) :
    Calls Try.prog 54 #[.slice A n c, .slice B m d] w fun e w' => e = .returned (.bool (ltB l k)) ∧ Drawn w w' := by
  unfold maxLen at hn hm
  have H := Lib.hid h
  have H' := Lib.hid h'
  clear h h'
  go_enter Try.func54, Try.ntmps54
  go_wp2
  go_loopw [5] (fun i wr => ∃ j : Nat, j ≤ n ∧ j ≤ m ∧ i = .int .i64 j ∧ cmpB l k = cmpB (l.drop j) (k.drop j) ∧ Drawn w wr) (fun i _ => n - (intOf i).toNat)
  case atStart => exact ⟨0, Nat.zero_le _, Nat.zero_le _, rfl, rfl, 0, rfl⟩
  case round =>
    obtain ⟨j, hj1, hj2, rfl, hc, hd⟩ := hrel
    have HC := Lib.hid hc
    clear hc
    by_cases hlt : j < n ∧ j < m
    · obtain ⟨hl1, hl2⟩ := hlt
      obtain ⟨a, u, x, rfl, e1, ex, c1⟩ := (hd.byt H.out).at_ hl1
      obtain ⟨b, v, y, rfl, e2, ey, c2⟩ := (hd.byt H'.out).at_ hl2
      have E1 := Lib.hid e1
      have E2 := Lib.hid e2
      have EX := Lib.hid ex
      have EY := Lib.hid ey
      clear e1 e2 ex ey H H'
      rcases Int.lt_trichotomy x y with hxy | hxy | hxy
      · have hne : (x != y) = true := by simp; omega
        go_wp2
        go_quiet (fail)
        go_wp2
        go_quiet (fail)
        go_wp2
        go_ret
        exact ⟨ret_bool (step_lt E1.out E2.out (by rw [← EX.out, ← EY.out]; exact hxy) HC.out).symm, (hd.more _).more _⟩
      · have HXY := Lib.hid hxy
        have hne : (x != y) = false := by simp [hxy]
        clear hxy
        go_wp2
        go_quiet (fail)
        go_wp2
        go_roundw
        case rel => exact ⟨j + 1, by omega, by omega, by go_num, step_eq E1.out E2.out (by rw [← EX.out, ← EY.out]; exact HXY.out.symm) HC.out, hd.more _⟩
        case measure => simp [intOf]; omega
      · have hne : (x != y) = true := by simp; omega
        have hnl : decide (x < y) = false := by simp; omega
        go_wp2
        go_quiet (fail)
        go_wp2
        go_quiet (fail)
        go_wp2
        go_ret
        exact ⟨ret_bool (step_gt E1.out E2.out (by rw [← EX.out, ← EY.out]; exact hxy) HC.out).symm, (hd.more _).more _⟩
    · have hr : ltB l k = decide (n < m) := by
        have h1 := H.out.1
        have h2 := H'.out.1
        rw [step_end (by omega) (by omega) (by omega) HC.out, h1, h2]
      have HR := Lib.hid hr
      clear hr
      by_cases hl1 : j < n
      · have hl2 : decide (j < m) = false := by simp; omega
        go_wp2
        go_ret
        exact ⟨ret_bool (by rw [HR.out]), hd⟩
      · go_wp2
        go_ret
        exact ⟨ret_bool (by rw [HR.out]), hd⟩
end Go.Proofs.Ythcchaglloggjaa

namespace Go.Proofs.Ythcchaglloggjaa
set_option linter.unusedVariables false
set_option maxRecDepth 100000

abbrev Pr := List UInt8 × List UInt8

theorem cmp_cons (x y : UInt8) (a b : List UInt8) : cmpB (x :: a) (y :: b) = if x < y then -1 else if y < x then 1 else cmpB a b := by
  show Lib.compareBytes _ _ = _
  rw [Lib.compareBytes.eq_4]
  rfl
theorem ltB_nil_cons (y : UInt8) (b : List UInt8) : ltB [] (y :: b) = true := rfl
theorem ltB_nil (a : List UInt8) : ltB a [] = false := by
  cases a <;> rfl
theorem ltB_cons (x y : UInt8) (a b : List UInt8) : ltB (x :: a) (y :: b) = true ↔ x < y ∨ (x = y ∧ ltB a b = true) := by
  unfold ltB
  rw [cmp_cons]
  by_cases h1 : x < y
  · simp [h1]
  · by_cases h2 : y < x
    · have : x ≠ y := (UInt8.ne_of_lt h2).symm
      simp [h1, h2, this]
    · have e : x = y := UInt8.le_antisymm (UInt8.not_lt.1 h2) (UInt8.not_lt.1 h1)
      simp [e]
theorem ltB_trans {a b c : List UInt8} (h1 : ltB a b = true) (h2 : ltB b c = true) : ltB a c = true := by
  induction a generalizing b c with
  | nil =>
    cases c with
    | nil => rw [ltB_nil] at h2; cases h2
    | cons z c => rfl
  | cons x a ih =>
    cases b with
    | nil => rw [ltB_nil] at h1; cases h1
    | cons y b =>
      cases c with
      | nil => rw [ltB_nil] at h2; cases h2
      | cons z c =>
        rw [ltB_cons] at h1 h2 ⊢
        rcases h1 with h1 | ⟨rfl, h1⟩
        · rcases h2 with h2 | ⟨rfl, h2⟩
          · exact .inl (UInt8.lt_trans h1 h2)
          · exact .inl h1
        · rcases h2 with h2 | ⟨rfl, h2⟩
          · exact .inl h2
          · exact .inr ⟨rfl, ih h1 h2⟩
theorem ltB_irrefl (a : List UInt8) : ltB a a = false := by
  unfold ltB
  rw [(cmpB_eq a a).2 rfl]
  rfl
theorem ltB_asymm {a b : List UInt8} (h : ltB a b = true) : ltB b a = false := by
  cases h' : ltB b a
  · rfl
  · have := ltB_trans h h'
    rw [ltB_irrefl] at this
    cases this
theorem ltB_total (a b : List UInt8) (h1 : ltB a b = false) (h2 : ltB b a = false) : a = b := by
  unfold ltB at h1 h2
  rw [cmpB_swap a b] at h2
  rcases cmpB_three a b with h | h | h
  · rw [h] at h1; cases h1
  · exact (cmpB_eq a b).1 h
  · rw [h] at h2; cases h2
theorem cmp_lt (l k : List UInt8) : decide (cmpB l k < 0) = ltB l k := by
  unfold ltB
  rcases cmpB_three l k with h | h | h <;> rw [h] <;> rfl
theorem cmp_ge (l k : List UInt8) : decide (0 ≤ cmpB l k) = !ltB l k := by
  unfold ltB
  rcases cmpB_three l k with h | h | h <;> rw [h] <;> rfl
theorem cmp_zero (l k : List UInt8) : (cmpB l k == 0) = sameB l k := by
  unfold sameB
  by_cases h : l = k
  · simp [h]
    exact (cmpB_eq k k).2 rfl
  · have : cmpB l k ≠ 0 := fun e => h ((cmpB_eq l k).1 e)
    simp [h, this]

/-- Keys rise. -/
def Srt (L : List Pr) : Prop := L.Pairwise fun p q => ltB p.1 q.1 = true
/-- How many keys stand ahead of one. -/
def pos (L : List Pr) (k : List UInt8) : Nat := (L.takeWhile fun p => ltB p.1 k).length
def hasB (L : List Pr) (k : List UInt8) : Bool := L.any fun p => sameB p.1 k
def delL (L : List Pr) (k : List UInt8) : List Pr := L.filter fun p => !sameB p.1 k
def putL (L : List Pr) (k v : List UInt8) : List Pr := (delL L k).take (pos (delL L k) k) ++ (k, v) :: (delL L k).drop (pos (delL L k) k)
def mayB (x : List UInt8) : Bool := decide (1 ≤ x.length) && decide (x.length ≤ 16)
def fairB (p : Pr) : Bool := mayB p.1 && decide (p.2.length ≤ 32)
def gt (L : List Pr) (i : Nat) : Pr := L.getD i ([], [])
def okAt (L : List Pr) (i : Nat) : Bool := fairB (gt L i) && (decide (i = 0) || ltB (gt L (i - 1)).1 (gt L i).1)
def isB (L : List Pr) : Bool := (List.range L.length).all (okAt L)
def rowL (L : List Pr) : List Pr := L.foldl (fun out p => if fairB p then putL out p.1 p.2 else out) []

theorem gt_eq {L : List Pr} {i : Nat} (h : i < L.length) : gt L i = L[i] := by
  unfold gt
  rw [List.getD_eq_getElem?_getD, List.getElem?_eq_getElem h]
  rfl
theorem gt_mem {L : List Pr} {i : Nat} (h : i < L.length) : gt L i ∈ L := by
  rw [gt_eq h]
  exact List.getElem_mem h

/-- A row parts at a key. -/
theorem split {L : List Pr} (h : Srt L) (k : List UInt8) : ∃ X M Y, L = X ++ (M ++ Y) ∧ (∀ p ∈ X, ltB p.1 k = true) ∧ (∀ p ∈ Y, ltB k p.1 = true) ∧ (M = [] ∨ ∃ v, M = [(k, v)]) := by
  induction L with
  | nil => exact ⟨[], [], [], rfl, by simp, by simp, .inl rfl⟩
  | cons p L ih =>
    obtain ⟨h1, h2⟩ := List.pairwise_cons.1 h
    cases h3 : ltB p.1 k
    · cases h4 : ltB k p.1
      · have e := ltB_total _ _ h3 h4
        refine ⟨[], [p], L, rfl, by simp, fun q hq => by rw [← e]; exact h1 q hq, .inr ⟨p.2, by rw [← e]⟩⟩
      · refine ⟨[], [], p :: L, rfl, by simp, fun q hq => ?_, .inl rfl⟩
        rcases List.mem_cons.1 hq with rfl | hq
        · exact h4
        · exact ltB_trans h4 (h1 q hq)
    · obtain ⟨X, M, Y, rfl, hX, hY, hM⟩ := ih h2
      refine ⟨p :: X, M, Y, rfl, fun q hq => ?_, hY, hM⟩
      rcases List.mem_cons.1 hq with rfl | hq
      · exact h3
      · exact hX q hq

section
variable {X M Y : List Pr} {k : List UInt8} (hX : ∀ p ∈ X, ltB p.1 k = true) (hY : ∀ p ∈ Y, ltB k p.1 = true) (hM : M = [] ∨ ∃ v, M = [(k, v)])
include hX hY hM
theorem pos_split : pos (X ++ (M ++ Y)) k = X.length := by
  unfold pos
  rw [List.takeWhile_append_of_pos hX]
  have : (M ++ Y).takeWhile (fun p => ltB p.1 k) = [] := by
    rcases hM with rfl | ⟨v, rfl⟩
    · cases Y with
      | nil => rfl
      | cons q Y =>
        have := ltB_asymm (hY q (by simp))
        simp [this]
    · simp [ltB_irrefl]
  rw [this]
  simp
theorem del_split : delL (X ++ (M ++ Y)) k = X ++ Y := by
  unfold delL
  rw [List.filter_append, List.filter_append]
  have e1 : X.filter (fun p => !sameB p.1 k) = X := List.filter_eq_self.2 fun p hp => by
    have := hX p hp
    unfold sameB
    by_cases e : p.1 = k
    · rw [e, ltB_irrefl] at this; cases this
    · simp [e]
  have e2 : Y.filter (fun p => !sameB p.1 k) = Y := List.filter_eq_self.2 fun p hp => by
    have := hY p hp
    unfold sameB
    by_cases e : p.1 = k
    · rw [e, ltB_irrefl] at this; cases this
    · simp [e]
  have e3 : M.filter (fun p => !sameB p.1 k) = [] := by
    rcases hM with rfl | ⟨v, rfl⟩
    · rfl
    · simp [sameB]
  rw [e1, e2, e3]
  rfl
theorem put_split (v : List UInt8) : putL (X ++ (M ++ Y)) k v = X ++ (k, v) :: Y := by
  unfold putL
  rw [del_split hX hY hM]
  have := pos_split hX hY (.inl rfl)
  rw [List.nil_append] at this
  rw [this]
  simp
theorem has_split : hasB (X ++ (M ++ Y)) k = !M.isEmpty := by
  have e1 : X.any (fun p => sameB p.1 k) = false := List.any_eq_false.2 fun p hp => by
    have := hX p hp
    unfold sameB
    by_cases e : p.1 = k
    · rw [e, ltB_irrefl] at this; cases this
    · simp [e]
  have e2 : Y.any (fun p => sameB p.1 k) = false := List.any_eq_false.2 fun p hp => by
    have := hY p hp
    unfold sameB
    by_cases e : p.1 = k
    · rw [e, ltB_irrefl] at this; cases this
    · simp [e]
  unfold hasB
  rw [List.any_append, List.any_append, e1, e2]
  rcases hM with rfl | ⟨v, rfl⟩
  · rfl
  · simp [sameB]
end

theorem pos_le (L : List Pr) (k : List UInt8) : pos L k ≤ L.length := by
  unfold pos
  exact (List.takeWhile_sublist _).length_le

/-- What stands ahead of a key's place is less; what stands there, or behind, is not. -/
theorem pos_lt {L : List Pr} (h : Srt L) (k : List UInt8) {i : Nat} (hi : i < L.length) : ltB (gt L i).1 k = decide (i < pos L k) := by
  obtain ⟨X, M, Y, rfl, hX, hY, hM⟩ := split h k
  rw [pos_split hX hY hM, gt_eq hi]
  by_cases hl : i < X.length
  · rw [List.getElem_append_left hl, hX _ (List.getElem_mem hl)]
    simp [hl]
  · rw [List.getElem_append_right (by omega)]
    have hm := List.getElem_mem (l := M ++ Y) (n := i - X.length) (by simp at hi ⊢; omega)
    generalize (M ++ Y)[i - X.length]'(by simp at hi ⊢; omega) = p at hm
    have : ltB p.1 k = false := by
      rcases List.mem_append.1 hm with hm | hm
      · rcases hM with rfl | ⟨v, rfl⟩
        · cases hm
        · simp at hm
          rw [hm]
          exact ltB_irrefl _
      · exact ltB_asymm (hY p hm)
    rw [this]
    simp [hl]
theorem pos_same {L : List Pr} (h : Srt L) (k : List UInt8) (hi : pos L k < L.length) : sameB (gt L (pos L k)).1 k = hasB L k := by
  obtain ⟨X, M, Y, rfl, hX, hY, hM⟩ := split h k
  rw [gt_eq hi, has_split hX hY hM]
  have hp := pos_split hX hY hM
  simp only [hp] at hi ⊢
  rw [List.getElem_append_right (Nat.le_refl _)]
  rcases hM with rfl | ⟨v, rfl⟩
  · have hm := List.getElem_mem (l := [] ++ Y) (n := X.length - X.length) (by simp at hi ⊢; omega)
    generalize ([] ++ Y)[X.length - X.length]'(by simp at hi ⊢; omega) = p at hm
    have := hY p (by simpa using hm)
    unfold sameB
    by_cases e : p.1 = k
    · rw [e, ltB_irrefl] at this; cases this
    · simp [e]
  · simp [sameB]
theorem pos_end {L : List Pr} (h : Srt L) (k : List UInt8) (hi : pos L k = L.length) : hasB L k = false := by
  obtain ⟨X, M, Y, rfl, hX, hY, hM⟩ := split h k
  rw [has_split hX hY hM]
  rw [pos_split hX hY hM] at hi
  rcases hM with rfl | ⟨v, rfl⟩
  · rfl
  · simp at hi

theorem srt_append {X Y : List Pr} : Srt (X ++ Y) ↔ Srt X ∧ Srt Y ∧ ∀ p ∈ X, ∀ q ∈ Y, ltB p.1 q.1 = true := List.pairwise_append
theorem srt_del {L : List Pr} (h : Srt L) (k : List UInt8) : Srt (delL L k) := List.Pairwise.filter _ h
theorem srt_put {L : List Pr} (h : Srt L) (k v : List UInt8) : Srt (putL L k v) := by
  have hd := srt_del h k
  obtain ⟨X, M, Y, rfl, hX, hY, hM⟩ := split h k
  rw [put_split hX hY hM]
  rw [del_split hX hY hM] at hd
  obtain ⟨h1, h2, h3⟩ := srt_append.1 hd
  refine srt_append.2 ⟨h1, List.pairwise_cons.2 ⟨hY, h2⟩, fun p hp q hq => ?_⟩
  rcases List.mem_cons.1 hq with rfl | hq
  · exact hX p hp
  · exact h3 p hp q hq
theorem mem_del {L : List Pr} {k : List UInt8} {p : Pr} (h : p ∈ delL L k) : p ∈ L := (List.mem_filter.1 h).1
theorem mem_put {L : List Pr} {k v : List UInt8} {p : Pr} (h : p ∈ putL L k v) : p ∈ L ∨ p = (k, v) := by
  unfold putL at h
  rcases List.mem_append.1 h with h | h
  · exact .inl (mem_del (List.mem_of_mem_take h))
  · rcases List.mem_cons.1 h with h | h
    · exact .inr h
    · exact .inl (mem_del (List.mem_of_mem_drop h))
theorem len_del (L : List Pr) (k : List UInt8) : (delL L k).length ≤ L.length := List.length_filter_le _ _
theorem len_put (L : List Pr) (k v : List UInt8) : (putL L k v).length ≤ L.length + 1 := by
  have h1 := len_del L k
  have h2 := pos_le (delL L k) k
  unfold putL
  simp
  omega

/-- Each pair may be, and they rise. -/
def Fit (L : List Pr) : Prop := Srt L ∧ ∀ p ∈ L, fairB p = true
theorem fit_nil : Fit [] := ⟨List.Pairwise.nil, fun p hp => by cases hp⟩
theorem Fit.del {L : List Pr} (h : Fit L) (k : List UInt8) : Fit (delL L k) := ⟨srt_del h.1 k, fun p hp => h.2 p (mem_del hp)⟩
theorem Fit.put {L : List Pr} (h : Fit L) {k v : List UInt8} (hf : fairB (k, v) = true) : Fit (putL L k v) :=
  ⟨srt_put h.1 k v, fun p hp => (mem_put hp).elim (fun hp => h.2 p hp) (fun e => by rw [e]; exact hf)⟩
theorem Fit.is {L : List Pr} (h : Fit L) : isB L = true := by
  unfold isB
  refine List.all_eq_true.2 fun i hi => ?_
  have hi := List.mem_range.1 hi
  unfold okAt
  rw [h.2 _ (gt_mem hi)]
  by_cases h0 : i = 0
  · simp [h0]
  · have := List.pairwise_iff_getElem.1 h.1 (i - 1) i (by omega) hi (by omega)
    rw [gt_eq hi, gt_eq (show i - 1 < L.length by omega), this]
    simp

theorem row_step (L : List Pr) {i : Nat} (h : i < L.length) : rowL (L.take (i + 1)) = if fairB (gt L i) then putL (rowL (L.take i)) (gt L i).1 (gt L i).2 else rowL (L.take i) := by
  unfold rowL
  rw [List.take_succ_eq_append_getElem h, List.foldl_append, gt_eq h]
  rfl
theorem row_fit (L : List Pr) (i : Nat) (h : i ≤ L.length) : Fit (rowL (L.take i)) ∧ (rowL (L.take i)).length ≤ i := by
  induction i with
  | zero => exact ⟨fit_nil, Nat.le_refl _⟩
  | succ i ih =>
    obtain ⟨h1, h2⟩ := ih (by omega)
    rw [row_step L (by omega)]
    by_cases hf : fairB (gt L i) = true
    · rw [if_pos hf]
      exact ⟨h1.put hf, Nat.le_trans (len_put _ _ _) (by omega)⟩
    · rw [if_neg hf]
      exact ⟨h1, by omega⟩

theorem has_iff {L : List Pr} {k : List UInt8} : hasB L k = true ↔ ∃ v, (k, v) ∈ L := by
  unfold hasB sameB
  rw [List.any_eq_true]
  constructor
  · rintro ⟨p, hp, he⟩
    have := of_decide_eq_true he
    exact ⟨p.2, by rw [← this]; exact hp⟩
  · rintro ⟨v, hv⟩
    exact ⟨_, hv, by simp⟩
theorem has_put {L : List Pr} (h : Srt L) (k v : List UInt8) : hasB (putL L k v) k = true ∧ pos (putL L k v) k < (putL L k v).length ∧ gt (putL L k v) (pos (putL L k v) k) = (k, v) ∧ (delL (putL L k v) k).length + 1 = (putL L k v).length := by
  obtain ⟨X, M, Y, rfl, hX, hY, hM⟩ := split h k
  rw [put_split hX hY hM]
  have e : X ++ (k, v) :: Y = X ++ ([(k, v)] ++ Y) := rfl
  rw [e, has_split hX hY (.inr ⟨v, rfl⟩), pos_split hX hY (.inr ⟨v, rfl⟩), del_split hX hY (.inr ⟨v, rfl⟩)]
  refine ⟨rfl, by simp, ?_, by simp; omega⟩
  rw [gt_eq (by simp), List.getElem_append_right (Nat.le_refl _)]
  simp
theorem has_del (L : List Pr) (k o : List UInt8) (h : hasB L k = true) : hasB (delL L o) k = !sameB k o := by
  obtain ⟨v, hv⟩ := has_iff.1 h
  by_cases e : k = o
  · subst e
    have : ¬ hasB (delL L k) k = true := fun h => by
      obtain ⟨v, hv⟩ := has_iff.1 h
      have := (List.mem_filter.1 hv).2
      simp [sameB] at this
    simp [sameB, this]
  · have : hasB (delL L o) k = true := has_iff.2 ⟨v, List.mem_filter.2 ⟨hv, by simp [sameB, e]⟩⟩
    simp [sameB, e, this]

/-- Taking a row apart at a key, as the program does. -/
theorem put_is {L : List Pr} (h : Srt L) (k v : List UInt8) : putL L k v = L.take (pos L k) ++ ([(k, v)] ++ (if hasB L k then (L.drop (pos L k)).drop 1 else L.drop (pos L k))) := by
  obtain ⟨X, M, Y, rfl, hX, hY, hM⟩ := split h k
  rw [put_split hX hY hM, pos_split hX hY hM, has_split hX hY hM]
  rcases hM with rfl | ⟨v', rfl⟩ <;> simp
theorem del_is {L : List Pr} (h : Srt L) (k : List UInt8) : delL L k = if hasB L k then L.take (pos L k) ++ L.drop (pos L k + 1) else L := by
  obtain ⟨X, M, Y, rfl, hX, hY, hM⟩ := split h k
  rw [del_split hX hY hM, pos_split hX hY hM, has_split hX hY hM]
  rcases hM with rfl | ⟨v', rfl⟩ <;> simp [List.drop_append]
end Go.Proofs.Ythcchaglloggjaa

namespace Go.Proofs.Ythcchaglloggjaa
open Go.RowKit
set_option linter.unusedVariables false
set_option maxRecDepth 100000

/-- A pair's two cells, and what they read as. -/
def PairAt (w : World) (b o : Nat) (p : Pr) : Prop :=
  ∃ A n c B m d, w.cell? ⟨b, o, none⟩ = some (.slice A n c) ∧ w.cell? ⟨b, o + 1, none⟩ = some (.slice B m d) ∧ Byt w A n p.1 ∧ Byt w B m p.2

/-- A slice of pairs that reads as the list L. -/
def Prs (w : World) (A : Option Addr) (n c : Nat) (L : List Pr) : Prop :=
  L.length = n ∧ n ≤ c ∧ c ≤ maxLen ∧ (A = none → c = 0) ∧ (0 < n → ∃ b o, A = some ⟨b, o, none⟩ ∧ b < w.heap.size ∧ ∀ j, j < n → PairAt w b (o + j * 2) (gt L j))

theorem PairAt.keep {w w' : World} {b o : Nat} {p : Pr} (h : PairAt w b o p) (hl : b < w.heap.size) (hs : w.heap.size ≤ w'.heap.size) (hc : ∀ q : Addr, q.block < w.heap.size → w'.cell? q = w.cell? q) : PairAt w' b o p := by
  obtain ⟨A, n, c, B, m, d, h1, h2, h3, h4⟩ := h
  exact ⟨A, n, c, B, m, d, (hc ⟨b, o, none⟩ hl).trans h1, (hc ⟨b, o + 1, none⟩ hl).trans h2, h3.keep hs hc, h4.keep hs hc⟩
theorem Prs.keep {w w' : World} {A : Option Addr} {n c : Nat} {L : List Pr} (h : Prs w A n c L) (hs : w.heap.size ≤ w'.heap.size) (hc : ∀ q : Addr, q.block < w.heap.size → w'.cell? q = w.cell? q) : Prs w' A n c L := by
  obtain ⟨h1, h2, h3, h4, h5⟩ := h
  refine ⟨h1, h2, h3, h4, fun h0 => ?_⟩
  obtain ⟨b, o, e, hb, hj⟩ := h5 h0
  exact ⟨b, o, e, by omega, fun j hl => (hj j hl).keep hb hs hc⟩
theorem Prs.below {w w' : World} {A : Option Addr} {n c : Nat} {L : List Pr} (h : Prs w A n c L) (hb : Below w.heap.size w w') : Prs w' A n c L := h.keep hb.size fun _ hp => hb.cell hp
theorem Prs.alloc {w : World} {A : Option Addr} {n c : Nat} {L : List Pr} (h : Prs w A n c L) (o : Obj) : Prs (w.alloc o) A n c L :=
  h.below ((Below.refl _ _).alloc (Nat.le_refl _) _)
theorem Prs.drewN {w : World} {A : Option Addr} {n c : Nat} {L : List Pr} (h : Prs w A n c L) (k : Nat) : Prs (w.drewN k) A n c L := h
theorem Prs.len {w : World} {A : Option Addr} {n c : Nat} {L : List Pr} (h : Prs w A n c L) : L.length = n := h.1

/-- One pair of it. -/
theorem Prs.at_ {w : World} {A : Option Addr} {n c j : Nat} {L : List Pr} (h : Prs w A n c L) (hj : j < n) :
    ∃ b o, A = some ⟨b, o, none⟩ ∧ b < w.heap.size ∧ PairAt w b (o + j * 2) (gt L j) := by
  obtain ⟨b, o, e, hb, hp⟩ := h.2.2.2.2 (by omega)
  exact ⟨b, o, e, hb, hp j hj⟩

theorem prs_nil (w : World) : Prs w none 0 0 [] := ⟨rfl, Nat.le_refl _, Nat.zero_le _, fun _ => rfl, fun h => absurd h (by omega)⟩

/-- Where a part of a slice lies. -/
def cutA (A : Option Addr) (k c : Nat) : Option Addr := if c = k then A else A.map (·.add (k * 2))

theorem add_lit (b o n : Nat) : (⟨b, o, none⟩ : Addr).add n = ⟨b, o + n, none⟩ := by
  unfold Addr.add
  split
  · next h => rw [h]; rfl
  · rfl

theorem Prs.from {w : World} {A : Option Addr} {n c k : Nat} {L : List Pr} (h : Prs w A n c L) (hk : k ≤ n) : Prs w (cutA A k c) (n - k) (c - k) (L.drop k) := by
  obtain ⟨h1, h2, h3, h4, h5⟩ := h
  refine ⟨by simp [h1], by omega, by omega, fun e => ?_, fun h0 => ?_⟩
  · unfold cutA at e
    split at e
    · omega
    · cases A with
      | none => have := h4 rfl; omega
      | some a => cases e
  · obtain ⟨b, o, e, hb, hj⟩ := h5 (by omega)
    refine ⟨b, o + k * 2, ?_, hb, fun j hl => ?_⟩
    · unfold cutA
      rw [if_neg (by omega), e]
      simp only [Option.map_some]
      rw [add_lit]
    · have := hj (k + j) (by omega)
      rw [show o + k * 2 + j * 2 = o + (k + j) * 2 by omega]
      have hg : gt (L.drop k) j = gt L (k + j) := by
        unfold gt
        simp [List.getD_eq_getElem?_getD, List.getElem?_drop]
      rw [hg]
      exact this
theorem Prs.upto {w : World} {A : Option Addr} {n c k : Nat} {L : List Pr} (h : Prs w A n c L) (hk : k ≤ n) : Prs w A k c (L.take k) := by
  obtain ⟨h1, h2, h3, h4, h5⟩ := h
  refine ⟨by simp; omega, by omega, h3, h4, fun h0 => ?_⟩
  obtain ⟨b, o, e, hb, hj⟩ := h5 (by omega)
  refine ⟨b, o, e, hb, fun j hl => ?_⟩
  have hg : gt (L.take k) j = gt L j := by
    unfold gt
    simp [List.getD_eq_getElem?_getD, hl]
  rw [hg]
  exact hj j (by omega)

set_option maxHeartbeats 400000 in
theorem may_any {w : World} {A : Option Addr} {n : Nat} (c : Nat) {x : List UInt8} (h : Byt w A n x) :
    Calls Try.prog 59 #[.slice A n c] w fun e w' => e = .returned (.bool (mayB x)) ∧ w = w' := by
  have hr : mayB x = (decide (1 ≤ n) && decide (n ≤ 16)) := by rw [← h.1]; rfl
  have HR := Lib.hid hr
  clear hr h
  by_cases h1 : 1 ≤ n <;> by_cases h2 : n ≤ 16
  all_goals first | (exfalso; omega) | skip
  all_goals
    go_enter Try.func59, Try.ntmps59
    go_wp2
    go_ret
    refine ⟨ret_bool ?_, rfl⟩
    rw [HR.out]
    first | rfl | (rw [Bool.eq_iff_iff]; simp; omega)

set_option maxHeartbeats 400000 in
theorem rmay_any {w : World} {A : Option Addr} {n : Nat} (c : Nat) {x : List UInt8} (h : Byt w A n x) :
    Calls Try.prog 41 #[.slice A n c] w fun e w' => e = .returned (.bool (mayB x)) ∧ w = w' := by
  have hr : mayB x = (decide (1 ≤ n) && decide (n ≤ 16)) := by rw [← h.1]; rfl
  have HR := Lib.hid hr
  clear hr h
  by_cases h1 : 0 < n <;> by_cases h2 : n ≤ 16
  all_goals first | (exfalso; omega) | skip
  all_goals
    go_enter Try.func41, Try.ntmps41
    go_wp2
    go_ret
    refine ⟨ret_bool ?_, rfl⟩
    rw [HR.out]
    first | rfl | (rw [Bool.eq_iff_iff]; simp; omega)

set_option maxHeartbeats 400000 in
theorem kfair_any {w : World} {A : Option Addr} {n : Nat} (c : Nat) {x : List UInt8} (h : Byt w A n x) :
    Calls Try.prog 58 #[.slice A n c] w fun e w' => e = .returned (.bool (decide (x.length ≤ 32))) ∧ w = w' := by
  have hr := h.1
  have HR := Lib.hid hr
  clear hr h
  go_enter Try.func58, Try.ntmps58
  go_wp2
  go_ret
  refine ⟨ret_bool ?_, rfl⟩
  rw [HR.out]
  first | rfl | (rw [Bool.eq_iff_iff]; simp; omega)

end Go.Proofs.Ythcchaglloggjaa

namespace Go.Proofs.Ythcchaglloggjaa
open Go.RowKit
set_option linter.unusedVariables false
set_option maxRecDepth 100000

theorem Drawn.below {w w' : World} (h : Drawn w w') (B : Nat) : Below B w w' := by
  obtain ⟨d, rfl⟩ := h
  exact ⟨rfl, rfl, rfl, Nat.le_refl _, fun _ _ => rfl⟩
theorem ret_two {i j : Int} {a b : Bool} (h : i = j) (h' : a = b) : Ending.returned (.tuple #[.int .i64 i, .bool a]) = .returned (.tuple #[.int .i64 j, .bool b]) := by rw [h, h']

/-- How far the search has come. -/
def Srch (L : List Pr) (k : List UInt8) (i j : Nat) : Prop := i ≤ pos L k ∧ pos L k ≤ j

theorem meas_up (i j : Nat) (h : i < j) : (intOf (.int .i64 (j : Int))).toNat - (intOf (.int .i64 (((i : Int) + (j : Int)) / 2 + 1))).toNat < (intOf (.int .i64 (j : Int))).toNat - (intOf (.int .i64 (i : Int))).toNat := by
  show (j : Int).toNat - (((i : Int) + (j : Int)) / 2 + 1).toNat < (j : Int).toNat - (i : Int).toNat
  omega
theorem meas_down (i j : Nat) (h : i < j) : (intOf (.int .i64 (((i : Int) + (j : Int)) / 2))).toNat - (intOf (.int .i64 (i : Int))).toNat < (intOf (.int .i64 (j : Int))).toNat - (intOf (.int .i64 (i : Int))).toNat := by
  show (((i : Int) + (j : Int)) / 2).toNat - (i : Int).toNat < (j : Int).toNat - (i : Int).toNat
  omega
theorem mid_cast (i j : Nat) : ((i : Int) + (j : Int)) / 2 = (((i + j) / 2 : Nat) : Int) := by omega

end Go.Proofs.Ythcchaglloggjaa

namespace Go.Proofs.Ythcchaglloggjaa
open Go.RowKit
set_option linter.unusedVariables false
set_option maxRecDepth 100000

def shortB (p : Pr) : Bool := decide (p.1.length ≤ 100) && decide (p.2.length ≤ 100)
def fewB (L : List Pr) (m : Nat) : Bool := L.all shortB && decide (L.length ≤ m)

theorem all_gt {L : List Pr} {f : Pr → Bool} (h : ∀ j, j < L.length → f (gt L j) = true) : L.all f = true := by
  refine List.all_eq_true.2 fun p hp => ?_
  obtain ⟨j, hj, rfl⟩ := List.getElem_of_mem hp
  rw [← gt_eq hj]
  exact h j hj
theorem all_not {L : List Pr} {f : Pr → Bool} {j : Nat} (hj : j < L.length) (h : f (gt L j) = false) : L.all f = false := by
  refine List.all_eq_false.2 ⟨gt L j, gt_mem hj, by simp [h]⟩

theorem is_not {L : List Pr} {j : Nat} (hj : j < L.length) (h : okAt L j = false) : isB L = false := by
  refine List.all_eq_false.2 ⟨j, List.mem_range.2 hj, by simp [h]⟩
theorem is_all {L : List Pr} (h : ∀ j, j < L.length → okAt L j = true) : isB L = true :=
  List.all_eq_true.2 fun j hj => h j (List.mem_range.1 hj)

/-- No key or value is long. -/
def Small (L : List Pr) : Prop := ∀ p ∈ L, p.1.length ≤ 1000 ∧ p.2.length ≤ 1000

theorem quiet_drawn {P : Program} {f : FuncId} {args : Array Value} {w : World} {n : Nat} {v : Value}
    (h : Calls P f args (w.drewN n) fun e w' => e = .returned v ∧ Drawn (w.drewN n) w') : Calls P f args (w.drewN n) fun e w'' => e = .returned v ∧ ∃ m, w'' = w.drewN m :=
  h.mono fun _ _ ⟨he, d, hm⟩ => ⟨he, n + d, by rw [hm, World.drewN_drewN]⟩
theorem quiet_left {P : Program} {f : FuncId} {args : Array Value} {w : World} {n : Nat} {v : Value}
    (h : Calls P f args (w.drewN n) fun e w' => e = .returned v ∧ w.drewN n = w') : Calls P f args (w.drewN n) fun e w'' => e = .returned v ∧ ∃ m, w'' = w.drewN m :=
  h.mono fun _ _ ⟨he, hm⟩ => ⟨he, n, hm.symm⟩

theorem Drawn.refl (w : World) : Drawn w w := ⟨0, rfl⟩
theorem Drawn.trans {w w1 w2 : World} (h : Drawn w w1) (h' : Drawn w1 w2) : Drawn w w2 := by
  obtain ⟨d, rfl⟩ := h
  obtain ⟨e, rfl⟩ := h'
  exact ⟨d + e, World.drewN_drewN _ _ _⟩
theorem Drawn.prs {w w' : World} {A : Option Addr} {n c : Nat} {L : List Pr} (h : Drawn w w') (hp : Prs w A n c L) : Prs w' A n c L := by
  obtain ⟨d, rfl⟩ := h
  exact hp

end Go.Proofs.Ythcchaglloggjaa

namespace Go.Proofs.Ythcchaglloggjaa
open Go.RowKit
set_option linter.unusedVariables false
set_option maxRecDepth 100000

theorem ok_zero (L : List Pr) : okAt L 0 = fairB (gt L 0) := by simp [okAt]
theorem ok_succ (L : List Pr) (k : Nat) : okAt L (k + 1) = (fairB (gt L (k + 1)) && ltB (gt L k).1 (gt L (k + 1)).1) := by simp [okAt]

end Go.Proofs.Ythcchaglloggjaa

namespace Go.Proofs.Ythcchaglloggjaa
open Go.RowKit
set_option linter.unusedVariables false
set_option maxRecDepth 100000

theorem below_drewN {B : Nat} {w w' : World} (h : Below B w w') (k : Nat) : Below B w (w'.drewN k) := ⟨h.os, h.tape, h.output, h.size, h.block⟩

end Go.Proofs.Ythcchaglloggjaa

namespace Go.Proofs.Ythcchaglloggjaa
open Go.RowKit
set_option linter.unusedVariables false
set_option maxRecDepth 100000

theorem Try.infoPair : (Try.prog.info? 91).map (fun i => (i.zero, i.size, i.bytes)) = some (some (.agg #[.slice none 0 0, .slice none 0 0]), 2, 48) := by kernel_rfl

/-- Cells that read as pairs. -/
def Reads (w : World) (xs : List Value) (L : List Pr) : Prop :=
  xs.length = L.length * 2 ∧ ∀ j, j < L.length → ∃ A n c B m d, xs[j * 2]? = some (.slice A n c) ∧ xs[j * 2 + 1]? = some (.slice B m d) ∧ Byt w A n (gt L j).1 ∧ Byt w B m (gt L j).2

theorem reads_nil (w : World) : Reads w [] [] := ⟨rfl, fun j hj => by cases hj⟩
theorem gt_left {L M : List Pr} {j : Nat} (h : j < L.length) : gt (L ++ M) j = gt L j := by
  unfold gt
  simp [List.getD_eq_getElem?_getD, List.getElem?_append_left h]
theorem gt_right {L M : List Pr} {j : Nat} (h : L.length ≤ j) : gt (L ++ M) j = gt M (j - L.length) := by
  unfold gt
  simp [List.getD_eq_getElem?_getD, List.getElem?_append_right h]
theorem Reads.append {w : World} {xs ys : List Value} {L M : List Pr} (h : Reads w xs L) (h' : Reads w ys M) : Reads w (xs ++ ys) (L ++ M) := by
  obtain ⟨h1, h2⟩ := h
  obtain ⟨h3, h4⟩ := h'
  refine ⟨by simp; omega, fun j hj => ?_⟩
  by_cases hl : j < L.length
  · obtain ⟨A, n, c, B, m, d, e1, e2, e3, e4⟩ := h2 j hl
    rw [List.getElem?_append_left (by omega), List.getElem?_append_left (by omega), gt_left hl]
    exact ⟨A, n, c, B, m, d, e1, e2, e3, e4⟩
  · obtain ⟨A, n, c, B, m, d, e1, e2, e3, e4⟩ := h4 (j - L.length) (by simp at hj; omega)
    rw [List.getElem?_append_right (by omega), List.getElem?_append_right (by omega), gt_right (by omega), show j * 2 - xs.length = (j - L.length) * 2 by omega, show j * 2 + 1 - xs.length = (j - L.length) * 2 + 1 by omega]
    exact ⟨A, n, c, B, m, d, e1, e2, e3, e4⟩
theorem Reads.below {w w' : World} {xs : List Value} {L : List Pr} (h : Reads w xs L) (hb : Below w.heap.size w w') : Reads w' xs L :=
  ⟨h.1, fun j hj => by
    obtain ⟨A, n, c, B, m, d, e1, e2, e3, e4⟩ := h.2 j hj
    exact ⟨A, n, c, B, m, d, e1, e2, e3.below hb, e4.below hb⟩⟩
theorem Reads.one {w : World} {xs : List Value} {L : List Pr} (h : Reads w xs L) : ∀ u ∈ xs, u.oneCell' = true := by
  intro u hu
  obtain ⟨i, hi, rfl⟩ := List.getElem_of_mem hu
  obtain ⟨A, n, c, B, m, d, e1, e2, _, _⟩ := h.2 (i / 2) (by have := h.1; omega)
  have hd : i = i / 2 * 2 ∨ i = i / 2 * 2 + 1 := by omega
  rcases hd with hd | hd
  · rw [← hd, List.getElem?_eq_getElem hi] at e1
    injection e1 with e1
    rw [e1]
    rfl
  · rw [← hd, List.getElem?_eq_getElem hi] at e2
    injection e2 with e2
    rw [e2]
    rfl
theorem reads_one {w : World} {A B : Option Addr} {n m : Nat} (c d : Nat) {p : Pr} (h : Byt w A n p.1) (h' : Byt w B m p.2) : Reads w [.slice A n c, .slice B m d] [p] := by
  refine ⟨rfl, fun j hj => ?_⟩
  obtain rfl : j = 0 := by simp at hj; omega
  exact ⟨A, n, c, B, m, d, rfl, rfl, h, h'⟩

/-- What a slice of pairs holds, as cells. -/
theorem Prs.cells {w : World} {A : Option Addr} {n c : Nat} {L : List Pr} (h : Prs w A n c L) :
    ∃ xs, Reads w xs L ∧ xs.length = n * 2 ∧ ∀ a, A = some a → ∀ j u, xs[j]? = some u → w.cell? (a.add j) = some u := by
  obtain ⟨h1, h2, h3, h4, h5⟩ := h
  rcases Nat.eq_zero_or_pos n with h0 | h0
  · subst h0
    rw [List.length_eq_zero_iff] at h1
    subst h1
    exact ⟨[], reads_nil w, rfl, fun a _ j u hu => by simp at hu⟩
  · obtain ⟨b, o, rfl, hb, hj⟩ := h5 h0
    refine ⟨(List.range (n * 2)).map fun j => (w.cell? ⟨b, o + j, none⟩).getD (.bool false), ⟨by simp; omega, fun j hl => ?_⟩, by simp, fun a e j u hu => ?_⟩
    · obtain ⟨A, m, c', B, m', d, e1, e2, e3, e4⟩ := hj j (by omega)
      refine ⟨A, m, c', B, m', d, ?_, ?_, e3, e4⟩
      · rw [List.getElem?_map, List.getElem?_range (by omega)]
        simp [e1]
      · rw [List.getElem?_map, List.getElem?_range (by omega)]
        simp [← Nat.add_assoc, e2]
    · injection e with e
      subst e
      rw [List.getElem?_map] at hu
      obtain ⟨i, hi, rfl⟩ := Option.map_eq_some_iff.1 hu
      obtain ⟨hi1, hi2⟩ := List.getElem?_eq_some_iff.1 hi
      simp at hi1 hi2
      subst hi2
      rw [add_lit]
      obtain ⟨A, m, c', B, m', d, e1, e2, _, _⟩ := hj (j / 2) (by omega)
      have hd : j = j / 2 * 2 ∨ j = j / 2 * 2 + 1 := by omega
      rcases hd with hd | hd
      · rw [← hd] at e1
        rw [e1]
        rfl
      · rw [show o + j / 2 * 2 + 1 = o + j by omega] at e2
        rw [e2]
        rfl

/-- What a slice leads to, if to anything, lies in block N or behind it. -/
def New (N : Nat) (A : Option Addr) : Prop := ∀ a, A = some a → N ≤ a.block

/-- A row of one's own is a slice of pairs. -/
theorem own_prs {w : World} {N n : Nat} {v : Value} {xs : List Value} {L : List Pr} (h : w.ownsRow N 91 2 v n xs) (hr : Reads w xs L) : ∃ A c, v = .slice A n c ∧ Prs w A n c L ∧ New N A := by
  have hl : L.length = n := by have := h.1; have := hr.1; omega
  rcases h.2 with ⟨rfl, rfl⟩ | ⟨g, cap, cur, rfl, hB, hh, hc1, hc2, _⟩
  · exact ⟨none, 0, rfl, ⟨hl, Nat.le_refl _, Nat.zero_le _, fun _ => rfl, fun h0 => absurd h0 (by omega)⟩, fun a e => by cases e⟩
  · refine ⟨_, _, rfl, ⟨hl, hc1, hc2, (fun e => by cases e), fun h0 => ⟨g, 0, rfl, (Array.getElem?_eq_some_iff.1 hh).1, fun j hj => ?_⟩⟩, fun a e => by injection e with e; subst e; exact hB⟩
    obtain ⟨A, m, c, B, m', d, e1, e2, e3, e4⟩ := hr.2 j (by omega)
    refine ⟨A, m, c, B, m', d, ?_, ?_, e3, e4⟩
    · have := h.cells (g := g) rfl _ _ e1
      rwa [add_lit] at this
    · have := h.cells (g := g) rfl _ _ e2
      rwa [add_lit, ← Nat.add_assoc] at this

/-- What a function that makes a row leaves. -/
def Made (w : World) (L : List Pr) (e : Ending) (w' : World) : Prop := ∃ A n c, e = .returned (.slice A n c) ∧ Prs w' A n c L ∧ Below w.heap.size w w'

theorem del_step (L : List Pr) (k : List UInt8) {j : Nat} (h : j < L.length) : delL (L.take (j + 1)) k = if sameB (gt L j).1 k then delL (L.take j) k else delL (L.take j) k ++ [gt L j] := by
  unfold delL
  rw [List.take_succ_eq_append_getElem h, List.filter_append, gt_eq h]
  cases hs : sameB L[j].1 k <;> simp [hs]

/-- Where the loop that puts together what is left has come to. -/
def DelInv (w : World) (L : List Pr) (k : List UInt8) (j : Nat) (v : Value) (wr : World) : Prop :=
  ∃ m xs, m ≤ j ∧ wr.ownsRow w.heap.size 91 2 v m xs ∧ Reads w xs (delL (L.take j) k) ∧ Below w.heap.size w wr

theorem two_cells {w : World} {x y : Value} {T : TypeId} : ∀ j u, [x, y][j]? = some u → (w.alloc (.cells #[x, y] T)).cell? ((⟨w.heap.size, 0, none⟩ : Addr).add j) = some u := by
  intro j u hu
  rcases j with _ | _ | j
  · simp at hu; subst hu; simp [Addr.add]
  · simp at hu; subst hu; simp [Addr.add]
  · simp at hu

end Go.Proofs.Ythcchaglloggjaa

namespace Go.Proofs.Ythcchaglloggjaa
open Go.RowKit
set_option linter.unusedVariables false
set_option maxRecDepth 100000

/-- append of pairs that could be read at some time, nil included, to a row of one's own. -/
theorem wpList_append_prs {w w0 : World} {ops : Array Oper} {rest : List Oper} {o : Oper} {a : Act} {Q : Exit → Act → World → Prop} (hgd : o.guard = none) (s x : Operand)
    (ho : o.op = .call { callee := .builtin .append, args := #[s, x], argTypes := #[43, 43] })
    (base : Nat) (v : Value) (n : Nat) (xs : List Value) (hs : a.eval s = v) (hown : w.ownsRow base 91 2 v n xs)
    (A : Option Addr) (m c : Nat) (L : List Pr) (hx : a.eval x = .slice A m c) (hp : Prs w0 A m c L) (hb : Below w0.heap.size w0 w) (h63 : n + m ≤ 3000) (hbase : base ≤ w.heap.size)
    (h : ∀ v' w' ys, Reads w0 ys L → w'.ownsRow base 91 2 v' (n + m) (xs ++ ys) → w.grownBy w' v.ownBlock → wpList Try.prog ops Q rest (a.put o.dst v') w') :
    wpList Try.prog ops Q (o :: rest) a w := by
  obtain ⟨i0, hi, hz0, hz1, hz2⟩ := info_parts Try.infoPair
  obtain ⟨ys, hr, hl, hc⟩ := hp.cells
  cases A with
  | none =>
    obtain rfl : c = 0 := hp.2.2.2.1 rfl
    obtain rfl : m = 0 := Nat.le_zero.1 hp.2.1
    obtain rfl : ys = [] := List.eq_nil_of_length_eq_zero (by omega)
    refine wpList_append_own_none (w := w) hgd s x _ ho base 91 i0 2 Try.underlying43 hi v n xs hs hown hx ?_
    exact h v w [] hr (by simpa using hown) (World.grownBy.refl _ _)
  | some ad =>
    refine wpList_append_own w hgd s x _ ho base 91 i0 (.agg #[.slice none 0 0, .slice none 0 0]) 2 48 Try.underlying43 hi hz0 hz1 hz2 rfl (by decide) v n xs hs hown ad m c ys hx hl (fun j u hu => ?_) hr.one (by unfold maxLen; omega) (by omega) hbase ?_
    · have hcell := hc ad rfl j u hu
      have hlt := World.block_lt_of_cell? w0 _ hcell
      exact (hb.cell hlt).trans hcell
    intro v' w' h1 h2 _
    exact h v' w' ys hr h1 h2

theorem own_below {w0 w w' : World} {v : Value} {n : Nat} {xs : List Value} {e s : Nat} (hb : Below w0.heap.size w0 w) (ho : w.ownsRow w0.heap.size e s v n xs) (hg : w.grownBy w' v.ownBlock) : Below w0.heap.size w0 w' :=
  hb.grown hg hb.size (fun k hk => (ho.lt k hk).1)

theorem take_len {L : List Pr} {n : Nat} (h : n ≤ L.length) : (L.take n).length = n := by simp; omega

theorem rowl_len {L : List Pr} {j : Nat} (h : j ≤ L.length) : (rowL (L.take j)).length ≤ j := (row_fit L j h).2

/-- Where the loop that makes a row of any pairs has come to. -/
def RowInv (w : World) (L : List Pr) (j : Nat) (v : Value) (wr : World) : Prop :=
  ∃ A m c, v = .slice A m c ∧ Prs wr A m c (rowL (L.take j)) ∧ Below w.heap.size w wr

theorem small_fit {L : List Pr} (h : Fit L) : Small L := by
  intro p hp
  have := h.2 p hp
  unfold fairB mayB at this
  simp at this
  omega

end Go.Proofs.Ythcchaglloggjaa

namespace Go.Proofs.Ythcchaglloggjaa
open Go.RowKit
set_option linter.unusedVariables false
set_option maxRecDepth 100000

theorem Try.infoU8 : (Try.prog.info? 5).map (fun i => (i.zero, i.size, i.bytes)) = some (some (.int .u8 0), 1, 1) := by kernel_rfl

def cellsB (l : List UInt8) : List Value := l.map fun u => Value.int .u8 (u.toNat : Int)

theorem New.mono {N M : Nat} {A : Option Addr} (h : New N A) (hm : M ≤ N) : New M A := fun a e => Nat.le_trans hm (h a e)

theorem byt_own {w : World} {B : Nat} {e : TypeId} {v : Value} {n : Nat} {l : List UInt8} (h : w.ownsRow B e 1 v n (cellsB l)) : ∃ A c, v = .slice A n c ∧ Byt w A n l ∧ New B A := by
  have hl : l.length = n := by have := h.1; simpa [cellsB] using this
  rcases h.2 with ⟨rfl, rfl⟩ | ⟨g, cap, cur, rfl, hB, hh, _⟩
  · exact ⟨none, 0, rfl, ⟨hl, fun h0 => absurd h0 (by omega)⟩, fun a e => by cases e⟩
  · refine ⟨_, _, rfl, ⟨hl, fun h0 => ⟨_, rfl, (Array.getElem?_eq_some_iff.1 hh).1, fun j hj => ?_⟩⟩, fun a e => by injection e with e; subst e; exact hB⟩
    exact h.cells (g := g) rfl j _ (by simp [cellsB, List.getElem?_eq_getElem hj])

/-- What Clone leaves. -/
def Cloned (w : World) (n : Nat) (l : List UInt8) (e : Ending) (w' : World) : Prop := ∃ A c, e = .returned (.slice A n c) ∧ Byt w' A n l ∧ New w.heap.size A ∧ Below w.heap.size w w'

set_option maxHeartbeats 1000000 in
theorem clone_some {w : World} (a : Addr) {n : Nat} (c : Nat) {l : List UInt8} (h : Byt w (some a) n l) (hn : n ≤ 1000) :
    Calls Try.prog 43 #[.slice (some a) n c] w (Cloned w n l) := by
  obtain ⟨i0, hi, hz0, hz1, hz2⟩ := info_parts Try.infoU8
  have hq : ∀ (w : World) (a : Option Addr) (n c n' c' : Nat), (binOp .eql 42 (.slice a n c) (.slice none n' c')).run Try.prog w = .ok (.bool a.isNone) w := fun w a n c n' c' => Lib.run_eql_slice_nil w _ _ a n c n' c' Try.underlying42
  have H := Lib.hid h
  clear h
  go_enter Try.func43, Try.ntmps43
  go_wp2_with (at_builtin; refine wpList_append_own _ rfl _ _ 42 rfl w.heap.size 5 i0 (.int .u8 0) 1 1 Try.underlying42 hi hz0 hz1 hz2 rfl (by decide) _ _ _ rfl (World.ownsRow_made w #[] 0 (Nat.le_refl _) (Nat.zero_le _) rfl) a n c (cellsB l) rfl ?q1 ?q2 ?q3 ?q4 ?q5 ?q6 ?_)
  case q1 => simp [cellsB, H.out.1]
  case q2 =>
    intro j u hj
    have hl : j < l.length := by
      have := (List.getElem?_eq_some_iff.1 hj).1
      simpa [cellsB] using this
    obtain ⟨a', e, _, hc⟩ := (H.out.alloc (.cells #[] 5)).2 (by have := H.out.1; omega)
    injection e with e
    subst e
    rw [hc j hl]
    simp [cellsB, List.getElem?_eq_getElem hl] at hj
    rw [hj]
  case q3 =>
    intro u hu
    obtain ⟨x, _, rfl⟩ := List.mem_map.1 hu
    rfl
  case q4 => unfold maxLen; omega
  case q5 => omega
  case q6 => simp
  intro v' w1 hown hgrow hnil
  clear hnil
  go_wp2
  go_ret
  obtain ⟨A, c', rfl, hb, hN⟩ := byt_own hown
  exact ⟨A, c', rfl, hb, hN, ((Below.refl _ w).alloc (Nat.le_refl _) _).grown hgrow (by simp) (by intro k hk; simp [Value.ownBlock] at hk; omega)⟩

set_option maxHeartbeats 400000 in
theorem clone_nil {w : World} {n : Nat} (c : Nat) {l : List UInt8} (h : Byt w none n l) :
    Calls Try.prog 43 #[.slice none n c] w (Cloned w n l) := by
  have hq : ∀ (w : World) (a : Option Addr) (n c n' c' : Nat), (binOp .eql 42 (.slice a n c) (.slice none n' c')).run Try.prog w = .ok (.bool a.isNone) w := fun w a n c n' c' => Lib.run_eql_slice_nil w _ _ a n c n' c' Try.underlying42
  have h0 : n = 0 := by
    rcases Nat.eq_zero_or_pos n with h0 | h0
    · exact h0
    · obtain ⟨a, e, _⟩ := h.2 h0
      cases e
  subst h0
  have H := Lib.hid h
  clear h
  go_enter Try.func43, Try.ntmps43
  go_wp2
  go_ret
  exact ⟨none, 0, rfl, H.out, (fun a e => by cases e), Below.refl _ _⟩

theorem clone_any {w : World} {A : Option Addr} {n : Nat} (c : Nat) {l : List UInt8} (h : Byt w A n l) (hn : n ≤ 1000) :
    Calls Try.prog 43 #[.slice A n c] w (Cloned w n l) := by
  cases A with
  | none => exact clone_nil c h
  | some a => exact clone_some a c h hn

/-- What Grow of nothing leaves. -/
def Grown (w : World) (e : Ending) (w' : World) : Prop := ∃ v, e = .returned v ∧ w'.ownsRow w.heap.size 91 2 v 0 [] ∧ Below w.heap.size w w'

end Go.Proofs.Ythcchaglloggjaa

namespace Go.Proofs.Ythcchaglloggjaa
open Go.RowKit
set_option linter.unusedVariables false
set_option maxRecDepth 100000

/-- The sum, and the one list, of the first pieces. -/
def sumN (f : Nat → Nat) : Nat → Nat
  | 0 => 0
  | j + 1 => sumN f j + f j
def catL (f : Nat → List Pr) : Nat → List Pr
  | 0 => []
  | j + 1 => catL f j ++ f j
theorem sum_mono (f : Nat → Nat) {i j : Nat} (h : i ≤ j) : sumN f i ≤ sumN f j := by
  induction h with
  | refl => exact Nat.le_refl _
  | step h ih => exact Nat.le_trans ih (Nat.le_add_right _ _)

/-- Pieces: cells of block b, each a slice of pairs that can be read. -/
def Pieces (w : World) (b m : Nat) (A : Nat → Option Addr) (n c : Nat → Nat) (L : Nat → List Pr) : Prop :=
  b < w.heap.size ∧ ∀ j, j < m → w.cell? ⟨b, j, none⟩ = some (.slice (A j) (n j) (c j)) ∧ Prs w (A j) (n j) (c j) (L j)

theorem Pieces.below {w w' : World} {b m : Nat} {A : Nat → Option Addr} {n c : Nat → Nat} {L : Nat → List Pr} (h : Pieces w b m A n c L) (hb : Below w.heap.size w w') : Pieces w' b m A n c L :=
  ⟨Nat.lt_of_lt_of_le h.1 hb.size, fun j hj => ⟨(hb.cell (p := ⟨b, j, none⟩) h.1).trans (h.2 j hj).1, (h.2 j hj).2.below hb⟩⟩

/-- What Concat leaves: a row of its own. -/
def Catted (w : World) (L : List Pr) (e : Ending) (w' : World) : Prop := ∃ v n xs, e = .returned v ∧ w'.ownsRow w.heap.size 91 2 v n xs ∧ Reads w xs L ∧ Below w.heap.size w w'

def CatInv (w : World) (L : Nat → List Pr) (s j : Nat) (v : Value) (wr : World) : Prop :=
  ∃ xs, wr.ownsRow w.heap.size 91 2 v s xs ∧ Reads w xs (catL L j) ∧ Below w.heap.size w wr

end Go.Proofs.Ythcchaglloggjaa

namespace Go.Proofs.Ythcchaglloggjaa
open Go.RowKit
set_option linter.unusedVariables false
set_option maxRecDepth 100000

/-- A slice of bytes that reads as a list, and does not lie in block g. -/
def BytF (g : Nat) (w : World) (A : Option Addr) (n : Nat) (l : List UInt8) : Prop := Byt w A n l ∧ ∀ a, 0 < n → A = some a → a.block ≠ g
theorem BytF.below {g : Nat} {w w' : World} {A : Option Addr} {n : Nat} {l : List UInt8} (h : BytF g w A n l) (hb : Below w.heap.size w w') : BytF g w' A n l := ⟨h.1.below hb, h.2⟩
theorem BytF.set {g : Nat} {w : World} {A : Option Addr} {n : Nat} {l : List UInt8} (h : BytF g w A n l) (k : Nat) (u : Value) : BytF g (w.setCell ⟨g, k, none⟩ u) A n l :=
  ⟨⟨h.1.1, fun h0 => by
    obtain ⟨a, e, hb, hj⟩ := h.1.2 h0
    exact ⟨a, e, by simpa [World.setCell] using hb, fun j hl => (World.cell?_setCell_other w ⟨g, k, none⟩ _ u (fun e' => h.2 a h0 e (by rw [← add_block a j, ← e']))).trans (hj j hl)⟩⟩, h.2⟩
theorem Byt.f {g : Nat} {w : World} {A : Option Addr} {n : Nat} {l : List UInt8} (h : Byt w A n l) (hg : w.heap.size ≤ g) : BytF g w A n l :=
  ⟨h, fun a h0 e => by
    obtain ⟨a', e', hb, _⟩ := h.2 h0
    rw [e] at e'
    injection e' with e'
    subst e'
    omega⟩
theorem Byt.new {g : Nat} {w : World} {A : Option Addr} {n : Nat} {l : List UInt8} (h : Byt w A n l) (hg : New (g + 1) A) : BytF g w A n l :=
  ⟨h, fun a h0 e => by have := hg a e; omega⟩

/-- Cells that read as pairs, none of whose bytes lie in block g. -/
def ReadsF (g : Nat) (w : World) (xs : List Value) (L : List Pr) : Prop :=
  xs.length = L.length * 2 ∧ ∀ j, j < L.length → ∃ A n c B m d, xs[j * 2]? = some (.slice A n c) ∧ xs[j * 2 + 1]? = some (.slice B m d) ∧ BytF g w A n (gt L j).1 ∧ BytF g w B m (gt L j).2
theorem ReadsF.reads {g : Nat} {w : World} {xs : List Value} {L : List Pr} (h : ReadsF g w xs L) : Reads w xs L :=
  ⟨h.1, fun j hj => by
    obtain ⟨A, n, c, B, m, d, e1, e2, e3, e4⟩ := h.2 j hj
    exact ⟨A, n, c, B, m, d, e1, e2, e3.1, e4.1⟩⟩
theorem Reads.f {g : Nat} {w : World} {xs : List Value} {L : List Pr} (h : Reads w xs L) (hg : w.heap.size ≤ g) : ReadsF g w xs L :=
  ⟨h.1, fun j hj => by
    obtain ⟨A, n, c, B, m, d, e1, e2, e3, e4⟩ := h.2 j hj
    exact ⟨A, n, c, B, m, d, e1, e2, e3.f hg, e4.f hg⟩⟩
theorem ReadsF.below {g : Nat} {w w' : World} {xs : List Value} {L : List Pr} (h : ReadsF g w xs L) (hb : Below w.heap.size w w') : ReadsF g w' xs L :=
  ⟨h.1, fun j hj => by
    obtain ⟨A, n, c, B, m, d, e1, e2, e3, e4⟩ := h.2 j hj
    exact ⟨A, n, c, B, m, d, e1, e2, e3.below hb, e4.below hb⟩⟩
theorem ReadsF.set {g : Nat} {w : World} {xs : List Value} {L : List Pr} (h : ReadsF g w xs L) (k : Nat) (u : Value) : ReadsF g (w.setCell ⟨g, k, none⟩ u) xs L :=
  ⟨h.1, fun j hj => by
    obtain ⟨A, n, c, B, m, d, e1, e2, e3, e4⟩ := h.2 j hj
    exact ⟨A, n, c, B, m, d, e1, e2, e3.set k u, e4.set k u⟩⟩
theorem ReadsF.put {g : Nat} {w : World} {xs : List Value} {L : List Pr} (h : ReadsF g w xs L) {j : Nat} (hj : j < L.length) {A B : Option Addr} {n m : Nat} (c d : Nat) (ha : BytF g w A n (gt L j).1) (hb : BytF g w B m (gt L j).2) :
    ReadsF g w ((xs.set (j * 2) (.slice A n c)).set (j * 2 + 1) (.slice B m d)) L := by
  have hl := h.1
  refine ⟨by simp [hl], fun i hi => ?_⟩
  by_cases e : i = j
  · subst e
    refine ⟨A, n, c, B, m, d, ?_, ?_, ha, hb⟩
    · rw [List.getElem?_set_ne (by omega), List.getElem?_set_self (by omega)]
    · rw [List.getElem?_set_self (by simp; omega)]
  · obtain ⟨A, n, c, B, m, d, e1, e2, e3, e4⟩ := h.2 i hi
    refine ⟨A, n, c, B, m, d, ?_, ?_, e3, e4⟩
    · rw [List.getElem?_set_ne (by omega), List.getElem?_set_ne (by omega), e1]
    · rw [List.getElem?_set_ne (by omega), List.getElem?_set_ne (by omega), e2]

/-- Where the loop that copies each pair has come to. -/
def ToldInv (w : World) (g n cap : Nat) (L : List Pr) (wr : World) : Prop :=
  ∃ xs, wr.ownsRow w.heap.size 91 2 (.slice (some ⟨g, 0, none⟩) n cap) n xs ∧ ReadsF g wr xs L ∧ Below w.heap.size w wr ∧ w.heap.size ≤ g ∧ g < wr.heap.size

theorem own_keep {w w' : World} {base e size n : Nat} {v : Value} {xs : List Value} (h : w.ownsRow base e size v n xs) (hb : Below w.heap.size w w') : w'.ownsRow base e size v n xs :=
  h.kept (row := none) ⟨hb.os, hb.tape, hb.output, hb.size, fun k hk _ => hb.block k hk⟩ (by cases hv : v.ownBlock <;> simp)
theorem box_0 (w : World) (x y : Value) (T : TypeId) : (w.alloc (.cells #[x, y] T)).cell? ⟨w.heap.size, 0, none⟩ = some x := by simp
theorem box_1 (w : World) (x y : Value) (T : TypeId) : (w.alloc (.cells #[x, y] T)).cell? ⟨w.heap.size, 1, none⟩ = some y := by simp

theorem undrew {B : Nat} {w w' : World} (h : Below B w.drew w') : Below B w w' := ⟨h.os, h.tape, h.output, h.size, h.block⟩

/-- What one round of that loop leaves. -/
theorem told_round {w wr w3 w4 : World} {g k cap j n1 m1 x2 x3 : Nat} {M : List Pr} {ys : List Value} {A2 B2 : Option Addr} (c1 d1 : Nat) (hj : j < M.length)
    (hown : wr.ownsRow w.heap.size 91 2 (.slice (some ⟨g, 0, none⟩) k cap) k ys) (hr : ReadsF g wr ys M) (hb : Below w.heap.size w wr) (hg1 : w.heap.size ≤ g) (hg2 : g < wr.heap.size)
    (hb3 : Below wr.heap.size wr w3) (p2 : Byt w3 A2 n1 (gt M j).1) (n2 : New (g + 1) A2) (hb4 : Below w3.heap.size w3 w4) (p3 : Byt w4 B2 m1 (gt M j).2) (n3 : New (g + 1) B2) :
    ToldInv w g k cap M ((w4.setCell ⟨g, j * 2, none⟩ (.slice A2 n1 x2)).setCell ⟨g, j * 2 + 1, none⟩ (.slice B2 m1 x3)) := by
  have hb34 : Below wr.heap.size wr w4 := hb3.trans (hb4.mono hb3.size)
  have o4 := own_keep hown hb34
  have r4 := hr.below hb34
  have r5 := (r4.set (j * 2) (.slice A2 n1 x2)).set (j * 2 + 1) (.slice B2 m1 x3)
  have q2 : BytF g _ A2 n1 (gt M j).1 := (((p2.below hb4).new n2).set (j * 2) (.slice A2 n1 x2)).set (j * 2 + 1) (.slice B2 m1 x3)
  have q3 : BytF g _ B2 m1 (gt M j).2 := ((p3.new n3).set (j * 2) (.slice A2 n1 x2)).set (j * 2 + 1) (.slice B2 m1 x3)
  refine ⟨_, ((o4.stored (j * 2) (.slice A2 n1 x2)).1.stored (j * 2 + 1) (.slice B2 m1 x3)).1, r5.put hj x2 x3 q2 q3, ?_, hg1, ?_⟩
  · exact ((hb.trans (hb34.mono hb.size)).setCell hg1 _).setCell hg1 _
  · have := hb34.size
    simp [World.setCell]
    omega

end Go.Proofs.Ythcchaglloggjaa

namespace Go.Proofs.Ythcchaglloggjaa
open Go.RowKit
set_option linter.unusedVariables false
set_option maxRecDepth 100000

def pick3 {α : Type} (x y z : α) : Nat → α
  | 0 => x
  | 1 => y
  | _ => z

/-- What Delete leaves. -/
def Deld (w : World) (L : List Pr) (b : Bool) (e : Ending) (w' : World) : Prop := ∃ A n c, e = .returned (.tuple #[.slice A n c, .bool b]) ∧ Prs w' A n c L ∧ Below w.heap.size w w'
/-- What Put leaves. -/
def Putted (w : World) (L : List Pr) (b : Bool) (e : Ending) (w' : World) : Prop := ∃ A n c, e = .returned (.tuple #[.slice A n c, .bool b, .nilIface]) ∧ Prs w' A n c L ∧ Below w.heap.size w w'

theorem small_take {L : List Pr} (h : Small L) (i : Nat) : Small (L.take i) := fun p hp => h p (List.mem_of_mem_take hp)
theorem small_drop {L : List Pr} (h : Small L) (i : Nat) : Small (L.drop i) := fun p hp => h p (List.mem_of_mem_drop hp)
theorem small_app {L M : List Pr} (h : Small L) (h' : Small M) : Small (L ++ M) := fun p hp => (List.mem_append.1 hp).elim (h p) (h' p)

/-- One, two, three pieces in a new block. -/
theorem pieces1 {w : World} {A : Option Addr} {n c : Nat} {L : List Pr} (h : Prs w A n c L) (T : TypeId) :
    Pieces (w.alloc (.cells #[.slice A n c] T)) w.heap.size 1 (pick3 A A A) (pick3 n n n) (pick3 c c c) (pick3 L L L) := by
  refine ⟨by simp, fun j hj => ?_⟩
  obtain rfl : j = 0 := by omega
  exact ⟨by simp [pick3], h.alloc _⟩
theorem pieces2 {w : World} {A B : Option Addr} {n c m d : Nat} {L M : List Pr} (h : Prs w A n c L) (h' : Prs w B m d M) (T : TypeId) :
    Pieces (w.alloc (.cells #[.slice A n c, .slice B m d] T)) w.heap.size 2 (pick3 A B B) (pick3 n m m) (pick3 c d d) (pick3 L M M) := by
  refine ⟨by simp, fun j hj => ?_⟩
  obtain rfl | rfl : j = 0 ∨ j = 1 := by omega
  · exact ⟨by simp [pick3], h.alloc _⟩
  · exact ⟨by simp [pick3], h'.alloc _⟩
theorem pieces3 {w : World} {A B C : Option Addr} {n c m d o q : Nat} {L M N : List Pr} (h : Prs w A n c L) (h' : Prs w B m d M) (h'' : Prs w C o q N) (T : TypeId) :
    Pieces (w.alloc (.cells #[.slice A n c, .slice B m d, .slice C o q] T)) w.heap.size 3 (pick3 A B C) (pick3 n m o) (pick3 c d q) (pick3 L M N) := by
  refine ⟨by simp, fun j hj => ?_⟩
  obtain rfl | rfl | rfl : j = 0 ∨ j = 1 ∨ j = 2 := by omega
  · exact ⟨by simp [pick3], h.alloc _⟩
  · exact ⟨by simp [pick3], h'.alloc _⟩
  · exact ⟨by simp [pick3], h''.alloc _⟩

/-- One pair in a new block. -/
theorem one_prs {w : World} {C D : Option Addr} {o p : Nat} (q r : Nat) {k v : List UInt8} (h : Byt w C o k) (h' : Byt w D p v) (T : TypeId) :
    Prs (w.alloc (.cells #[.slice C o q, .slice D p r] T)) (some ⟨w.heap.size, 0, none⟩) 1 1 [(k, v)] := by
  refine ⟨rfl, Nat.le_refl _, by unfold maxLen; omega, (fun e => by cases e), fun _ => ⟨w.heap.size, 0, rfl, by simp, fun j hj => ?_⟩⟩
  obtain rfl : j = 0 := by omega
  exact ⟨C, o, q, D, p, r, by simp, by simp, h.alloc _, h'.alloc _⟩

end Go.Proofs.Ythcchaglloggjaa

namespace Go.Proofs.Ythcchaglloggjaa
open Go.RowKit
set_option linter.unusedVariables false
set_option maxRecDepth 100000

end Go.Proofs.Ythcchaglloggjaa
