/- Errors as numbers: '==' of two errors, the law's Code. No condition but that a number is one of api's. Slices of bytes: what a slice reads as, string(b), bytes.Compare, key.Compare, the document's own Less and Same. Condition: what came in can be read. Rows as lists of pairs of byte lists: places, deleting, putting, and that they stay rows. Plain; no condition. A slice of pairs that reads as a list; contracts of key.May, key.Fair, row.may and the document's own May. Condition: what came in can be read. Contracts of row.Find (with slices.BinarySearchFunc and its closure) and of the document's own Find: the key's place in a row, and whether it is there; nothing that was there is changed. Condition: a row (keys rise), no longer than 1000 pairs. Contracts of what only reads pairs: the document's own Few, Is, Find and Pairs, and row.Is. Condition: what came in can be read (Find, Is: keys of at most 1000 bytes; Find: a row). Contracts of the document's own Is and of row.Is: whether pairs are a row. Condition: what came in can be read (the document's own: keys of at most 1000 bytes). Contracts of row.Is (whether pairs are a row) and of the document's own Pairs (where both read the same: true). Condition: what came in can be read. Rows of pairs of one's own, and the contract of the document's own Delete. Condition: what came in can be read; no more than 1000 pairs. Contracts of the document's own Put and Row. Condition: what came in can be read; no more than 1000 pairs; keys of at most 1000 bytes. Contracts of bytes.Clone, of slices.Grow of nothing, and of slices.Concat of pairs: new memory; nothing that was there is changed. Condition: what came in can be read; no more than 3000 pairs, slices of at most 1000 bytes. The contract of slices.Concat of pairs: a row of its own, in new memory; nothing that was there is changed. Condition: what came in can be read; no more than 3 pieces, no more than 3000 pairs. The contract of package row's told: pairs as new memory; nothing that was there is changed. Condition: what came in can be read; no more than 3 pieces, no more than 3000 pairs, keys and values of at most 1000 bytes. Contracts of package row's Put and Delete. Condition: what came in can be read; a row of no more than 1000 pairs; keys and values of at most 1000 bytes. The contracts of package row's Put: what may not be is an error; else the row with the pair. Condition: what came in can be read; a row of no more than 1000 pairs; keys and values of at most 1000 bytes. -/
import Derived.Test.YtdhgogepjedonaaRows
import Derived.WalkKit
import Derived.WalkSpells
import Derived.WalkLawsBesides
import Derived.Deep.OwnRows
import Derived.LaidEql
import Derived.Lib.Hide
import Derived.Below
import Derived.Deep.QuietTactic
import Derived.BigQuiet
import Derived.Laws.IdiomStrings
import Derived.Laws.BytesArg
import Derived.Lib.Bytealg
import Derived.Lib.BytesEntry
import Derived.Laws.AppendOwn
import Derived.Laws.AppendOwnNone
import Derived.OwnWalk
import Derived.StillTailTactics
import Derived.Lib.AppendZeros
import Derived.Deep.RegionHeld3
import Derived.IntWalk
namespace Go.Proofs.Ytdhgogepjedonaa
open Go.RowKit

theorem Try.infoErr : (Try.prog.info? 42).map (fun i => i.comparable) = some true := by kernel_rfl

theorem errs_alike (depth : Nat) (a b : Int) (w : World) : (Op.equalIn (depth + 2) 36 (.iface 42 (.int .i64 a)) (.iface 42 (.int .i64 b))).run Try.prog w = .ok (a == b) w := by
  obtain ⟨i, hi, hc⟩ := Option.map_eq_some_iff.1 Try.infoErr
  have u26 := run_underlying (w := w) Try.underlying36
  simp [Op.equalIn, u26, typeInfo, hi, hc]

/-- Two errors that are numbers of api's own type are the same if the numbers are. -/
theorem eql_err (a b : Int) (w : World) : (binOp .eql 36 (.iface 42 (.int .i64 a)) (.iface 42 (.int .i64 b))).run Try.prog w = .ok (.bool (a == b)) w := by
  have h := errs_alike 9998 a b w
  simp only [binOp, Op.equal, Op.maxDepth]
  simp [h]

theorem neq_err (a b : Int) (w : World) : (binOp .neq 36 (.iface 42 (.int .i64 a)) (.iface 42 (.int .i64 b))).run Try.prog w = .ok (.bool (a != b)) w := by
  have h := errs_alike 9998 a b w
  simp only [binOp, Op.equal, Op.maxDepth]
  simp [h, bne]

theorem ret_int {k : IntKind} {a b : Int} (h : a = b) : Ending.returned (.int k a) = .returned (.int k b) := by rw [h]

/-- An error by its number; 0 is none. -/
def errV (k : Int) : Value := if k = 0 then .nilIface else .iface 42 (.int .i64 k)
theorem errV_zero : errV 0 = .nilIface := rfl
theorem errV_some {k : Int} (h : k ≠ 0) : errV k = .iface 42 (.int .i64 k) := if_neg h

end Go.Proofs.Ytdhgogepjedonaa

namespace Go.Proofs.Ytdhgogepjedonaa
open Go.RowKit
set_option linter.unusedVariables false
set_option maxRecDepth 100000

/-- A slice of bytes that reads as the list l; nil, or an empty one, reads as nothing. -/
def Byt (w : World) (A : Option Addr) (n : Nat) (l : List UInt8) : Prop :=
  l.length = n ∧ (0 < n → ∃ a : Addr, A = some a ∧ a.block < w.heap.size ∧ ∀ j (h : j < l.length), w.cell? (a.add j) = some (.int .u8 (l[j].toNat : Int)))

theorem add_block (a : Addr) (n : Nat) : (a.add n).block = a.block := by unfold Addr.add; split <;> rfl

theorem Byt.keep {w w' : World} {A : Option Addr} {n : Nat} {l : List UInt8} (h : Byt w A n l) (hs : w.heap.size ≤ w'.heap.size) (hc : ∀ p : Addr, p.block < w.heap.size → w'.cell? p = w.cell? p) : Byt w' A n l :=
  ⟨h.1, fun h0 => by
    obtain ⟨a, e, hb, hj⟩ := h.2 h0
    exact ⟨a, e, by omega, fun j hl => (hc _ (by rw [add_block]; exact hb)).trans (hj j hl)⟩⟩
theorem Byt.below {w w' : World} {A : Option Addr} {n : Nat} {l : List UInt8} (h : Byt w A n l) (hb : Below w.heap.size w w') : Byt w' A n l := h.keep hb.size fun _ hp => hb.cell hp
theorem Byt.alloc {w : World} {A : Option Addr} {n : Nat} {l : List UInt8} (h : Byt w A n l) (o : Obj) : Byt (w.alloc o) A n l :=
  h.below ((Below.refl _ _).alloc (Nat.le_refl _) _)
theorem Byt.drewN {w : World} {A : Option Addr} {n : Nat} {l : List UInt8} (h : Byt w A n l) (k : Nat) : Byt (w.drewN k) A n l := h

theorem Byt.at_ {w : World} {A : Option Addr} {n k : Nat} {l : List UInt8} (h : Byt w A n l) (hk : k < n) :
    ∃ (a : Addr) (u : UInt8) (x : Int), A = some a ∧ l.drop k = u :: l.drop (k + 1) ∧ x = u.toNat ∧ w.cell? (a.add k) = some (.int .u8 x) := by
  obtain ⟨a, e, _, hj⟩ := h.2 (by omega)
  have hl : k < l.length := by have := h.1; omega
  exact ⟨a, l[k], _, e, List.drop_eq_getElem_cons hl, rfl, hj k hl⟩

/-- string(b). -/
theorem run_str {w : World} {A : Option Addr} {n c : Nat} {l : List UInt8} (h : Byt w A n l) : (convert 31 9 (.slice A n c)).run Try.prog w = .ok (.string ⟨l.toArray⟩) w := by
  obtain ⟨rfl, h⟩ := h
  rcases A with _ | a
  · have h0 : l.length = 0 := by
      rcases Nat.eq_zero_or_pos l.length with h0 | h0
      · exact h0
      · obtain ⟨a, e, _⟩ := h h0
        cases e
    rw [List.length_eq_zero_iff] at h0
    subst h0
    exact run_convert_bytes_nil w _ _ Try.underlying31 Try.underlying5 _ _ _ Try.underlying9
  · refine run_convert_bytes_back w _ _ _ a c l Try.underlying31 Try.underlying5 Try.underlying9 fun j hj => ?_
    obtain ⟨a', e, _, hc⟩ := h (by omega)
    injection e with e
    subst e
    exact hc j hj

theorem back (l : List UInt8) : Lib.bytesOf (l.map fun u => (u.toNat : Int)) = l := by
  simp [Lib.bytesOf, Function.comp_def]

theorem run_bytes {P : Program} {w : World} {A : Option Addr} {n c : Nat} {l : List UInt8} (h : Byt w A n l) : (Extern.Bytes.bytesOf (.slice A n c)).run P w = .ok ⟨l.toArray⟩ w := by
  obtain ⟨rfl, h⟩ := h
  rcases A with _ | a
  · have h0 : l.length = 0 := by
      rcases Nat.eq_zero_or_pos l.length with h0 | h0
      · exact h0
      · obtain ⟨a, e, _⟩ := h h0
        cases e
    rw [List.length_eq_zero_iff] at h0
    subst h0
    rfl
  · have hc : ∀ j (h : j < l.length), w.cell? (a.add j) = some (.int .u8 (l[j].toNat : Int)) := fun j hj => by
      obtain ⟨a', e, _, hc⟩ := h (by omega)
      injection e with e
      subst e
      exact hc j hj
    have := Lib.run_loadBytesX (P := P) w (l.map fun u => (u.toNat : Int)) a .empty (fun j x hj => by
      obtain ⟨h1, h2⟩ := List.getElem?_eq_some_iff.1 hj
      simp at h1 h2
      subst h2
      exact hc j h1)
    rw [List.length_map, back] at this
    have he : (⟨ByteArray.empty.data ++ l.toArray⟩ : ByteArray) = ⟨l.toArray⟩ := by
      apply ByteArray.ext
      show (#[] : Array UInt8) ++ l.toArray = l.toArray
      simp
    rw [he] at this
    exact this

/-- How two stand to each other. -/
def cmpB (l k : List UInt8) : Int := Lib.compareBytes l k
theorem cmpB_three (l k : List UInt8) : cmpB l k = -1 ∨ cmpB l k = 0 ∨ cmpB l k = 1 := by
  unfold cmpB
  induction l generalizing k with
  | nil => cases k <;> simp [Lib.compareBytes]
  | cons x l ih =>
    cases k with
    | nil => simp [Lib.compareBytes]
    | cons y k =>
      unfold Lib.compareBytes
      split
      · exact .inl rfl
      · split
        · exact .inr (.inr rfl)
        · exact ih k
theorem cmpB_eq (l k : List UInt8) : cmpB l k = 0 ↔ l = k := by
  unfold cmpB
  induction l generalizing k with
  | nil => cases k <;> simp [Lib.compareBytes]
  | cons x l ih =>
    cases k with
    | nil => simp [Lib.compareBytes]
    | cons y k =>
      unfold Lib.compareBytes
      by_cases h1 : x < y
      · have : x ≠ y := UInt8.ne_of_lt h1
        simp [h1, this]
      · by_cases h2 : y < x
        · have : x ≠ y := (UInt8.ne_of_lt h2).symm
          simp [h1, h2, this]
        · have e : x = y := UInt8.le_antisymm (UInt8.not_lt.1 h2) (UInt8.not_lt.1 h1)
          simp [ih, e]
theorem cmpB_swap (l k : List UInt8) : cmpB k l = - cmpB l k := by
  unfold cmpB
  induction l generalizing k with
  | nil => cases k <;> simp [Lib.compareBytes]
  | cons x l ih =>
    cases k with
    | nil => simp [Lib.compareBytes]
    | cons y k =>
      unfold Lib.compareBytes
      by_cases h1 : x < y
      · have : ¬ y < x := fun h => UInt8.lt_asymm h h1
        simp [h1, this]
      · by_cases h2 : y < x
        · simp [h1, h2]
        · simp [h1, h2, ih]

/-- Does one stand ahead of another? -/
def ltB (l k : List UInt8) : Bool := cmpB l k == -1

theorem run_cmp {w : World} {A B : Option Addr} {n m c d : Nat} {l k : List UInt8} (h : Byt w A n l) (h' : Byt w B m k) :
    (callFunc 61 #[.slice A n c, .slice B m d]).run Try.prog w = .ok (.value (.int .i64 (cmpB l k))) w := by
  rw [run_callFunc_extern Try.func61 (by kernel_rfl) (by kernel_rfl) (by kernel_rfl) (e := Extern.BytealgCompare.compare) (by kernel_rfl)]
  have e : (Extern.BytealgCompare.compare #[.slice A n c, .slice B m d]).run Try.prog w = .ok (.int .i64 (cmpB l k)) w := by
    change Sem.run Try.prog (do pure (goInt (Extern.BytealgCompare.cmp (← Extern.Bytes.bytesOf (.slice A n c)) (← Extern.Bytes.bytesOf (.slice B m d))))) w = _
    simp only [Sem.run_bind, Sem.run_pure, run_bytes h, run_bytes h', Result.andThen]
    rw [Lib.cmp_eq]
    rfl
  rw [e]
  rfl

set_option maxHeartbeats 400000 in
theorem bcompare_any {w : World} {A B : Option Addr} {n m : Nat} (c d : Nat) {l k : List UInt8} (h : Byt w A n l) (h' : Byt w B m k) :
    Calls Try.prog 44 #[.slice A n c, .slice B m d] w fun e w' => e = .returned (.int .i64 (cmpB l k)) ∧ w = w' := by
  have h1 := run_cmp (c := c) (d := d) h h'
  clear h h'
  go_enter Try.func44, Try.ntmps44
  go_wp2
  go_ret
  exact ⟨rfl, rfl⟩

set_option maxHeartbeats 400000 in
theorem compare_any {w : World} {A B : Option Addr} {n m : Nat} (c d : Nat) {l k : List UInt8} (h : Byt w A n l) (h' : Byt w B m k) :
    Calls Try.prog 31 #[.slice A n c, .slice B m d] w fun e w' => e = .returned (.int .i64 (cmpB l k)) ∧ w = w' := by
  have h1 := Lib.hid (bcompare_any c d h h')
  clear h h'
  go_enter Try.func31, Try.ntmps31
  go_wp2_with (go_at_call 44; refine h1.out.mono ?_; rintro e w' ⟨rfl, rfl⟩)
  go_ret
  exact ⟨rfl, rfl⟩

theorem ret_bool {a b : Bool} (h : a = b) : Ending.returned (.bool a) = .returned (.bool b) := by rw [h]

/-- Are they the same? -/
def sameB (l k : List UInt8) : Bool := decide (l = k)

theorem str_eq (l k : List UInt8) : (l == k) = sameB l k := by
  unfold sameB
  by_cases h : l = k
  · simp [h]
  · simp [h]

set_option maxHeartbeats 400000 in
theorem same_any {w : World} {A B : Option Addr} {n m : Nat} (c d : Nat) {l k : List UInt8} (h : Byt w A n l) (h' : Byt w B m k) :
    Calls Try.prog 60 #[.slice A n c, .slice B m d] w fun e w' => e = .returned (.bool (sameB l k)) ∧ w = w' := by
  have h1 := run_str (c := c) h
  have h2 := run_str (c := d) h'
  clear h h'
  go_enter Try.func60, Try.ntmps60
  go_wp2
  go_ret
  exact ⟨ret_bool (str_eq l k), rfl⟩

theorem step_lt {l k : List UInt8} {u v : UInt8} {i : Nat} (h1 : l.drop i = u :: l.drop (i + 1)) (h2 : k.drop i = v :: k.drop (i + 1)) (h : (u.toNat : Int) < v.toNat) (e : cmpB l k = cmpB (l.drop i) (k.drop i)) : ltB l k = true := by
  unfold ltB
  rw [e, h1, h2]
  unfold cmpB Lib.compareBytes
  have : u < v := UInt8.lt_iff_toNat_lt.2 (by omega)
  simp [this]
theorem step_gt {l k : List UInt8} {u v : UInt8} {i : Nat} (h1 : l.drop i = u :: l.drop (i + 1)) (h2 : k.drop i = v :: k.drop (i + 1)) (h : (v.toNat : Int) < u.toNat) (e : cmpB l k = cmpB (l.drop i) (k.drop i)) : ltB l k = false := by
  unfold ltB
  rw [e, h1, h2]
  unfold cmpB Lib.compareBytes
  have : v < u := UInt8.lt_iff_toNat_lt.2 (by omega)
  have h' : ¬ u < v := fun h => UInt8.lt_asymm h this
  simp [this, h']
theorem step_eq {l k : List UInt8} {u v : UInt8} {i : Nat} (h1 : l.drop i = u :: l.drop (i + 1)) (h2 : k.drop i = v :: k.drop (i + 1)) (h : (v.toNat : Int) = u.toNat) (e : cmpB l k = cmpB (l.drop i) (k.drop i)) : cmpB l k = cmpB (l.drop (i + 1)) (k.drop (i + 1)) := by
  rw [e, h1, h2]
  have e : u = v := UInt8.toNat_inj.1 (by omega)
  subst e
  have : ¬ u < u := UInt8.lt_irrefl u
  show Lib.compareBytes _ _ = Lib.compareBytes _ _
  rw [Lib.compareBytes.eq_4]
  simp [this]
theorem step_end {l k : List UInt8} {i : Nat} (h1 : i ≤ l.length) (h2 : i ≤ k.length) (h : ¬ (i < l.length ∧ i < k.length)) (e : cmpB l k = cmpB (l.drop i) (k.drop i)) : ltB l k = decide (l.length < k.length) := by
  unfold ltB
  rw [e]
  by_cases hl : i < l.length
  · have hk : i = k.length := by omega
    subst hk
    rw [List.drop_eq_getElem_cons hl, List.drop_length]
    simp [cmpB, Lib.compareBytes]
    omega
  · have hl : i = l.length := by omega
    subst hl
    rw [List.drop_length]
    by_cases hk : l.length < k.length
    · rw [List.drop_eq_getElem_cons hk]
      simp [cmpB, Lib.compareBytes, hk]
    · rw [List.drop_eq_nil_of_le (by omega)]
      simp [cmpB, Lib.compareBytes, hk]

/-- Only draws have been made. -/
def Drawn (w w' : World) : Prop := ∃ d, w' = w.drewN d
theorem Drawn.byt {w w' : World} {A : Option Addr} {n : Nat} {l : List UInt8} (h : Drawn w w') (hb : Byt w A n l) : Byt w' A n l := by
  obtain ⟨d, rfl⟩ := h
  exact hb
theorem Drawn.more {w w' : World} (h : Drawn w w') (d : Nat) : Drawn w (w'.drewN d) := by
  obtain ⟨k, rfl⟩ := h
  exact ⟨k + d, World.drewN_drewN _ _ _⟩

set_option maxHeartbeats 1000000 in
theorem less_any {w : World} {A B : Option Addr} {n m : Nat} (c d : Nat) {l k : List UInt8} (h : Byt w A n l) (h' : Byt w B m k) (hn : n ≤ maxLen) (hm : m ≤ maxLen) :
    Calls Try.prog 33 #[.slice A n c, .slice B m d] w fun e w' => e = .returned (.bool (ltB l k)) ∧ Drawn w w' := by
  unfold maxLen at hn hm
  have H := Lib.hid h
  have H' := Lib.hid h'
  clear h h'
  go_enter Try.func33, Try.ntmps33
  go_wp2
  go_loopw [5] (fun i wr => ∃ j : Nat, j ≤ n ∧ j ≤ m ∧ i = .int .i64 j ∧ cmpB l k = cmpB (l.drop j) (k.drop j) ∧ Drawn w wr) (fun i _ => n - (intOf i).toNat)
  case atStart => exact ⟨0, Nat.zero_le _, Nat.zero_le _, rfl, rfl, 0, rfl⟩
  case round =>
    obtain ⟨j, hj1, hj2, rfl, hc, hd⟩ := hrel
    have HC := Lib.hid hc
    clear hc
    by_cases hlt : j < n ∧ j < m
    · obtain ⟨hl1, hl2⟩ := hlt
      obtain ⟨a, u, x, rfl, e1, ex, c1⟩ := (hd.byt H.out).at_ hl1
      obtain ⟨b, v, y, rfl, e2, ey, c2⟩ := (hd.byt H'.out).at_ hl2
      have E1 := Lib.hid e1
      have E2 := Lib.hid e2
      have EX := Lib.hid ex
      have EY := Lib.hid ey
      clear e1 e2 ex ey H H'
      rcases Int.lt_trichotomy x y with hxy | hxy | hxy
      · have hne : (x != y) = true := by simp; omega
        go_wp2
        go_quiet (fail)
        go_wp2
        go_quiet (fail)
        go_wp2
        go_ret
        exact ⟨ret_bool (step_lt E1.out E2.out (by rw [← EX.out, ← EY.out]; exact hxy) HC.out).symm, (hd.more _).more _⟩
      · have HXY := Lib.hid hxy
        have hne : (x != y) = false := by simp [hxy]
        clear hxy
        go_wp2
        go_quiet (fail)
        go_wp2
        go_roundw
        case rel => exact ⟨j + 1, by omega, by omega, by go_num, step_eq E1.out E2.out (by rw [← EX.out, ← EY.out]; exact HXY.out.symm) HC.out, hd.more _⟩
        case measure => simp [intOf]; omega
      · have hne : (x != y) = true := by simp; omega
        have hnl : decide (x < y) = false := by simp; omega
        go_wp2
        go_quiet (fail)
        go_wp2
        go_quiet (fail)
        go_wp2
        go_ret
        exact ⟨ret_bool (step_gt E1.out E2.out (by rw [← EX.out, ← EY.out]; exact hxy) HC.out).symm, (hd.more _).more _⟩
    · have hr : ltB l k = decide (n < m) := by
        have h1 := H.out.1
        have h2 := H'.out.1
        rw [step_end (by omega) (by omega) (by omega) HC.out, h1, h2]
      have HR := Lib.hid hr
      clear hr
      by_cases hl1 : j < n
      · have hl2 : decide (j < m) = false := by simp; omega
        go_wp2
        go_ret
        exact ⟨ret_bool (by rw [HR.out]), hd⟩
      · go_wp2
        go_ret
        exact ⟨ret_bool (by rw [HR.out]), hd⟩
end Go.Proofs.Ytdhgogepjedonaa

namespace Go.Proofs.Ytdhgogepjedonaa
set_option linter.unusedVariables false
set_option maxRecDepth 100000

abbrev Pr := List UInt8 × List UInt8

theorem cmp_cons (x y : UInt8) (a b : List UInt8) : cmpB (x :: a) (y :: b) = if x < y then -1 else if y < x then 1 else cmpB a b := by
  show Lib.compareBytes _ _ = _
  rw [Lib.compareBytes.eq_4]
  rfl
theorem ltB_nil_cons (y : UInt8) (b : List UInt8) : ltB [] (y :: b) = true := rfl
theorem ltB_nil (a : List UInt8) : ltB a [] = false := by
  cases a <;> rfl
theorem ltB_cons (x y : UInt8) (a b : List UInt8) : ltB (x :: a) (y :: b) = true ↔ x < y ∨ (x = y ∧ ltB a b = true) := by
  unfold ltB
  rw [cmp_cons]
  by_cases h1 : x < y
  · simp [h1]
  · by_cases h2 : y < x
    · have : x ≠ y := (UInt8.ne_of_lt h2).symm
      simp [h1, h2, this]
    · have e : x = y := UInt8.le_antisymm (UInt8.not_lt.1 h2) (UInt8.not_lt.1 h1)
      simp [e]
theorem ltB_trans {a b c : List UInt8} (h1 : ltB a b = true) (h2 : ltB b c = true) : ltB a c = true := by
  induction a generalizing b c with
  | nil =>
    cases c with
    | nil => rw [ltB_nil] at h2; cases h2
    | cons z c => rfl
  | cons x a ih =>
    cases b with
    | nil => rw [ltB_nil] at h1; cases h1
    | cons y b =>
      cases c with
      | nil => rw [ltB_nil] at h2; cases h2
      | cons z c =>
        rw [ltB_cons] at h1 h2 ⊢
        rcases h1 with h1 | ⟨rfl, h1⟩
        · rcases h2 with h2 | ⟨rfl, h2⟩
          · exact .inl (UInt8.lt_trans h1 h2)
          · exact .inl h1
        · rcases h2 with h2 | ⟨rfl, h2⟩
          · exact .inl h2
          · exact .inr ⟨rfl, ih h1 h2⟩
theorem ltB_irrefl (a : List UInt8) : ltB a a = false := by
  unfold ltB
  rw [(cmpB_eq a a).2 rfl]
  rfl
theorem ltB_asymm {a b : List UInt8} (h : ltB a b = true) : ltB b a = false := by
  cases h' : ltB b a
  · rfl
  · have := ltB_trans h h'
    rw [ltB_irrefl] at this
    cases this
theorem ltB_total (a b : List UInt8) (h1 : ltB a b = false) (h2 : ltB b a = false) : a = b := by
  unfold ltB at h1 h2
  rw [cmpB_swap a b] at h2
  rcases cmpB_three a b with h | h | h
  · rw [h] at h1; cases h1
  · exact (cmpB_eq a b).1 h
  · rw [h] at h2; cases h2
theorem cmp_lt (l k : List UInt8) : decide (cmpB l k < 0) = ltB l k := by
  unfold ltB
  rcases cmpB_three l k with h | h | h <;> rw [h] <;> rfl
theorem cmp_ge (l k : List UInt8) : decide (0 ≤ cmpB l k) = !ltB l k := by
  unfold ltB
  rcases cmpB_three l k with h | h | h <;> rw [h] <;> rfl
theorem cmp_zero (l k : List UInt8) : (cmpB l k == 0) = sameB l k := by
  unfold sameB
  by_cases h : l = k
  · simp [h]
    exact (cmpB_eq k k).2 rfl
  · have : cmpB l k ≠ 0 := fun e => h ((cmpB_eq l k).1 e)
    simp [h, this]

/-- Keys rise. -/
def Srt (L : List Pr) : Prop := L.Pairwise fun p q => ltB p.1 q.1 = true
/-- How many keys stand ahead of one. -/
def pos (L : List Pr) (k : List UInt8) : Nat := (L.takeWhile fun p => ltB p.1 k).length
def hasB (L : List Pr) (k : List UInt8) : Bool := L.any fun p => sameB p.1 k
def delL (L : List Pr) (k : List UInt8) : List Pr := L.filter fun p => !sameB p.1 k
def putL (L : List Pr) (k v : List UInt8) : List Pr := (delL L k).take (pos (delL L k) k) ++ (k, v) :: (delL L k).drop (pos (delL L k) k)
def mayB (x : List UInt8) : Bool := decide (1 ≤ x.length) && decide (x.length ≤ 16)
def fairB (p : Pr) : Bool := mayB p.1 && decide (p.2.length ≤ 32)
def gt (L : List Pr) (i : Nat) : Pr := L.getD i ([], [])
def okAt (L : List Pr) (i : Nat) : Bool := fairB (gt L i) && (decide (i = 0) || ltB (gt L (i - 1)).1 (gt L i).1)
def isB (L : List Pr) : Bool := (List.range L.length).all (okAt L)
def rowL (L : List Pr) : List Pr := L.foldl (fun out p => if fairB p then putL out p.1 p.2 else out) []

theorem gt_eq {L : List Pr} {i : Nat} (h : i < L.length) : gt L i = L[i] := by
  unfold gt
  rw [List.getD_eq_getElem?_getD, List.getElem?_eq_getElem h]
  rfl
theorem gt_mem {L : List Pr} {i : Nat} (h : i < L.length) : gt L i ∈ L := by
  rw [gt_eq h]
  exact List.getElem_mem h

/-- A row parts at a key. -/
theorem split {L : List Pr} (h : Srt L) (k : List UInt8) : ∃ X M Y, L = X ++ (M ++ Y) ∧ (∀ p ∈ X, ltB p.1 k = true) ∧ (∀ p ∈ Y, ltB k p.1 = true) ∧ (M = [] ∨ ∃ v, M = [(k, v)]) := by
  induction L with
  | nil => exact ⟨[], [], [], rfl, by simp, by simp, .inl rfl⟩
  | cons p L ih =>
    obtain ⟨h1, h2⟩ := List.pairwise_cons.1 h
    cases h3 : ltB p.1 k
    · cases h4 : ltB k p.1
      · have e := ltB_total _ _ h3 h4
        refine ⟨[], [p], L, rfl, by simp, fun q hq => by rw [← e]; exact h1 q hq, .inr ⟨p.2, by rw [← e]⟩⟩
      · refine ⟨[], [], p :: L, rfl, by simp, fun q hq => ?_, .inl rfl⟩
        rcases List.mem_cons.1 hq with rfl | hq
        · exact h4
        · exact ltB_trans h4 (h1 q hq)
    · obtain ⟨X, M, Y, rfl, hX, hY, hM⟩ := ih h2
      refine ⟨p :: X, M, Y, rfl, fun q hq => ?_, hY, hM⟩
      rcases List.mem_cons.1 hq with rfl | hq
      · exact h3
      · exact hX q hq

section
variable {X M Y : List Pr} {k : List UInt8} (hX : ∀ p ∈ X, ltB p.1 k = true) (hY : ∀ p ∈ Y, ltB k p.1 = true) (hM : M = [] ∨ ∃ v, M = [(k, v)])
include hX hY hM
theorem pos_split : pos (X ++ (M ++ Y)) k = X.length := by
  unfold pos
  rw [List.takeWhile_append_of_pos hX]
  have : (M ++ Y).takeWhile (fun p => ltB p.1 k) = [] := by
    rcases hM with rfl | ⟨v, rfl⟩
    · cases Y with
      | nil => rfl
      | cons q Y =>
        have := ltB_asymm (hY q (by simp))
        simp [this]
    · simp [ltB_irrefl]
  rw [this]
  simp
theorem del_split : delL (X ++ (M ++ Y)) k = X ++ Y := by
  unfold delL
  rw [List.filter_append, List.filter_append]
  have e1 : X.filter (fun p => !sameB p.1 k) = X := List.filter_eq_self.2 fun p hp => by
    have := hX p hp
    unfold sameB
    by_cases e : p.1 = k
    · rw [e, ltB_irrefl] at this; cases this
    · simp [e]
  have e2 : Y.filter (fun p => !sameB p.1 k) = Y := List.filter_eq_self.2 fun p hp => by
    have := hY p hp
    unfold sameB
    by_cases e : p.1 = k
    · rw [e, ltB_irrefl] at this; cases this
    · simp [e]
  have e3 : M.filter (fun p => !sameB p.1 k) = [] := by
    rcases hM with rfl | ⟨v, rfl⟩
    · rfl
    · simp [sameB]
  rw [e1, e2, e3]
  rfl
theorem put_split (v : List UInt8) : putL (X ++ (M ++ Y)) k v = X ++ (k, v) :: Y := by
  unfold putL
  rw [del_split hX hY hM]
  have := pos_split hX hY (.inl rfl)
  rw [List.nil_append] at this
  rw [this]
  simp
theorem has_split : hasB (X ++ (M ++ Y)) k = !M.isEmpty := by
  have e1 : X.any (fun p => sameB p.1 k) = false := List.any_eq_false.2 fun p hp => by
    have := hX p hp
    unfold sameB
    by_cases e : p.1 = k
    · rw [e, ltB_irrefl] at this; cases this
    · simp [e]
  have e2 : Y.any (fun p => sameB p.1 k) = false := List.any_eq_false.2 fun p hp => by
    have := hY p hp
    unfold sameB
    by_cases e : p.1 = k
    · rw [e, ltB_irrefl] at this; cases this
    · simp [e]
  unfold hasB
  rw [List.any_append, List.any_append, e1, e2]
  rcases hM with rfl | ⟨v, rfl⟩
  · rfl
  · simp [sameB]
end

theorem pos_le (L : List Pr) (k : List UInt8) : pos L k ≤ L.length := by
  unfold pos
  exact (List.takeWhile_sublist _).length_le

/-- What stands ahead of a key's place is less; what stands there, or behind, is not. -/
theorem pos_lt {L : List Pr} (h : Srt L) (k : List UInt8) {i : Nat} (hi : i < L.length) : ltB (gt L i).1 k = decide (i < pos L k) := by
  obtain ⟨X, M, Y, rfl, hX, hY, hM⟩ := split h k
  rw [pos_split hX hY hM, gt_eq hi]
  by_cases hl : i < X.length
  · rw [List.getElem_append_left hl, hX _ (List.getElem_mem hl)]
    simp [hl]
  · rw [List.getElem_append_right (by omega)]
    have hm := List.getElem_mem (l := M ++ Y) (n := i - X.length) (by simp at hi ⊢; omega)
    generalize (M ++ Y)[i - X.length]'(by simp at hi ⊢; omega) = p at hm
    have : ltB p.1 k = false := by
      rcases List.mem_append.1 hm with hm | hm
      · rcases hM with rfl | ⟨v, rfl⟩
        · cases hm
        · simp at hm
          rw [hm]
          exact ltB_irrefl _
      · exact ltB_asymm (hY p hm)
    rw [this]
    simp [hl]
theorem pos_same {L : List Pr} (h : Srt L) (k : List UInt8) (hi : pos L k < L.length) : sameB (gt L (pos L k)).1 k = hasB L k := by
  obtain ⟨X, M, Y, rfl, hX, hY, hM⟩ := split h k
  rw [gt_eq hi, has_split hX hY hM]
  have hp := pos_split hX hY hM
  simp only [hp] at hi ⊢
  rw [List.getElem_append_right (Nat.le_refl _)]
  rcases hM with rfl | ⟨v, rfl⟩
  · have hm := List.getElem_mem (l := [] ++ Y) (n := X.length - X.length) (by simp at hi ⊢; omega)
    generalize ([] ++ Y)[X.length - X.length]'(by simp at hi ⊢; omega) = p at hm
    have := hY p (by simpa using hm)
    unfold sameB
    by_cases e : p.1 = k
    · rw [e, ltB_irrefl] at this; cases this
    · simp [e]
  · simp [sameB]
theorem pos_end {L : List Pr} (h : Srt L) (k : List UInt8) (hi : pos L k = L.length) : hasB L k = false := by
  obtain ⟨X, M, Y, rfl, hX, hY, hM⟩ := split h k
  rw [has_split hX hY hM]
  rw [pos_split hX hY hM] at hi
  rcases hM with rfl | ⟨v, rfl⟩
  · rfl
  · simp at hi

theorem srt_append {X Y : List Pr} : Srt (X ++ Y) ↔ Srt X ∧ Srt Y ∧ ∀ p ∈ X, ∀ q ∈ Y, ltB p.1 q.1 = true := List.pairwise_append
theorem srt_del {L : List Pr} (h : Srt L) (k : List UInt8) : Srt (delL L k) := List.Pairwise.filter _ h
theorem srt_put {L : List Pr} (h : Srt L) (k v : List UInt8) : Srt (putL L k v) := by
  have hd := srt_del h k
  obtain ⟨X, M, Y, rfl, hX, hY, hM⟩ := split h k
  rw [put_split hX hY hM]
  rw [del_split hX hY hM] at hd
  obtain ⟨h1, h2, h3⟩ := srt_append.1 hd
  refine srt_append.2 ⟨h1, List.pairwise_cons.2 ⟨hY, h2⟩, fun p hp q hq => ?_⟩
  rcases List.mem_cons.1 hq with rfl | hq
  · exact hX p hp
  · exact h3 p hp q hq
theorem mem_del {L : List Pr} {k : List UInt8} {p : Pr} (h : p ∈ delL L k) : p ∈ L := (List.mem_filter.1 h).1
theorem mem_put {L : List Pr} {k v : List UInt8} {p : Pr} (h : p ∈ putL L k v) : p ∈ L ∨ p = (k, v) := by
  unfold putL at h
  rcases List.mem_append.1 h with h | h
  · exact .inl (mem_del (List.mem_of_mem_take h))
  · rcases List.mem_cons.1 h with h | h
    · exact .inr h
    · exact .inl (mem_del (List.mem_of_mem_drop h))
theorem len_del (L : List Pr) (k : List UInt8) : (delL L k).length ≤ L.length := List.length_filter_le _ _
theorem len_put (L : List Pr) (k v : List UInt8) : (putL L k v).length ≤ L.length + 1 := by
  have h1 := len_del L k
  have h2 := pos_le (delL L k) k
  unfold putL
  simp
  omega

/-- Each pair may be, and they rise. -/
def Fit (L : List Pr) : Prop := Srt L ∧ ∀ p ∈ L, fairB p = true
theorem fit_nil : Fit [] := ⟨List.Pairwise.nil, fun p hp => by cases hp⟩
theorem Fit.del {L : List Pr} (h : Fit L) (k : List UInt8) : Fit (delL L k) := ⟨srt_del h.1 k, fun p hp => h.2 p (mem_del hp)⟩
theorem Fit.put {L : List Pr} (h : Fit L) {k v : List UInt8} (hf : fairB (k, v) = true) : Fit (putL L k v) :=
  ⟨srt_put h.1 k v, fun p hp => (mem_put hp).elim (fun hp => h.2 p hp) (fun e => by rw [e]; exact hf)⟩
theorem Fit.is {L : List Pr} (h : Fit L) : isB L = true := by
  unfold isB
  refine List.all_eq_true.2 fun i hi => ?_
  have hi := List.mem_range.1 hi
  unfold okAt
  rw [h.2 _ (gt_mem hi)]
  by_cases h0 : i = 0
  · simp [h0]
  · have := List.pairwise_iff_getElem.1 h.1 (i - 1) i (by omega) hi (by omega)
    rw [gt_eq hi, gt_eq (show i - 1 < L.length by omega), this]
    simp

theorem row_step (L : List Pr) {i : Nat} (h : i < L.length) : rowL (L.take (i + 1)) = if fairB (gt L i) then putL (rowL (L.take i)) (gt L i).1 (gt L i).2 else rowL (L.take i) := by
  unfold rowL
  rw [List.take_succ_eq_append_getElem h, List.foldl_append, gt_eq h]
  rfl
theorem row_fit (L : List Pr) (i : Nat) (h : i ≤ L.length) : Fit (rowL (L.take i)) ∧ (rowL (L.take i)).length ≤ i := by
  induction i with
  | zero => exact ⟨fit_nil, Nat.le_refl _⟩
  | succ i ih =>
    obtain ⟨h1, h2⟩ := ih (by omega)
    rw [row_step L (by omega)]
    by_cases hf : fairB (gt L i) = true
    · rw [if_pos hf]
      exact ⟨h1.put hf, Nat.le_trans (len_put _ _ _) (by omega)⟩
    · rw [if_neg hf]
      exact ⟨h1, by omega⟩

theorem has_iff {L : List Pr} {k : List UInt8} : hasB L k = true ↔ ∃ v, (k, v) ∈ L := by
  unfold hasB sameB
  rw [List.any_eq_true]
  constructor
  · rintro ⟨p, hp, he⟩
    have := of_decide_eq_true he
    exact ⟨p.2, by rw [← this]; exact hp⟩
  · rintro ⟨v, hv⟩
    exact ⟨_, hv, by simp⟩
theorem has_put {L : List Pr} (h : Srt L) (k v : List UInt8) : hasB (putL L k v) k = true ∧ pos (putL L k v) k < (putL L k v).length ∧ gt (putL L k v) (pos (putL L k v) k) = (k, v) ∧ (delL (putL L k v) k).length + 1 = (putL L k v).length := by
  obtain ⟨X, M, Y, rfl, hX, hY, hM⟩ := split h k
  rw [put_split hX hY hM]
  have e : X ++ (k, v) :: Y = X ++ ([(k, v)] ++ Y) := rfl
  rw [e, has_split hX hY (.inr ⟨v, rfl⟩), pos_split hX hY (.inr ⟨v, rfl⟩), del_split hX hY (.inr ⟨v, rfl⟩)]
  refine ⟨rfl, by simp, ?_, by simp; omega⟩
  rw [gt_eq (by simp), List.getElem_append_right (Nat.le_refl _)]
  simp
theorem has_del (L : List Pr) (k o : List UInt8) (h : hasB L k = true) : hasB (delL L o) k = !sameB k o := by
  obtain ⟨v, hv⟩ := has_iff.1 h
  by_cases e : k = o
  · subst e
    have : ¬ hasB (delL L k) k = true := fun h => by
      obtain ⟨v, hv⟩ := has_iff.1 h
      have := (List.mem_filter.1 hv).2
      simp [sameB] at this
    simp [sameB, this]
  · have : hasB (delL L o) k = true := has_iff.2 ⟨v, List.mem_filter.2 ⟨hv, by simp [sameB, e]⟩⟩
    simp [sameB, e, this]

/-- Taking a row apart at a key, as the program does. -/
theorem put_is {L : List Pr} (h : Srt L) (k v : List UInt8) : putL L k v = L.take (pos L k) ++ ([(k, v)] ++ (if hasB L k then (L.drop (pos L k)).drop 1 else L.drop (pos L k))) := by
  obtain ⟨X, M, Y, rfl, hX, hY, hM⟩ := split h k
  rw [put_split hX hY hM, pos_split hX hY hM, has_split hX hY hM]
  rcases hM with rfl | ⟨v', rfl⟩ <;> simp
theorem del_is {L : List Pr} (h : Srt L) (k : List UInt8) : delL L k = if hasB L k then L.take (pos L k) ++ L.drop (pos L k + 1) else L := by
  obtain ⟨X, M, Y, rfl, hX, hY, hM⟩ := split h k
  rw [del_split hX hY hM, pos_split hX hY hM, has_split hX hY hM]
  rcases hM with rfl | ⟨v', rfl⟩ <;> simp [List.drop_append]
end Go.Proofs.Ytdhgogepjedonaa

namespace Go.Proofs.Ytdhgogepjedonaa
open Go.RowKit
set_option linter.unusedVariables false
set_option maxRecDepth 100000

/-- A pair's two cells, and what they read as. -/
def PairAt (w : World) (b o : Nat) (p : Pr) : Prop :=
  ∃ A n c B m d, w.cell? ⟨b, o, none⟩ = some (.slice A n c) ∧ w.cell? ⟨b, o + 1, none⟩ = some (.slice B m d) ∧ Byt w A n p.1 ∧ Byt w B m p.2

/-- A slice of pairs that reads as the list L. -/
def Prs (w : World) (A : Option Addr) (n c : Nat) (L : List Pr) : Prop :=
  L.length = n ∧ n ≤ c ∧ c ≤ maxLen ∧ (A = none → c = 0) ∧ (0 < n → ∃ b o, A = some ⟨b, o, none⟩ ∧ b < w.heap.size ∧ ∀ j, j < n → PairAt w b (o + j * 2) (gt L j))

theorem PairAt.keep {w w' : World} {b o : Nat} {p : Pr} (h : PairAt w b o p) (hl : b < w.heap.size) (hs : w.heap.size ≤ w'.heap.size) (hc : ∀ q : Addr, q.block < w.heap.size → w'.cell? q = w.cell? q) : PairAt w' b o p := by
  obtain ⟨A, n, c, B, m, d, h1, h2, h3, h4⟩ := h
  exact ⟨A, n, c, B, m, d, (hc ⟨b, o, none⟩ hl).trans h1, (hc ⟨b, o + 1, none⟩ hl).trans h2, h3.keep hs hc, h4.keep hs hc⟩
theorem Prs.keep {w w' : World} {A : Option Addr} {n c : Nat} {L : List Pr} (h : Prs w A n c L) (hs : w.heap.size ≤ w'.heap.size) (hc : ∀ q : Addr, q.block < w.heap.size → w'.cell? q = w.cell? q) : Prs w' A n c L := by
  obtain ⟨h1, h2, h3, h4, h5⟩ := h
  refine ⟨h1, h2, h3, h4, fun h0 => ?_⟩
  obtain ⟨b, o, e, hb, hj⟩ := h5 h0
  exact ⟨b, o, e, by omega, fun j hl => (hj j hl).keep hb hs hc⟩
theorem Prs.below {w w' : World} {A : Option Addr} {n c : Nat} {L : List Pr} (h : Prs w A n c L) (hb : Below w.heap.size w w') : Prs w' A n c L := h.keep hb.size fun _ hp => hb.cell hp
theorem Prs.alloc {w : World} {A : Option Addr} {n c : Nat} {L : List Pr} (h : Prs w A n c L) (o : Obj) : Prs (w.alloc o) A n c L :=
  h.below ((Below.refl _ _).alloc (Nat.le_refl _) _)
theorem Prs.drewN {w : World} {A : Option Addr} {n c : Nat} {L : List Pr} (h : Prs w A n c L) (k : Nat) : Prs (w.drewN k) A n c L := h
theorem Prs.len {w : World} {A : Option Addr} {n c : Nat} {L : List Pr} (h : Prs w A n c L) : L.length = n := h.1

/-- One pair of it. -/
theorem Prs.at_ {w : World} {A : Option Addr} {n c j : Nat} {L : List Pr} (h : Prs w A n c L) (hj : j < n) :
    ∃ b o, A = some ⟨b, o, none⟩ ∧ b < w.heap.size ∧ PairAt w b (o + j * 2) (gt L j) := by
  obtain ⟨b, o, e, hb, hp⟩ := h.2.2.2.2 (by omega)
  exact ⟨b, o, e, hb, hp j hj⟩

theorem prs_nil (w : World) : Prs w none 0 0 [] := ⟨rfl, Nat.le_refl _, Nat.zero_le _, fun _ => rfl, fun h => absurd h (by omega)⟩

/-- Where a part of a slice lies. -/
def cutA (A : Option Addr) (k c : Nat) : Option Addr := if c = k then A else A.map (·.add (k * 2))

theorem add_lit (b o n : Nat) : (⟨b, o, none⟩ : Addr).add n = ⟨b, o + n, none⟩ := by
  unfold Addr.add
  split
  · next h => rw [h]; rfl
  · rfl

theorem Prs.from {w : World} {A : Option Addr} {n c k : Nat} {L : List Pr} (h : Prs w A n c L) (hk : k ≤ n) : Prs w (cutA A k c) (n - k) (c - k) (L.drop k) := by
  obtain ⟨h1, h2, h3, h4, h5⟩ := h
  refine ⟨by simp [h1], by omega, by omega, fun e => ?_, fun h0 => ?_⟩
  · unfold cutA at e
    split at e
    · omega
    · cases A with
      | none => have := h4 rfl; omega
      | some a => cases e
  · obtain ⟨b, o, e, hb, hj⟩ := h5 (by omega)
    refine ⟨b, o + k * 2, ?_, hb, fun j hl => ?_⟩
    · unfold cutA
      rw [if_neg (by omega), e]
      simp only [Option.map_some]
      rw [add_lit]
    · have := hj (k + j) (by omega)
      rw [show o + k * 2 + j * 2 = o + (k + j) * 2 by omega]
      have hg : gt (L.drop k) j = gt L (k + j) := by
        unfold gt
        simp [List.getD_eq_getElem?_getD, List.getElem?_drop]
      rw [hg]
      exact this
theorem Prs.upto {w : World} {A : Option Addr} {n c k : Nat} {L : List Pr} (h : Prs w A n c L) (hk : k ≤ n) : Prs w A k c (L.take k) := by
  obtain ⟨h1, h2, h3, h4, h5⟩ := h
  refine ⟨by simp; omega, by omega, h3, h4, fun h0 => ?_⟩
  obtain ⟨b, o, e, hb, hj⟩ := h5 (by omega)
  refine ⟨b, o, e, hb, fun j hl => ?_⟩
  have hg : gt (L.take k) j = gt L j := by
    unfold gt
    simp [List.getD_eq_getElem?_getD, hl]
  rw [hg]
  exact hj j (by omega)

set_option maxHeartbeats 400000 in
theorem may_any {w : World} {A : Option Addr} {n : Nat} (c : Nat) {x : List UInt8} (h : Byt w A n x) :
    Calls Try.prog 47 #[.slice A n c] w fun e w' => e = .returned (.bool (mayB x)) ∧ w = w' := by
  have hr : mayB x = (decide (1 ≤ n) && decide (n ≤ 16)) := by rw [← h.1]; rfl
  have HR := Lib.hid hr
  clear hr h
  by_cases h1 : 1 ≤ n <;> by_cases h2 : n ≤ 16
  all_goals first | (exfalso; omega) | skip
  all_goals
    go_enter Try.func47, Try.ntmps47
    go_wp2
    go_ret
    refine ⟨ret_bool ?_, rfl⟩
    rw [HR.out]
    first | rfl | (rw [Bool.eq_iff_iff]; simp; omega)

set_option maxHeartbeats 400000 in
theorem rmay_any {w : World} {A : Option Addr} {n : Nat} (c : Nat) {x : List UInt8} (h : Byt w A n x) :
    Calls Try.prog 27 #[.slice A n c] w fun e w' => e = .returned (.bool (mayB x)) ∧ w = w' := by
  have hr : mayB x = (decide (1 ≤ n) && decide (n ≤ 16)) := by rw [← h.1]; rfl
  have HR := Lib.hid hr
  clear hr h
  by_cases h1 : 0 < n <;> by_cases h2 : n ≤ 16
  all_goals first | (exfalso; omega) | skip
  all_goals
    go_enter Try.func27, Try.ntmps27
    go_wp2
    go_ret
    refine ⟨ret_bool ?_, rfl⟩
    rw [HR.out]
    first | rfl | (rw [Bool.eq_iff_iff]; simp; omega)

set_option maxHeartbeats 400000 in
theorem kfair_any {w : World} {A : Option Addr} {n : Nat} (c : Nat) {x : List UInt8} (h : Byt w A n x) :
    Calls Try.prog 23 #[.slice A n c] w fun e w' => e = .returned (.bool (decide (x.length ≤ 32))) ∧ w = w' := by
  have hr := h.1
  have HR := Lib.hid hr
  clear hr h
  go_enter Try.func23, Try.ntmps23
  go_wp2
  go_ret
  refine ⟨ret_bool ?_, rfl⟩
  rw [HR.out]
  first | rfl | (rw [Bool.eq_iff_iff]; simp; omega)

set_option maxHeartbeats 400000 in
theorem rowmay_any {w : World} {A B : Option Addr} {n m : Nat} (c d : Nat) {x y : List UInt8} (h : Byt w A n x) (h' : Byt w B m y) :
    Calls Try.prog 68 #[.slice A n c, .slice B m d] w fun e w' => e = .returned (.bool (fairB (x, y))) ∧ w = w' := by
  have H := Lib.hid (may_any c h)
  have H' := Lib.hid (kfair_any d h')
  clear h h'
  cases hm : mayB x
  all_goals
    rw [hm] at H
    have HM := Lib.hid hm
    clear hm
    go_enter Try.func68, Try.ntmps68
    go_wp2_with (first | (go_at_call 47; refine H.out.mono ?_; rintro e w' ⟨rfl, rfl⟩) | (go_at_call 23; refine H'.out.mono ?_; rintro e w' ⟨rfl, rfl⟩))
    go_ret
    refine ⟨ret_bool ?_, rfl⟩
    unfold fairB
    rw [HM.out]
    simp
end Go.Proofs.Ytdhgogepjedonaa

namespace Go.Proofs.Ytdhgogepjedonaa
open Go.RowKit
set_option linter.unusedVariables false
set_option maxRecDepth 100000

theorem Drawn.below {w w' : World} (h : Drawn w w') (B : Nat) : Below B w w' := by
  obtain ⟨d, rfl⟩ := h
  exact ⟨rfl, rfl, rfl, Nat.le_refl _, fun _ _ => rfl⟩
theorem ret_two {i j : Int} {a b : Bool} (h : i = j) (h' : a = b) : Ending.returned (.tuple #[.int .i64 i, .bool a]) = .returned (.tuple #[.int .i64 j, .bool b]) := by rw [h, h']

set_option maxHeartbeats 400000 in
theorem closure_any {w : World} {A B C : Option Addr} {n m o : Nat} (c d q : Nat) {k v x : List UInt8} (h : Byt w A n k) (h' : Byt w C o x) :
    Calls Try.prog 72 #[.agg #[.slice A n c, .slice B m d], .slice C o q] w fun e w' => e = .returned (.int .i64 (cmpB k x)) ∧ Below w.heap.size w w' := by
  have H := Lib.hid (fun ob => compare_any c q (h.alloc ob) (h'.alloc ob))
  clear h h'
  go_enter Try.func72, Try.ntmps72
  go_wp2_with (go_at_call 31; refine (H.out _).mono ?_; rintro e w' ⟨rfl, rfl⟩)
  go_ret
  exact ⟨rfl, (Below.refl _ _).alloc (Nat.le_refl _) _⟩

/-- How far the search has come. -/
def Srch (L : List Pr) (k : List UInt8) (i j : Nat) : Prop := i ≤ pos L k ∧ pos L k ≤ j

theorem meas_up (i j : Nat) (h : i < j) : (intOf (.int .i64 (j : Int))).toNat - (intOf (.int .i64 (((i : Int) + (j : Int)) / 2 + 1))).toNat < (intOf (.int .i64 (j : Int))).toNat - (intOf (.int .i64 (i : Int))).toNat := by
  show (j : Int).toNat - (((i : Int) + (j : Int)) / 2 + 1).toNat < (j : Int).toNat - (i : Int).toNat
  omega
theorem meas_down (i j : Nat) (h : i < j) : (intOf (.int .i64 (((i : Int) + (j : Int)) / 2))).toNat - (intOf (.int .i64 (i : Int))).toNat < (intOf (.int .i64 (j : Int))).toNat - (intOf (.int .i64 (i : Int))).toNat := by
  show (((i : Int) + (j : Int)) / 2).toNat - (i : Int).toNat < (j : Int).toNat - (i : Int).toNat
  omega
theorem mid_cast (i j : Nat) : ((i : Int) + (j : Int)) / 2 = (((i + j) / 2 : Nat) : Int) := by omega

set_option maxHeartbeats 2000000 in
theorem search_any {w : World} {A C : Option Addr} {n c o : Nat} (q : Nat) {L : List Pr} {k : List UInt8} (h : Prs w A n c L) (h' : Byt w C o k) (hs : Srt L) (hn : n ≤ 1000) :
    Calls Try.prog 71 #[.slice A n c, .slice C o q, .func (.func 72) #[] #[]] w fun e w' => e = .returned (.tuple #[.int .i64 (pos L k), .bool (hasB L k)]) ∧ Below w.heap.size w w' := by
  have H := Lib.hid h
  have H' := Lib.hid h'
  have HS := Lib.hid hs
  have hlen := h.len
  have HL := Lib.hid hlen
  clear h h' hs hlen
  have HP := Lib.hid (pos_le L k)
  go_enter Try.func71, Try.ntmps71
  go_wp2
  go_loopw [9, 10] (fun s9 s10 wr => ∃ i j : Nat, s9 = .int .i64 i ∧ s10 = .int .i64 j ∧ i ≤ j ∧ j ≤ n ∧ Srch L k i j ∧ Below w.heap.size w wr) (fun s9 s10 _ => (intOf s10).toNat - (intOf s9).toNat)
  case atStart => exact ⟨0, n, rfl, rfl, Nat.zero_le _, Nat.le_refl _, ⟨Nat.zero_le _, by rw [← HL.out]; exact HP.out⟩, Below.refl _ _⟩
  case round =>
    obtain ⟨i, j, rfl, rfl, hij, hjn, hsr, hb⟩ := hrel
    have HSR := Lib.hid hsr
    clear hsr
    by_cases hlt : i < j
    · obtain ⟨b, oo, rfl, hbl, A1, n1, c1, B1, m1, d1, k0, k1, y1, y2⟩ := (H.out.below hb).at_ (show (i + j) / 2 < n by omega)
      have HC := closure_any (B := B1) (m := m1) (d := d1) (v := []) c1 q y1 (H'.out.below hb)
      clear y1 y2
      have hpl := pos_lt HS.out k (show (i + j) / 2 < L.length by have := HL.out; omega)
      generalize gt L ((i + j) / 2) = y at HC hpl
      have HPL := Lib.hid hpl
      clear hpl
      have HLT := Lib.hid (cmp_lt y.1 k)
      by_cases hy : cmpB y.1 k < 0
      · have h1 : (i + j) / 2 < pos L k := by
          have := HPL.out
          rw [← HLT.out] at this
          simpa [hy] using this
        have H1 := Lib.hid h1
        clear h1
        go_wp2_with fail
        refine HC.mono ?_
        rintro e w' ⟨rfl, hb'⟩
        go_wp2
        exact ⟨⟨(i + j) / 2 + 1, j, by rw [mid_cast]; rfl, rfl, by omega, hjn, ⟨H1.out, HSR.out.2⟩, hb.trans (hb'.mono hb.size)⟩, meas_up i j hlt⟩
      · have h1 : ¬ (i + j) / 2 < pos L k := by
          have := HPL.out
          rw [← HLT.out] at this
          simpa [hy] using this
        have H1 := Lib.hid h1
        clear h1
        go_wp2_with fail
        refine HC.mono ?_
        rintro e w' ⟨rfl, hb'⟩
        go_wp2
        exact ⟨⟨i, (i + j) / 2, rfl, by rw [mid_cast], by omega, by omega, ⟨HSR.out.1, Nat.le_of_not_lt H1.out⟩, hb.trans (hb'.mono hb.size)⟩, meas_down i j hlt⟩
    · obtain rfl : j = i := by omega
      have hp : pos L k = j := by have := HSR.out; unfold Srch at this; omega
      have HPJ := Lib.hid hp
      clear hp
      by_cases hjl : j < n
      · obtain ⟨b, oo, rfl, hbl, A1, n1, c1, B1, m1, d1, k0, k1, y1, y2⟩ := (H.out.below hb).at_ hjl
        have HC := closure_any (B := B1) (m := m1) (d := d1) (v := []) c1 q y1 (H'.out.below hb)
        clear y1 y2
        have hsm := pos_same HS.out k (by rw [HPJ.out, HL.out]; exact hjl)
        rw [HPJ.out] at hsm
        generalize gt L j = y at HC hsm
        have HSM := Lib.hid hsm
        clear hsm
        have HZ := Lib.hid (cmp_zero y.1 k)
        go_wp2_with fail
        refine HC.mono ?_
        rintro e w' ⟨rfl, hb'⟩
        go_wp2
        go_ret2
        exact ⟨ret_two (by rw [HPJ.out]) (by rw [← HSM.out, ← HZ.out]), hb.trans (hb'.mono hb.size)⟩
      · have hz := pos_end HS.out k (by rw [HPJ.out, HL.out]; omega)
        have HZ := Lib.hid hz
        clear hz
        go_wp2
        go_ret2
        exact ⟨ret_two (by rw [HPJ.out]) (by rw [HZ.out]), hb⟩

set_option maxHeartbeats 400000 in
theorem find_any {w : World} {A C : Option Addr} {n c o : Nat} (q : Nat) {L : List Pr} {k : List UInt8} (h : Prs w A n c L) (h' : Byt w C o k) (hs : Srt L) (hn : n ≤ 1000) :
    Calls Try.prog 65 #[.slice A n c, .slice C o q] w fun e w' => e = .returned (.tuple #[.int .i64 (pos L k), .bool (hasB L k)]) ∧ Below w.heap.size w w' := by
  have H := Lib.hid (search_any q h h' hs hn)
  clear h h' hs
  go_enter Try.func65, Try.ntmps65
  go_wp2_with (go_at_call 71; refine H.out.mono ?_; rintro e w' ⟨rfl, hb⟩)
  go_ret2
  exact ⟨rfl, hb⟩
end Go.Proofs.Ytdhgogepjedonaa

namespace Go.Proofs.Ytdhgogepjedonaa
open Go.RowKit
set_option linter.unusedVariables false
set_option maxRecDepth 100000

def shortB (p : Pr) : Bool := decide (p.1.length ≤ 100) && decide (p.2.length ≤ 100)
def fewB (L : List Pr) (m : Nat) : Bool := L.all shortB && decide (L.length ≤ m)

theorem all_gt {L : List Pr} {f : Pr → Bool} (h : ∀ j, j < L.length → f (gt L j) = true) : L.all f = true := by
  refine List.all_eq_true.2 fun p hp => ?_
  obtain ⟨j, hj, rfl⟩ := List.getElem_of_mem hp
  rw [← gt_eq hj]
  exact h j hj
theorem all_not {L : List Pr} {f : Pr → Bool} {j : Nat} (hj : j < L.length) (h : f (gt L j) = false) : L.all f = false := by
  refine List.all_eq_false.2 ⟨gt L j, gt_mem hj, by simp [h]⟩

theorem is_not {L : List Pr} {j : Nat} (hj : j < L.length) (h : okAt L j = false) : isB L = false := by
  refine List.all_eq_false.2 ⟨j, List.mem_range.2 hj, by simp [h]⟩
theorem is_all {L : List Pr} (h : ∀ j, j < L.length → okAt L j = true) : isB L = true :=
  List.all_eq_true.2 fun j hj => h j (List.mem_range.1 hj)

/-- No key or value is long. -/
def Small (L : List Pr) : Prop := ∀ p ∈ L, p.1.length ≤ 1000 ∧ p.2.length ≤ 1000

theorem quiet_drawn {P : Program} {f : FuncId} {args : Array Value} {w : World} {n : Nat} {v : Value}
    (h : Calls P f args (w.drewN n) fun e w' => e = .returned v ∧ Drawn (w.drewN n) w') : Calls P f args (w.drewN n) fun e w'' => e = .returned v ∧ ∃ m, w'' = w.drewN m :=
  h.mono fun _ _ ⟨he, d, hm⟩ => ⟨he, n + d, by rw [hm, World.drewN_drewN]⟩
theorem quiet_left {P : Program} {f : FuncId} {args : Array Value} {w : World} {n : Nat} {v : Value}
    (h : Calls P f args (w.drewN n) fun e w' => e = .returned v ∧ w.drewN n = w') : Calls P f args (w.drewN n) fun e w'' => e = .returned v ∧ ∃ m, w'' = w.drewN m :=
  h.mono fun _ _ ⟨he, hm⟩ => ⟨he, n, hm.symm⟩

theorem Drawn.refl (w : World) : Drawn w w := ⟨0, rfl⟩
theorem Drawn.trans {w w1 w2 : World} (h : Drawn w w1) (h' : Drawn w1 w2) : Drawn w w2 := by
  obtain ⟨d, rfl⟩ := h
  obtain ⟨e, rfl⟩ := h'
  exact ⟨d + e, World.drewN_drewN _ _ _⟩
theorem Drawn.prs {w w' : World} {A : Option Addr} {n c : Nat} {L : List Pr} (h : Drawn w w') (hp : Prs w A n c L) : Prs w' A n c L := by
  obtain ⟨d, rfl⟩ := h
  exact hp

set_option maxHeartbeats 2000000 in
theorem rfind_any {w : World} {A C : Option Addr} {n c o : Nat} (q : Nat) {L : List Pr} {k : List UInt8} (h : Prs w A n c L) (h' : Byt w C o k) (hs : Srt L) (hm : Small L) (ho : o ≤ 1000) :
    Calls Try.prog 59 #[.slice A n c, .slice C o q] w fun e w' => e = .returned (.tuple #[.int .i64 (pos L k), .bool (hasB L k)]) ∧ Drawn w w' := by
  have hn : n ≤ maxLen := Nat.le_trans h.2.1 h.2.2.1
  unfold maxLen at hn
  have hmax : 1000 ≤ maxLen := by unfold maxLen; omega
  have HMX := Lib.hid hmax
  clear hmax
  have HL := Lib.hid h.len
  have hp : pos L k ≤ n := by rw [← h.len]; exact pos_le L k
  have H := Lib.hid h
  have H' := Lib.hid h'
  have HS := Lib.hid hs
  have HM := Lib.hid hm
  have HPE := Lib.hid (pos_end hs k)
  have HPS := Lib.hid (pos_same hs k)
  have HPL := Lib.hid (fun i (hi : i < L.length) => pos_lt hs k hi)
  clear h h' hs hm
  generalize pos L k = P at hp HPE HPS HPL
  go_enter Try.func59, Try.ntmps59
  go_wp2
  go_loopw [6, 7] (fun a i wr => ∃ j : Nat, j ≤ n ∧ i = .int .i64 j ∧ a = .int .i64 (min j P : Nat) ∧ Drawn w wr) (fun _ i _ => n - (intOf i).toNat)
  case atStart => exact ⟨0, Nat.zero_le _, rfl, by rw [Nat.zero_min]; rfl, Drawn.refl w⟩
  case round =>
    obtain ⟨j, hj, rfl, rfl, hd⟩ := hrel
    by_cases hlt : j < n
    · obtain ⟨b, oo, rfl, hbl, A1, n1, c1, B1, m1, d1, k0, k1, y1, y2⟩ := (hd.prs H.out).at_ hlt
      have hj' : j < L.length := by rw [HL.out]; exact hlt
      have hn1 : n1 ≤ maxLen := by
        have := (HM.out _ (gt_mem hj')).1
        rw [← y1.1]
        exact Nat.le_trans this HMX.out
      have HC := less_any c1 q y1 (hd.byt H'.out) hn1 (Nat.le_trans ho HMX.out)
      rw [HPL.out j hj'] at HC
      clear y1 y2 hn1 hj'
      by_cases hp' : j < P
      · have e1 : min j P = j := by omega
        have e2 : min (j + 1) P = j + 1 := by omega
        rw [e1]
        have E2 := Lib.hid e2
        rw [show decide (j < P) = true by simp [hp']] at HC
        clear e1 e2
        go_wp2_with fail
        refine HC.mono ?_
        rintro e w' ⟨rfl, hd'⟩
        go_wp2
        go_roundw
        case rel => exact ⟨j + 1, by omega, by go_num, by rw [E2.out]; go_num, hd.trans hd'⟩
        case measure => simp [intOf]; omega
      · have e1 : min j P = P := by omega
        have e2 : min (j + 1) P = P := by omega
        rw [e1]
        have E2 := Lib.hid e2
        rw [show decide (j < P) = false by simp [hp']] at HC
        clear e1 e2
        go_wp2_with fail
        refine HC.mono ?_
        rintro e w' ⟨rfl, hd'⟩
        go_wp2
        go_roundw
        case rel => exact ⟨j + 1, by omega, by go_num, by rw [E2.out], hd.trans hd'⟩
        case measure => simp [intOf]; omega
    · have e1 : min j P = P := by omega
      rw [e1]
      clear e1
      by_cases hpn : P = n
      · have hz := HPE.out (by rw [HL.out]; exact hpn)
        have HZ := Lib.hid hz
        subst hpn
        clear hz
        go_wp2
        go_ret2
        exact ⟨ret_two rfl HZ.out.symm, hd⟩
      · have hpl : P < n := by omega
        have hne : ((P : Int) == (n : Int)) = false := by simp; omega
        obtain ⟨b, oo, rfl, hbl, A1, n1, c1, B1, m1, d1, k0, k1, y1, y2⟩ := (hd.prs H.out).at_ hpl
        have HC := same_any c1 q y1 (hd.byt H'.out)
        rw [HPS.out (by rw [HL.out]; exact hpl)] at HC
        clear y1 y2 hpn
        go_wp2_with fail
        refine HC.mono ?_
        rintro e w' ⟨rfl, rfl⟩
        go_wp2
        go_ret2
        exact ⟨rfl, hd⟩
end Go.Proofs.Ytdhgogepjedonaa

namespace Go.Proofs.Ytdhgogepjedonaa
open Go.RowKit
set_option linter.unusedVariables false
set_option maxRecDepth 100000

theorem ok_zero (L : List Pr) : okAt L 0 = fairB (gt L 0) := by simp [okAt]
theorem ok_succ (L : List Pr) (k : Nat) : okAt L (k + 1) = (fairB (gt L (k + 1)) && ltB (gt L k).1 (gt L (k + 1)).1) := by simp [okAt]

end Go.Proofs.Ytdhgogepjedonaa

namespace Go.Proofs.Ytdhgogepjedonaa
open Go.RowKit
set_option linter.unusedVariables false
set_option maxRecDepth 100000

theorem below_drewN {B : Nat} {w w' : World} (h : Below B w w') (k : Nat) : Below B w (w'.drewN k) := ⟨h.os, h.tape, h.output, h.size, h.block⟩

set_option maxHeartbeats 2000000 in
theorem pairs_same {w : World} {A B : Option Addr} {n c m d : Nat} {L : List Pr} (h : Prs w A n c L) (h' : Prs w B m d L) :
    Calls Try.prog 43 #[.slice A n c, .slice B m d] w fun e w' => e = .returned (.bool true) ∧ Drawn w w' := by
  have hn : n ≤ maxLen := Nat.le_trans h.2.1 h.2.2.1
  unfold maxLen at hn
  obtain rfl : n = m := h.len.symm.trans h'.len
  have H := Lib.hid h
  have H' := Lib.hid h'
  clear h h'
  go_enter Try.func43, Try.ntmps43
  go_wp2
  go_loopw [5] (fun i wr => ∃ j : Nat, j ≤ n ∧ i = .int .i64 j ∧ Drawn w wr) (fun i _ => n - (intOf i).toNat)
  case atStart => exact ⟨0, Nat.zero_le _, rfl, Drawn.refl w⟩
  case round =>
    obtain ⟨j, hj, rfl, hd⟩ := hrel
    by_cases hlt : j < n
    · obtain ⟨b, oo, rfl, hbl, A1, n1, c1, B1, m1, d1, k0, k1, y1, y2⟩ := (hd.prs H.out).at_ hlt
      obtain ⟨b', oo', rfl, hbl', A2, n2, c2, B2, m2, d2, k2, k3, z1, z2⟩ := (hd.prs H'.out).at_ hlt
      generalize gt L j = p at y1 y2 z1 z2
      have r1 := fun k => run_str (c := c1) (y1.drewN k)
      have r2 := fun k => run_str (c := d1) (y2.drewN k)
      have r3 := fun k => run_str (c := c2) (z1.drewN k)
      have r4 := fun k => run_str (c := d2) (z2.drewN k)
      clear y1 y2 z1 z2
      go_wp2
      go_quiet (fail)
      go_wp2
      go_roundw
      case rel => exact ⟨j + 1, by omega, by go_num, hd.more _⟩
      case measure => simp [intOf]; omega
    · go_wp2
      go_ret
      exact ⟨rfl, hd⟩
end Go.Proofs.Ytdhgogepjedonaa

namespace Go.Proofs.Ytdhgogepjedonaa
open Go.RowKit
set_option linter.unusedVariables false
set_option maxRecDepth 100000

theorem Try.infoPair : (Try.prog.info? 45).map (fun i => (i.zero, i.size, i.bytes)) = some (some (.agg #[.slice none 0 0, .slice none 0 0]), 2, 48) := by kernel_rfl

/-- Cells that read as pairs. -/
def Reads (w : World) (xs : List Value) (L : List Pr) : Prop :=
  xs.length = L.length * 2 ∧ ∀ j, j < L.length → ∃ A n c B m d, xs[j * 2]? = some (.slice A n c) ∧ xs[j * 2 + 1]? = some (.slice B m d) ∧ Byt w A n (gt L j).1 ∧ Byt w B m (gt L j).2

theorem reads_nil (w : World) : Reads w [] [] := ⟨rfl, fun j hj => by cases hj⟩
theorem gt_left {L M : List Pr} {j : Nat} (h : j < L.length) : gt (L ++ M) j = gt L j := by
  unfold gt
  simp [List.getD_eq_getElem?_getD, List.getElem?_append_left h]
theorem gt_right {L M : List Pr} {j : Nat} (h : L.length ≤ j) : gt (L ++ M) j = gt M (j - L.length) := by
  unfold gt
  simp [List.getD_eq_getElem?_getD, List.getElem?_append_right h]
theorem Reads.append {w : World} {xs ys : List Value} {L M : List Pr} (h : Reads w xs L) (h' : Reads w ys M) : Reads w (xs ++ ys) (L ++ M) := by
  obtain ⟨h1, h2⟩ := h
  obtain ⟨h3, h4⟩ := h'
  refine ⟨by simp; omega, fun j hj => ?_⟩
  by_cases hl : j < L.length
  · obtain ⟨A, n, c, B, m, d, e1, e2, e3, e4⟩ := h2 j hl
    rw [List.getElem?_append_left (by omega), List.getElem?_append_left (by omega), gt_left hl]
    exact ⟨A, n, c, B, m, d, e1, e2, e3, e4⟩
  · obtain ⟨A, n, c, B, m, d, e1, e2, e3, e4⟩ := h4 (j - L.length) (by simp at hj; omega)
    rw [List.getElem?_append_right (by omega), List.getElem?_append_right (by omega), gt_right (by omega), show j * 2 - xs.length = (j - L.length) * 2 by omega, show j * 2 + 1 - xs.length = (j - L.length) * 2 + 1 by omega]
    exact ⟨A, n, c, B, m, d, e1, e2, e3, e4⟩
theorem Reads.below {w w' : World} {xs : List Value} {L : List Pr} (h : Reads w xs L) (hb : Below w.heap.size w w') : Reads w' xs L :=
  ⟨h.1, fun j hj => by
    obtain ⟨A, n, c, B, m, d, e1, e2, e3, e4⟩ := h.2 j hj
    exact ⟨A, n, c, B, m, d, e1, e2, e3.below hb, e4.below hb⟩⟩
theorem Reads.one {w : World} {xs : List Value} {L : List Pr} (h : Reads w xs L) : ∀ u ∈ xs, u.oneCell' = true := by
  intro u hu
  obtain ⟨i, hi, rfl⟩ := List.getElem_of_mem hu
  obtain ⟨A, n, c, B, m, d, e1, e2, _, _⟩ := h.2 (i / 2) (by have := h.1; omega)
  have hd : i = i / 2 * 2 ∨ i = i / 2 * 2 + 1 := by omega
  rcases hd with hd | hd
  · rw [← hd, List.getElem?_eq_getElem hi] at e1
    injection e1 with e1
    rw [e1]
    rfl
  · rw [← hd, List.getElem?_eq_getElem hi] at e2
    injection e2 with e2
    rw [e2]
    rfl
theorem reads_one {w : World} {A B : Option Addr} {n m : Nat} (c d : Nat) {p : Pr} (h : Byt w A n p.1) (h' : Byt w B m p.2) : Reads w [.slice A n c, .slice B m d] [p] := by
  refine ⟨rfl, fun j hj => ?_⟩
  obtain rfl : j = 0 := by simp at hj; omega
  exact ⟨A, n, c, B, m, d, rfl, rfl, h, h'⟩

/-- What a slice of pairs holds, as cells. -/
theorem Prs.cells {w : World} {A : Option Addr} {n c : Nat} {L : List Pr} (h : Prs w A n c L) :
    ∃ xs, Reads w xs L ∧ xs.length = n * 2 ∧ ∀ a, A = some a → ∀ j u, xs[j]? = some u → w.cell? (a.add j) = some u := by
  obtain ⟨h1, h2, h3, h4, h5⟩ := h
  rcases Nat.eq_zero_or_pos n with h0 | h0
  · subst h0
    rw [List.length_eq_zero_iff] at h1
    subst h1
    exact ⟨[], reads_nil w, rfl, fun a _ j u hu => by simp at hu⟩
  · obtain ⟨b, o, rfl, hb, hj⟩ := h5 h0
    refine ⟨(List.range (n * 2)).map fun j => (w.cell? ⟨b, o + j, none⟩).getD (.bool false), ⟨by simp; omega, fun j hl => ?_⟩, by simp, fun a e j u hu => ?_⟩
    · obtain ⟨A, m, c', B, m', d, e1, e2, e3, e4⟩ := hj j (by omega)
      refine ⟨A, m, c', B, m', d, ?_, ?_, e3, e4⟩
      · rw [List.getElem?_map, List.getElem?_range (by omega)]
        simp [e1]
      · rw [List.getElem?_map, List.getElem?_range (by omega)]
        simp [← Nat.add_assoc, e2]
    · injection e with e
      subst e
      rw [List.getElem?_map] at hu
      obtain ⟨i, hi, rfl⟩ := Option.map_eq_some_iff.1 hu
      obtain ⟨hi1, hi2⟩ := List.getElem?_eq_some_iff.1 hi
      simp at hi1 hi2
      subst hi2
      rw [add_lit]
      obtain ⟨A, m, c', B, m', d, e1, e2, _, _⟩ := hj (j / 2) (by omega)
      have hd : j = j / 2 * 2 ∨ j = j / 2 * 2 + 1 := by omega
      rcases hd with hd | hd
      · rw [← hd] at e1
        rw [e1]
        rfl
      · rw [show o + j / 2 * 2 + 1 = o + j by omega] at e2
        rw [e2]
        rfl

/-- What a slice leads to, if to anything, lies in block N or behind it. -/
def New (N : Nat) (A : Option Addr) : Prop := ∀ a, A = some a → N ≤ a.block

/-- A row of one's own is a slice of pairs. -/
theorem own_prs {w : World} {N n : Nat} {v : Value} {xs : List Value} {L : List Pr} (h : w.ownsRow N 45 2 v n xs) (hr : Reads w xs L) : ∃ A c, v = .slice A n c ∧ Prs w A n c L ∧ New N A := by
  have hl : L.length = n := by have := h.1; have := hr.1; omega
  rcases h.2 with ⟨rfl, rfl⟩ | ⟨g, cap, cur, rfl, hB, hh, hc1, hc2, _⟩
  · exact ⟨none, 0, rfl, ⟨hl, Nat.le_refl _, Nat.zero_le _, fun _ => rfl, fun h0 => absurd h0 (by omega)⟩, fun a e => by cases e⟩
  · refine ⟨_, _, rfl, ⟨hl, hc1, hc2, (fun e => by cases e), fun h0 => ⟨g, 0, rfl, (Array.getElem?_eq_some_iff.1 hh).1, fun j hj => ?_⟩⟩, fun a e => by injection e with e; subst e; exact hB⟩
    obtain ⟨A, m, c, B, m', d, e1, e2, e3, e4⟩ := hr.2 j (by omega)
    refine ⟨A, m, c, B, m', d, ?_, ?_, e3, e4⟩
    · have := h.cells (g := g) rfl _ _ e1
      rwa [add_lit] at this
    · have := h.cells (g := g) rfl _ _ e2
      rwa [add_lit, ← Nat.add_assoc] at this

/-- What a function that makes a row leaves. -/
def Made (w : World) (L : List Pr) (e : Ending) (w' : World) : Prop := ∃ A n c, e = .returned (.slice A n c) ∧ Prs w' A n c L ∧ Below w.heap.size w w'

theorem del_step (L : List Pr) (k : List UInt8) {j : Nat} (h : j < L.length) : delL (L.take (j + 1)) k = if sameB (gt L j).1 k then delL (L.take j) k else delL (L.take j) k ++ [gt L j] := by
  unfold delL
  rw [List.take_succ_eq_append_getElem h, List.filter_append, gt_eq h]
  cases hs : sameB L[j].1 k <;> simp [hs]

/-- Where the loop that puts together what is left has come to. -/
def DelInv (w : World) (L : List Pr) (k : List UInt8) (j : Nat) (v : Value) (wr : World) : Prop :=
  ∃ m xs, m ≤ j ∧ wr.ownsRow w.heap.size 45 2 v m xs ∧ Reads w xs (delL (L.take j) k) ∧ Below w.heap.size w wr

theorem two_cells {w : World} {x y : Value} {T : TypeId} : ∀ j u, [x, y][j]? = some u → (w.alloc (.cells #[x, y] T)).cell? ((⟨w.heap.size, 0, none⟩ : Addr).add j) = some u := by
  intro j u hu
  rcases j with _ | _ | j
  · simp at hu; subst hu; simp [Addr.add]
  · simp at hu; subst hu; simp [Addr.add]
  · simp at hu

set_option maxHeartbeats 2000000 in
theorem rdel_any {w : World} {A C : Option Addr} {n c o : Nat} (q : Nat) {L : List Pr} {k : List UInt8} (h : Prs w A n c L) (h' : Byt w C o k) (hn : n ≤ 1000) :
    Calls Try.prog 41 #[.slice A n c, .slice C o q] w (Made w (delL L k)) := by
  obtain ⟨i0, hi, hz0, hz1, hz2⟩ := info_parts Try.infoPair
  have HI := Lib.hid hi
  have HZ := Lib.hid (And.intro hz0 (And.intro hz1 hz2))
  clear hi hz0 hz1 hz2
  have HL := Lib.hid h.len
  have H := Lib.hid h
  have H' := Lib.hid h'
  clear h h'
  go_enter Try.func41, Try.ntmps41
  go_wp2
  go_loopw [5, 6] (fun v i wr => ∃ j : Nat, j ≤ n ∧ i = .int .i64 j ∧ DelInv w L k j v wr) (fun _ i _ => n - (intOf i).toNat)
  case atStart => exact ⟨0, Nat.zero_le _, rfl, 0, [], Nat.le_refl _, World.ownsRow_nil _ _ _ _, reads_nil w, Below.refl _ _⟩
  case round =>
    obtain ⟨j, hj, rfl, m, xs, hm, hown, hr, hb⟩ := hrel
    have HO := Lib.hid hown
    have HR := Lib.hid hr
    clear hown hr
    have hsz := hb.size
    by_cases hlt : j < n
    · have hst := del_step L k (show j < L.length by rw [HL.out]; exact hlt)
      have HST := Lib.hid hst
      clear hst
      obtain ⟨b, oo, rfl, hbl, A1, n1, c1, B1, m1, d1, k0, k1, y1, y2⟩ := (H.out.below hb).at_ hlt
      have HY := Lib.hid (show ∃ p : Pr, p = gt L j ∧ Byt w A1 n1 p.1 ∧ Byt w B1 m1 p.2 by
        obtain ⟨b', oo', ee, hbl', A2, n2, c2, B2, m2, d2, l0, l1, z1, z2⟩ := H.out.at_ hlt
        simp at ee
        obtain ⟨rfl, rfl⟩ := ee
        have q0 := (hb.cell (p := ⟨b, oo + j * 2, none⟩) hbl').trans l0
        have q1 := (hb.cell (p := ⟨b, oo + j * 2 + 1, none⟩) hbl').trans l1
        rw [k0] at q0
        rw [k1] at q1
        simp at q0 q1
        obtain ⟨rfl, rfl, rfl⟩ := q0
        obtain ⟨rfl, rfl, rfl⟩ := q1
        exact ⟨_, rfl, z1, z2⟩)
      have HC := same_any c1 q y1 (H'.out.below hb)
      clear y1 y2
      cases hsm : sameB (gt L j).1 k
      · rw [hsm] at HC HST
        clear hsm
        go_wp2_with fail
        refine HC.mono ?_
        rintro e w' ⟨rfl, rfl⟩
        go_wp2_with (at_builtin; refine wpList_append_own _ rfl _ _ 43 rfl w.heap.size 45 i0 (.agg #[.slice none 0 0, .slice none 0 0]) 2 48 Try.underlying43 HI.out HZ.out.1 HZ.out.2.1 HZ.out.2.2 rfl (by decide) _ _ _ rfl (HO.out.alloc _) ⟨wr.heap.size, 0, none⟩ 1 1 [.slice A1 n1 c1, .slice B1 m1 d1] rfl rfl ?c1 ?c2 ?c3 ?c4 ?c5 ?_)
        case c1 => exact two_cells
        case c2 => intro u hu; simp at hu; rcases hu with rfl | rfl <;> rfl
        case c3 => unfold maxLen; omega
        case c4 => omega
        case c5 => simp; omega
        intro v' w1 hown' hgr _
        have HO' := Lib.hid hown'
        have HG := Lib.hid hgr
        clear hown' hgr
        go_wp2
        go_roundw
        case rel =>
          refine ⟨j + 1, by omega, by go_num, m + 1, _, by omega, HO'.out, ?_, ?_⟩
          · rw [HST.out]
            obtain ⟨p, rfl, z1, z2⟩ := HY.out
            exact HR.out.append (reads_one c1 d1 z1 z2)
          · exact (hb.alloc hsz _).grown HG.out (by simp; omega) (fun t e => (HO.out.lt t e).1)
        case measure => simp [intOf]; omega
      · rw [hsm] at HC HST
        clear hsm
        go_wp2_with fail
        refine HC.mono ?_
        rintro e w' ⟨rfl, rfl⟩
        go_wp2
        go_roundw
        case rel => exact ⟨j + 1, by omega, by go_num, m, xs, by omega, HO.out, by rw [HST.out]; exact HR.out, hb⟩
        case measure => simp [intOf]; omega
    · have hall : L.take j = L := List.take_of_length_le (by rw [HL.out]; omega)
      rw [hall] at HR
      obtain ⟨A2, c2, rfl, hp, _⟩ := own_prs HO.out (HR.out.below hb)
      have HP := Lib.hid hp
      clear hp hall
      go_wp2
      go_ret
      exact ⟨A2, m, c2, rfl, HP.out, hb⟩
end Go.Proofs.Ytdhgogepjedonaa

namespace Go.Proofs.Ytdhgogepjedonaa
open Go.RowKit
set_option linter.unusedVariables false
set_option maxRecDepth 100000

/-- append of pairs that could be read at some time, nil included, to a row of one's own. -/
theorem wpList_append_prs {w w0 : World} {ops : Array Oper} {rest : List Oper} {o : Oper} {a : Act} {Q : Exit → Act → World → Prop} (hgd : o.guard = none) (s x : Operand)
    (ho : o.op = .call { callee := .builtin .append, args := #[s, x], argTypes := #[43, 43] })
    (base : Nat) (v : Value) (n : Nat) (xs : List Value) (hs : a.eval s = v) (hown : w.ownsRow base 45 2 v n xs)
    (A : Option Addr) (m c : Nat) (L : List Pr) (hx : a.eval x = .slice A m c) (hp : Prs w0 A m c L) (hb : Below w0.heap.size w0 w) (h63 : n + m ≤ 3000) (hbase : base ≤ w.heap.size)
    (h : ∀ v' w' ys, Reads w0 ys L → w'.ownsRow base 45 2 v' (n + m) (xs ++ ys) → w.grownBy w' v.ownBlock → wpList Try.prog ops Q rest (a.put o.dst v') w') :
    wpList Try.prog ops Q (o :: rest) a w := by
  obtain ⟨i0, hi, hz0, hz1, hz2⟩ := info_parts Try.infoPair
  obtain ⟨ys, hr, hl, hc⟩ := hp.cells
  cases A with
  | none =>
    obtain rfl : c = 0 := hp.2.2.2.1 rfl
    obtain rfl : m = 0 := Nat.le_zero.1 hp.2.1
    obtain rfl : ys = [] := List.eq_nil_of_length_eq_zero (by omega)
    refine wpList_append_own_none (w := w) hgd s x _ ho base 45 i0 2 Try.underlying43 hi v n xs hs hown hx ?_
    exact h v w [] hr (by simpa using hown) (World.grownBy.refl _ _)
  | some ad =>
    refine wpList_append_own w hgd s x _ ho base 45 i0 (.agg #[.slice none 0 0, .slice none 0 0]) 2 48 Try.underlying43 hi hz0 hz1 hz2 rfl (by decide) v n xs hs hown ad m c ys hx hl (fun j u hu => ?_) hr.one (by unfold maxLen; omega) (by omega) hbase ?_
    · have hcell := hc ad rfl j u hu
      have hlt := World.block_lt_of_cell? w0 _ hcell
      exact (hb.cell hlt).trans hcell
    intro v' w' h1 h2 _
    exact h v' w' ys hr h1 h2

theorem own_below {w0 w w' : World} {v : Value} {n : Nat} {xs : List Value} {e s : Nat} (hb : Below w0.heap.size w0 w) (ho : w.ownsRow w0.heap.size e s v n xs) (hg : w.grownBy w' v.ownBlock) : Below w0.heap.size w0 w' :=
  hb.grown hg hb.size (fun k hk => (ho.lt k hk).1)

theorem take_len {L : List Pr} {n : Nat} (h : n ≤ L.length) : (L.take n).length = n := by simp; omega

set_option maxHeartbeats 2000000 in
theorem rput_any {w : World} {A C D : Option Addr} {n c o p : Nat} (q r : Nat) {L : List Pr} {k v : List UInt8} (h : Prs w A n c L) (h' : Byt w C o k) (h'' : Byt w D p v) (hs : Srt L) (hm : Small L) (ho : o ≤ 1000) (hn : n ≤ 1000) :
    Calls Try.prog 42 #[.slice A n c, .slice C o q, .slice D p r] w (Made w (putL L k v)) := by
  have H := Lib.hid h
  have H' := Lib.hid h'
  have H'' := Lib.hid h''
  have HS := Lib.hid (srt_del hs k)
  have HM := Lib.hid (show Small (delL L k) from fun p hp => hm p (mem_del hp))
  have HD := rdel_any q h h' hn
  have HN := Lib.hid (show (delL L k).length ≤ 1000 from Nat.le_trans (len_del L k) (by rw [h.len]; exact hn))
  have HP := Lib.hid (pos_le (delL L k) k)
  have HE := Lib.hid (show putL L k v = (delL L k).take (pos (delL L k) k) ++ [(k, v)] ++ (delL L k).drop (pos (delL L k) k) by unfold putL; simp)
  clear h h' h'' hs hm
  go_enter Try.func42, Try.ntmps42
  go_wp2_with fail
  refine HD.mono ?_
  rintro e w1 ⟨A1, n1, c1, rfl, hp1, hb1⟩
  have hl1 := hp1.len
  have HP1 := Lib.hid hp1
  have HB1 := Lib.hid hb1
  clear hp1 hb1 HD
  have HN1 : n1 ≤ 1000 := by rw [← hl1]; exact HN.out
  have HPN : pos (delL L k) k ≤ n1 := by rw [← hl1]; exact HP.out
  clear hl1
  have HF := rfind_any q HP1.out (H'.out.below HB1.out) HS.out HM.out ho
  go_wp2_with fail
  refine HF.mono ?_
  rintro e w2 ⟨rfl, hd⟩
  clear HF
  have HP2 := Lib.hid (hd.prs HP1.out)
  have HB2 : Below w.heap.size w w2 := by
    obtain ⟨d, rfl⟩ := hd
    exact below_drewN HB1.out d
  have HB2 := Lib.hid HB2
  clear hd
  generalize pos (delL L k) k = P at *
  have hPc : P ≤ c1 := Nat.le_trans HPN HP1.out.2.1
  clear HP1 HB1
  have B1 : Below w2.heap.size w2 (w2.alloc (.cells #[] 45)) := (Below.refl _ _).alloc (Nat.le_refl _) _
  have O1 : (w2.alloc (.cells #[] 45)).ownsRow w2.heap.size 45 2 (.slice (some ⟨w2.heap.size, 0, none⟩) 0 0) 0 [] := World.ownsRow_made w2 #[] 0 (Nat.le_refl _) (Nat.zero_le _) rfl
  have B1 := Lib.hid B1
  have O1 := Lib.hid O1
  go_wp2_with (at_builtin; refine wpList_append_prs rfl _ _ rfl w2.heap.size _ 0 [] rfl O1.out A1 P c1 ((delL L k).take P) rfl (HP2.out.upto HPN) B1.out (by omega) B1.out.size ?_)
  intro v1 w3 ys1 hr1 hown1 hg1
  have B2 := Lib.hid (own_below B1.out O1.out hg1)
  have R1 := Lib.hid hr1
  have O2 := Lib.hid hown1
  clear hr1 hown1 hg1 B1 O1
  obtain ⟨i0, hi, hz0, hz1, hz2⟩ := info_parts Try.infoPair
  have HI := Lib.hid hi
  have HZ := Lib.hid (And.intro hz0 (And.intro hz1 hz2))
  clear hi hz0 hz1 hz2
  have B3 := Lib.hid (B2.out.alloc B2.out.size (.cells #[.slice C o q, .slice D p r] 45))
  have O3 := Lib.hid (O2.out.alloc (.cells #[.slice C o q, .slice D p r] 45))
  have hsz := Lib.hid B2.out.size
  clear B2 O2
  go_wp2_with (at_builtin; refine wpList_append_own _ rfl _ _ 43 rfl w2.heap.size 45 i0 (.agg #[.slice none 0 0, .slice none 0 0]) 2 48 Try.underlying43 HI.out HZ.out.1 HZ.out.2.1 HZ.out.2.2 rfl (by decide) v1 P ys1 rfl O3.out ⟨w3.heap.size, 0, none⟩ 1 1 [.slice C o q, .slice D p r] rfl rfl two_cells ?c2 (by unfold maxLen; omega) (by omega) B3.out.size ?_)
  case c2 => intro u hu; simp at hu; rcases hu with rfl | rfl <;> rfl
  intro v2 w4 hown2 hg2 hnil
  clear hnil
  have B4 := Lib.hid (own_below B3.out O3.out hg2)
  have O4 := Lib.hid hown2
  have R4 := Lib.hid (R1.out.append (reads_one (p := (k, v)) q r (H'.out.below HB2.out) (H''.out.below HB2.out)))
  clear hown2 hg2 B3 O3 R1
  have HP5 := Lib.hid (HP2.out.from HPN)
  go_wp2_with (at_builtin; refine wpList_append_prs rfl _ _ rfl w2.heap.size v2 (P + 1) _ rfl O4.out (cutA A1 P c1) (n1 - P) (c1 - P) ((delL L k).drop P) rfl HP5.out B4.out (by omega) B4.out.size ?_)
  all_goals
    intro v3 w5 ys3 hr3 hown3 hg3
    have B5 := Lib.hid (own_below B4.out O4.out hg3)
    have R5 := Lib.hid (R4.out.append hr3)
    have O5 := Lib.hid (show w5.ownsRow w2.heap.size 45 2 v3 (P + 1 + (n1 - P)) (ys1 ++ [.slice C o q, .slice D p r] ++ ys3) by simpa using hown3)
    clear hown3 hr3 hg3 B4 O4 R4
    go_wp2
    go_ret
    obtain ⟨A6, c6, rfl, hp6, _⟩ := own_prs O5.out (R5.out.below B5.out)
    refine ⟨A6, _, c6, rfl, ?_, HB2.out.trans (B5.out.mono HB2.out.size)⟩
    rw [HE.out]
    exact hp6

theorem rowl_len {L : List Pr} {j : Nat} (h : j ≤ L.length) : (rowL (L.take j)).length ≤ j := (row_fit L j h).2

/-- Where the loop that makes a row of any pairs has come to. -/
def RowInv (w : World) (L : List Pr) (j : Nat) (v : Value) (wr : World) : Prop :=
  ∃ A m c, v = .slice A m c ∧ Prs wr A m c (rowL (L.take j)) ∧ Below w.heap.size w wr

theorem small_fit {L : List Pr} (h : Fit L) : Small L := by
  intro p hp
  have := h.2 p hp
  unfold fairB mayB at this
  simp at this
  omega

end Go.Proofs.Ytdhgogepjedonaa

namespace Go.Proofs.Ytdhgogepjedonaa
open Go.RowKit
set_option linter.unusedVariables false
set_option maxRecDepth 100000

theorem Try.infoU8 : (Try.prog.info? 5).map (fun i => (i.zero, i.size, i.bytes)) = some (some (.int .u8 0), 1, 1) := by kernel_rfl

def cellsB (l : List UInt8) : List Value := l.map fun u => Value.int .u8 (u.toNat : Int)

theorem New.mono {N M : Nat} {A : Option Addr} (h : New N A) (hm : M ≤ N) : New M A := fun a e => Nat.le_trans hm (h a e)

theorem byt_own {w : World} {B : Nat} {e : TypeId} {v : Value} {n : Nat} {l : List UInt8} (h : w.ownsRow B e 1 v n (cellsB l)) : ∃ A c, v = .slice A n c ∧ Byt w A n l ∧ New B A := by
  have hl : l.length = n := by have := h.1; simpa [cellsB] using this
  rcases h.2 with ⟨rfl, rfl⟩ | ⟨g, cap, cur, rfl, hB, hh, _⟩
  · exact ⟨none, 0, rfl, ⟨hl, fun h0 => absurd h0 (by omega)⟩, fun a e => by cases e⟩
  · refine ⟨_, _, rfl, ⟨hl, fun h0 => ⟨_, rfl, (Array.getElem?_eq_some_iff.1 hh).1, fun j hj => ?_⟩⟩, fun a e => by injection e with e; subst e; exact hB⟩
    exact h.cells (g := g) rfl j _ (by simp [cellsB, List.getElem?_eq_getElem hj])

/-- What Clone leaves. -/
def Cloned (w : World) (n : Nat) (l : List UInt8) (e : Ending) (w' : World) : Prop := ∃ A c, e = .returned (.slice A n c) ∧ Byt w' A n l ∧ New w.heap.size A ∧ Below w.heap.size w w'

set_option maxHeartbeats 1000000 in
theorem clone_some {w : World} (a : Addr) {n : Nat} (c : Nat) {l : List UInt8} (h : Byt w (some a) n l) (hn : n ≤ 1000) :
    Calls Try.prog 67 #[.slice (some a) n c] w (Cloned w n l) := by
  obtain ⟨i0, hi, hz0, hz1, hz2⟩ := info_parts Try.infoU8
  have hq : ∀ (w : World) (a : Option Addr) (n c n' c' : Nat), (binOp .eql 31 (.slice a n c) (.slice none n' c')).run Try.prog w = .ok (.bool a.isNone) w := fun w a n c n' c' => Lib.run_eql_slice_nil w _ _ a n c n' c' Try.underlying31
  have H := Lib.hid h
  clear h
  go_enter Try.func67, Try.ntmps67
  go_wp2_with (at_builtin; refine wpList_append_own _ rfl _ _ 31 rfl w.heap.size 5 i0 (.int .u8 0) 1 1 Try.underlying31 hi hz0 hz1 hz2 rfl (by decide) _ _ _ rfl (World.ownsRow_made w #[] 0 (Nat.le_refl _) (Nat.zero_le _) rfl) a n c (cellsB l) rfl ?q1 ?q2 ?q3 ?q4 ?q5 ?q6 ?_)
  case q1 => simp [cellsB, H.out.1]
  case q2 =>
    intro j u hj
    have hl : j < l.length := by
      have := (List.getElem?_eq_some_iff.1 hj).1
      simpa [cellsB] using this
    obtain ⟨a', e, _, hc⟩ := (H.out.alloc (.cells #[] 5)).2 (by have := H.out.1; omega)
    injection e with e
    subst e
    rw [hc j hl]
    simp [cellsB, List.getElem?_eq_getElem hl] at hj
    rw [hj]
  case q3 =>
    intro u hu
    obtain ⟨x, _, rfl⟩ := List.mem_map.1 hu
    rfl
  case q4 => unfold maxLen; omega
  case q5 => omega
  case q6 => simp
  intro v' w1 hown hgrow hnil
  clear hnil
  go_wp2
  go_ret
  obtain ⟨A, c', rfl, hb, hN⟩ := byt_own hown
  exact ⟨A, c', rfl, hb, hN, ((Below.refl _ w).alloc (Nat.le_refl _) _).grown hgrow (by simp) (by intro k hk; simp [Value.ownBlock] at hk; omega)⟩

set_option maxHeartbeats 400000 in
theorem clone_nil {w : World} {n : Nat} (c : Nat) {l : List UInt8} (h : Byt w none n l) :
    Calls Try.prog 67 #[.slice none n c] w (Cloned w n l) := by
  have hq : ∀ (w : World) (a : Option Addr) (n c n' c' : Nat), (binOp .eql 31 (.slice a n c) (.slice none n' c')).run Try.prog w = .ok (.bool a.isNone) w := fun w a n c n' c' => Lib.run_eql_slice_nil w _ _ a n c n' c' Try.underlying31
  have h0 : n = 0 := by
    rcases Nat.eq_zero_or_pos n with h0 | h0
    · exact h0
    · obtain ⟨a, e, _⟩ := h.2 h0
      cases e
  subst h0
  have H := Lib.hid h
  clear h
  go_enter Try.func67, Try.ntmps67
  go_wp2
  go_ret
  exact ⟨none, 0, rfl, H.out, (fun a e => by cases e), Below.refl _ _⟩

theorem clone_any {w : World} {A : Option Addr} {n : Nat} (c : Nat) {l : List UInt8} (h : Byt w A n l) (hn : n ≤ 1000) :
    Calls Try.prog 67 #[.slice A n c] w (Cloned w n l) := by
  cases A with
  | none => exact clone_nil c h
  | some a => exact clone_some a c h hn

/-- What Grow of nothing leaves. -/
def Grown (w : World) (e : Ending) (w' : World) : Prop := ∃ v, e = .returned v ∧ w'.ownsRow w.heap.size 45 2 v 0 [] ∧ Below w.heap.size w w'

set_option maxHeartbeats 1000000 in
theorem grow_nil {w : World} (n : Nat) (hn : n ≤ 3000) :
    Calls Try.prog 73 #[.slice none 0 0, .int .i64 n] w (Grown w) := by
  obtain ⟨i0, hi, hz0, hz1, hz2⟩ := info_parts Try.infoPair
  rcases Nat.eq_zero_or_pos n with h0 | h0
  · subst h0
    clear hn
    go_enter Try.func73, Try.ntmps73
    go_wp2
    go_ret
    exact ⟨_, rfl, World.ownsRow_nil _ _ _ _, Below.refl _ _⟩
  · have HR := Lib.hid (Lib.run_append_nil_zeros (P := Try.prog) w 43 3 43 45 i0 (.agg #[.slice none 0 0, .slice none 0 0]) .i64 .i64 Try.underlying43 Try.underlying3 hi hz0 n h0 (by rw [hz1]; decide) (by omega) (by rw [hz2]; omega))
    have hge := grownCap_ge w n 0 45
    have hle := grownCap_le_maxLen w n 0 45 (by unfold maxLen; omega)
    generalize grownCap w n 0 45 = g at HR hge hle
    clear hi hz0 hz1 hz2
    go_enter Try.func73, Try.ntmps73
    go_wp2_with (at_builtin; refine Lib.wpList_append_run _ rfl _ _ _ _ rfl _ _ rfl rfl _ _ HR.out ?_)
    go_ret
    refine ⟨_, rfl, ?_, ?_⟩
    · refine World.ownsRow_made (base := w.heap.size) w.drew _ g (Nat.le_refl _) hle ?_
      simp [size_zeroCells]
      omega
    · exact ((Below.refl w.heap.size w).drew).alloc (Nat.le_refl _) _
end Go.Proofs.Ytdhgogepjedonaa

namespace Go.Proofs.Ytdhgogepjedonaa
open Go.RowKit
set_option linter.unusedVariables false
set_option maxRecDepth 100000

/-- The sum, and the one list, of the first pieces. -/
def sumN (f : Nat → Nat) : Nat → Nat
  | 0 => 0
  | j + 1 => sumN f j + f j
def catL (f : Nat → List Pr) : Nat → List Pr
  | 0 => []
  | j + 1 => catL f j ++ f j
theorem sum_mono (f : Nat → Nat) {i j : Nat} (h : i ≤ j) : sumN f i ≤ sumN f j := by
  induction h with
  | refl => exact Nat.le_refl _
  | step h ih => exact Nat.le_trans ih (Nat.le_add_right _ _)

/-- Pieces: cells of block b, each a slice of pairs that can be read. -/
def Pieces (w : World) (b m : Nat) (A : Nat → Option Addr) (n c : Nat → Nat) (L : Nat → List Pr) : Prop :=
  b < w.heap.size ∧ ∀ j, j < m → w.cell? ⟨b, j, none⟩ = some (.slice (A j) (n j) (c j)) ∧ Prs w (A j) (n j) (c j) (L j)

theorem Pieces.below {w w' : World} {b m : Nat} {A : Nat → Option Addr} {n c : Nat → Nat} {L : Nat → List Pr} (h : Pieces w b m A n c L) (hb : Below w.heap.size w w') : Pieces w' b m A n c L :=
  ⟨Nat.lt_of_lt_of_le h.1 hb.size, fun j hj => ⟨(hb.cell (p := ⟨b, j, none⟩) h.1).trans (h.2 j hj).1, (h.2 j hj).2.below hb⟩⟩

/-- What Concat leaves: a row of its own. -/
def Catted (w : World) (L : List Pr) (e : Ending) (w' : World) : Prop := ∃ v n xs, e = .returned v ∧ w'.ownsRow w.heap.size 45 2 v n xs ∧ Reads w xs L ∧ Below w.heap.size w w'

def CatInv (w : World) (L : Nat → List Pr) (s j : Nat) (v : Value) (wr : World) : Prop :=
  ∃ xs, wr.ownsRow w.heap.size 45 2 v s xs ∧ Reads w xs (catL L j) ∧ Below w.heap.size w wr

set_option maxHeartbeats 2000000 in
theorem concat_any {w : World} {b m : Nat} {A : Nat → Option Addr} {n c : Nat → Nat} {L : Nat → List Pr} (h : Pieces w b m A n c L) (hm : m ≤ 3) (hs : sumN n m ≤ 3000) :
    Calls Try.prog 70 #[.slice (some ⟨b, 0, none⟩) m m] w (Catted w (catL L m)) := by
  have H := Lib.hid h
  have HS := Lib.hid hs
  clear h hs
  go_enter Try.func70, Try.ntmps70
  go_wp2
  go_loop [3, 11] (fun s i => ∃ j : Nat, j ≤ m ∧ i = .int .i64 j ∧ s = .int .i64 (sumN n j : Nat)) (fun _ i => m - (intOf i).toNat)
  case atStart => exact ⟨0, Nat.zero_le _, rfl, rfl⟩
  case round =>
    obtain ⟨j, hj, rfl, rfl⟩ := hrel
    by_cases hlt : j < m
    · obtain ⟨k0, _⟩ := H.out.2 j hlt
      have hle : sumN n j + n j ≤ 3000 := Nat.le_trans (sum_mono n (show j + 1 ≤ m from hlt)) HS.out
      have hsm : sumN n (j + 1) = sumN n j + n j := rfl
      have HSM := Lib.hid hsm
      clear hsm
      go_wp2
      go_round
      case rel => exact ⟨j + 1, by omega, by go_num, by rw [HSM.out]; go_num⟩
      case measure => simp [intOf]; omega
    · obtain rfl : j = m := by omega
      have HG := grow_nil (w := w) (sumN n j) HS.out
      have hsl := HS.out
      go_wp2_with fail
      refine HG.mono ?_
      rintro e w1 ⟨v, rfl, hown, hb⟩
      have HO := Lib.hid hown
      have HB := Lib.hid hb
      clear hown hb HG
      go_wp2
      go_loopw [6, 27] (fun v i wr => ∃ t : Nat, t ≤ j ∧ i = .int .i64 t ∧ CatInv w L (sumN n t) t v wr) (fun _ i _ => j - (intOf i).toNat)
      case atStart => exact ⟨0, Nat.zero_le _, rfl, [], HO.out, reads_nil w, HB.out⟩
      case round =>
        obtain ⟨t, ht, rfl, xs, hown, hr, hb⟩ := hrel
        have HO2 := Lib.hid hown
        have HR := Lib.hid hr
        have HB2 := Lib.hid hb
        clear hown hr hb
        by_cases htl : t < j
        · obtain ⟨k0, hp⟩ := H.out.2 t htl
          have k1 : wr.cell? ⟨b, t, none⟩ = some (.slice (A t) (n t) (c t)) := (HB2.out.cell (p := ⟨b, t, none⟩) H.out.1).trans k0
          have HP := Lib.hid hp
          have hle : sumN n t + n t ≤ 3000 := Nat.le_trans (sum_mono n (show t + 1 ≤ j from htl)) HS.out
          clear k0 hp
          go_wp2_with (at_builtin; refine wpList_append_prs rfl _ _ rfl w.heap.size _ (sumN n t) xs rfl HO2.out (A t) (n t) (c t) (L t) rfl HP.out HB2.out hle HB2.out.size ?_)
          intro v' w2 ys hr hown hg
          have HB3 := Lib.hid (own_below HB2.out HO2.out hg)
          have HO3 := Lib.hid hown
          have HR3 := Lib.hid (HR.out.append hr)
          clear hr hown hg
          go_wp2
          go_roundw
          case rel => exact ⟨t + 1, by omega, by go_num, _, HO3.out, HR3.out, HB3.out⟩
          case measure => simp [intOf]; omega
        · obtain rfl : t = j := by omega
          go_wp2
          go_ret
          exact ⟨_, _, xs, rfl, HO2.out, HR.out, HB2.out⟩
end Go.Proofs.Ytdhgogepjedonaa

namespace Go.Proofs.Ytdhgogepjedonaa
open Go.RowKit
set_option linter.unusedVariables false
set_option maxRecDepth 100000

/-- A slice of bytes that reads as a list, and does not lie in block g. -/
def BytF (g : Nat) (w : World) (A : Option Addr) (n : Nat) (l : List UInt8) : Prop := Byt w A n l ∧ ∀ a, 0 < n → A = some a → a.block ≠ g
theorem BytF.below {g : Nat} {w w' : World} {A : Option Addr} {n : Nat} {l : List UInt8} (h : BytF g w A n l) (hb : Below w.heap.size w w') : BytF g w' A n l := ⟨h.1.below hb, h.2⟩
theorem BytF.set {g : Nat} {w : World} {A : Option Addr} {n : Nat} {l : List UInt8} (h : BytF g w A n l) (k : Nat) (u : Value) : BytF g (w.setCell ⟨g, k, none⟩ u) A n l :=
  ⟨⟨h.1.1, fun h0 => by
    obtain ⟨a, e, hb, hj⟩ := h.1.2 h0
    exact ⟨a, e, by simpa [World.setCell] using hb, fun j hl => (World.cell?_setCell_other w ⟨g, k, none⟩ _ u (fun e' => h.2 a h0 e (by rw [← add_block a j, ← e']))).trans (hj j hl)⟩⟩, h.2⟩
theorem Byt.f {g : Nat} {w : World} {A : Option Addr} {n : Nat} {l : List UInt8} (h : Byt w A n l) (hg : w.heap.size ≤ g) : BytF g w A n l :=
  ⟨h, fun a h0 e => by
    obtain ⟨a', e', hb, _⟩ := h.2 h0
    rw [e] at e'
    injection e' with e'
    subst e'
    omega⟩
theorem Byt.new {g : Nat} {w : World} {A : Option Addr} {n : Nat} {l : List UInt8} (h : Byt w A n l) (hg : New (g + 1) A) : BytF g w A n l :=
  ⟨h, fun a h0 e => by have := hg a e; omega⟩

/-- Cells that read as pairs, none of whose bytes lie in block g. -/
def ReadsF (g : Nat) (w : World) (xs : List Value) (L : List Pr) : Prop :=
  xs.length = L.length * 2 ∧ ∀ j, j < L.length → ∃ A n c B m d, xs[j * 2]? = some (.slice A n c) ∧ xs[j * 2 + 1]? = some (.slice B m d) ∧ BytF g w A n (gt L j).1 ∧ BytF g w B m (gt L j).2
theorem ReadsF.reads {g : Nat} {w : World} {xs : List Value} {L : List Pr} (h : ReadsF g w xs L) : Reads w xs L :=
  ⟨h.1, fun j hj => by
    obtain ⟨A, n, c, B, m, d, e1, e2, e3, e4⟩ := h.2 j hj
    exact ⟨A, n, c, B, m, d, e1, e2, e3.1, e4.1⟩⟩
theorem Reads.f {g : Nat} {w : World} {xs : List Value} {L : List Pr} (h : Reads w xs L) (hg : w.heap.size ≤ g) : ReadsF g w xs L :=
  ⟨h.1, fun j hj => by
    obtain ⟨A, n, c, B, m, d, e1, e2, e3, e4⟩ := h.2 j hj
    exact ⟨A, n, c, B, m, d, e1, e2, e3.f hg, e4.f hg⟩⟩
theorem ReadsF.below {g : Nat} {w w' : World} {xs : List Value} {L : List Pr} (h : ReadsF g w xs L) (hb : Below w.heap.size w w') : ReadsF g w' xs L :=
  ⟨h.1, fun j hj => by
    obtain ⟨A, n, c, B, m, d, e1, e2, e3, e4⟩ := h.2 j hj
    exact ⟨A, n, c, B, m, d, e1, e2, e3.below hb, e4.below hb⟩⟩
theorem ReadsF.set {g : Nat} {w : World} {xs : List Value} {L : List Pr} (h : ReadsF g w xs L) (k : Nat) (u : Value) : ReadsF g (w.setCell ⟨g, k, none⟩ u) xs L :=
  ⟨h.1, fun j hj => by
    obtain ⟨A, n, c, B, m, d, e1, e2, e3, e4⟩ := h.2 j hj
    exact ⟨A, n, c, B, m, d, e1, e2, e3.set k u, e4.set k u⟩⟩
theorem ReadsF.put {g : Nat} {w : World} {xs : List Value} {L : List Pr} (h : ReadsF g w xs L) {j : Nat} (hj : j < L.length) {A B : Option Addr} {n m : Nat} (c d : Nat) (ha : BytF g w A n (gt L j).1) (hb : BytF g w B m (gt L j).2) :
    ReadsF g w ((xs.set (j * 2) (.slice A n c)).set (j * 2 + 1) (.slice B m d)) L := by
  have hl := h.1
  refine ⟨by simp [hl], fun i hi => ?_⟩
  by_cases e : i = j
  · subst e
    refine ⟨A, n, c, B, m, d, ?_, ?_, ha, hb⟩
    · rw [List.getElem?_set_ne (by omega), List.getElem?_set_self (by omega)]
    · rw [List.getElem?_set_self (by simp; omega)]
  · obtain ⟨A, n, c, B, m, d, e1, e2, e3, e4⟩ := h.2 i hi
    refine ⟨A, n, c, B, m, d, ?_, ?_, e3, e4⟩
    · rw [List.getElem?_set_ne (by omega), List.getElem?_set_ne (by omega), e1]
    · rw [List.getElem?_set_ne (by omega), List.getElem?_set_ne (by omega), e2]

/-- Where the loop that copies each pair has come to. -/
def ToldInv (w : World) (g n cap : Nat) (L : List Pr) (wr : World) : Prop :=
  ∃ xs, wr.ownsRow w.heap.size 45 2 (.slice (some ⟨g, 0, none⟩) n cap) n xs ∧ ReadsF g wr xs L ∧ Below w.heap.size w wr ∧ w.heap.size ≤ g ∧ g < wr.heap.size

theorem own_keep {w w' : World} {base e size n : Nat} {v : Value} {xs : List Value} (h : w.ownsRow base e size v n xs) (hb : Below w.heap.size w w') : w'.ownsRow base e size v n xs :=
  h.kept (row := none) ⟨hb.os, hb.tape, hb.output, hb.size, fun k hk _ => hb.block k hk⟩ (by cases hv : v.ownBlock <;> simp)
theorem box_0 (w : World) (x y : Value) (T : TypeId) : (w.alloc (.cells #[x, y] T)).cell? ⟨w.heap.size, 0, none⟩ = some x := by simp
theorem box_1 (w : World) (x y : Value) (T : TypeId) : (w.alloc (.cells #[x, y] T)).cell? ⟨w.heap.size, 1, none⟩ = some y := by simp

theorem undrew {B : Nat} {w w' : World} (h : Below B w.drew w') : Below B w w' := ⟨h.os, h.tape, h.output, h.size, h.block⟩

/-- What one round of that loop leaves. -/
theorem told_round {w wr w3 w4 : World} {g k cap j n1 m1 x2 x3 : Nat} {M : List Pr} {ys : List Value} {A2 B2 : Option Addr} (c1 d1 : Nat) (hj : j < M.length)
    (hown : wr.ownsRow w.heap.size 45 2 (.slice (some ⟨g, 0, none⟩) k cap) k ys) (hr : ReadsF g wr ys M) (hb : Below w.heap.size w wr) (hg1 : w.heap.size ≤ g) (hg2 : g < wr.heap.size)
    (hb3 : Below wr.heap.size wr w3) (p2 : Byt w3 A2 n1 (gt M j).1) (n2 : New (g + 1) A2) (hb4 : Below w3.heap.size w3 w4) (p3 : Byt w4 B2 m1 (gt M j).2) (n3 : New (g + 1) B2) :
    ToldInv w g k cap M ((w4.setCell ⟨g, j * 2, none⟩ (.slice A2 n1 x2)).setCell ⟨g, j * 2 + 1, none⟩ (.slice B2 m1 x3)) := by
  have hb34 : Below wr.heap.size wr w4 := hb3.trans (hb4.mono hb3.size)
  have o4 := own_keep hown hb34
  have r4 := hr.below hb34
  have r5 := (r4.set (j * 2) (.slice A2 n1 x2)).set (j * 2 + 1) (.slice B2 m1 x3)
  have q2 : BytF g _ A2 n1 (gt M j).1 := (((p2.below hb4).new n2).set (j * 2) (.slice A2 n1 x2)).set (j * 2 + 1) (.slice B2 m1 x3)
  have q3 : BytF g _ B2 m1 (gt M j).2 := ((p3.new n3).set (j * 2) (.slice A2 n1 x2)).set (j * 2 + 1) (.slice B2 m1 x3)
  refine ⟨_, ((o4.stored (j * 2) (.slice A2 n1 x2)).1.stored (j * 2 + 1) (.slice B2 m1 x3)).1, r5.put hj x2 x3 q2 q3, ?_, hg1, ?_⟩
  · exact ((hb.trans (hb34.mono hb.size)).setCell hg1 _).setCell hg1 _
  · have := hb34.size
    simp [World.setCell]
    omega

set_option maxHeartbeats 2000000 in
theorem told_any {w : World} {b m : Nat} {A : Nat → Option Addr} {n c : Nat → Nat} {L : Nat → List Pr} (h : Pieces w b m A n c L) (hm : m ≤ 3) (hs : sumN n m ≤ 3000) (hsm : Small (catL L m)) :
    Calls Try.prog 64 #[.slice (some ⟨b, 0, none⟩) m m] w (Made w (catL L m)) := by
  have HC := concat_any h hm hs
  have HM := Lib.hid hsm
  clear h hm hs hsm
  generalize catL L m = M at HC HM
  go_enter Try.func64, Try.ntmps64
  go_wp2_with fail
  refine HC.mono ?_
  rintro e w1 ⟨v, k, xs, rfl, hown, hr, hb⟩
  clear HC
  rcases Nat.eq_zero_or_pos k with h0 | h0
  · obtain ⟨A1, c1, rfl, hp, _⟩ := own_prs hown (hr.below hb)
    have HP := Lib.hid hp
    have HB := Lib.hid hb
    clear hp hb hown hr
    subst h0
    go_wp2
    go_loopw [10] (fun i wr => i = .int .i64 0 ∧ wr = w1) (fun _ _ => 0)
    case atStart => exact ⟨rfl, rfl⟩
    case round =>
      obtain ⟨rfl, rfl⟩ := hrel
      go_wp2
      go_ret
      exact ⟨A1, 0, c1, rfl, HP.out, HB.out⟩
  · obtain ⟨g, cap, rfl, hg⟩ : ∃ g cap, v = .slice (some ⟨g, 0, none⟩) k cap ∧ w.heap.size ≤ g ∧ g < w1.heap.size ∧ k ≤ cap := by
      rcases hown.2 with ⟨_, rfl⟩ | ⟨g, cap, cur, rfl, hb1, hg, h1, _⟩
      · omega
      · exact ⟨g, cap, rfl, hb1, (Array.getElem?_eq_some_iff.1 hg).1, h1⟩
    have HI := Lib.hid (show ToldInv w g k cap M w1 from ⟨xs, hown, (hr.f hg.1).below hb, hb, hg.1, hg.2.1⟩)
    have hk : M.length = k := by have := hown.1; have := hr.1; omega
    have hkm : k ≤ maxLen := by
      rcases hown.2 with ⟨_, rfl⟩ | ⟨g, cap, cur, _, _, _, h1, h2, _⟩
      · omega
      · exact Nat.le_trans h1 h2
    unfold maxLen at hkm
    have HK := Lib.hid hk
    clear hown hr hb hg hk
    go_wp2
    go_loopw [10] (fun i wr => ∃ j : Nat, j ≤ k ∧ i = .int .i64 j ∧ ToldInv w g k cap M wr) (fun i _ => k - (intOf i).toNat)
    case atStart => exact ⟨0, Nat.zero_le _, rfl, HI.out⟩
    case round =>
      obtain ⟨j, hj, rfl, ys, hown, hr, hb, hg1, hg2⟩ := hrel
      by_cases hlt : j < k
      · have hj' : j < M.length := by rw [HK.out]; exact hlt
        obtain ⟨A1, n1, c1, B1, m1, d1, e1, e2, y1, y2⟩ := hr.2 j hj'
        have k0 : wr.cell? ⟨g, j * 2, none⟩ = some (.slice A1 n1 c1) := (hown.cellAt _ (by omega)).trans e1
        have k1 : wr.cell? ⟨g, j * 2 + 1, none⟩ = some (.slice B1 m1 d1) := (hown.cellAt _ (by omega)).trans e2
        have hsm := HM.out _ (gt_mem hj')
        have hn1 : n1 ≤ 1000 := by rw [← y1.1.1]; exact hsm.1
        have hm1 : m1 ≤ 1000 := by rw [← y2.1.1]; exact hsm.2
        have HO := Lib.hid hown
        have HR := Lib.hid hr
        have HB := Lib.hid hb
        have Y1 := Lib.hid y1
        have Y2 := Lib.hid y2
        clear hown hr hb y1 y2 e1 e2 hsm
        have HW := Lib.hid (show ∃ W, W = wr.alloc (.cells #[.slice A1 n1 c1, .slice B1 m1 d1] 45) ∧ Below wr.heap.size wr W ∧ W.cell? ⟨wr.heap.size, 0, none⟩ = some (.slice A1 n1 c1) ∧ W.cell? ⟨wr.heap.size, 1, none⟩ = some (.slice B1 m1 d1) ∧ W.heap.size = wr.heap.size + 1 from
          ⟨_, rfl, (Below.refl _ _).alloc (Nat.le_refl _) _, box_0 _ _ _ _, box_1 _ _ _ _, by simp⟩)
        go_wp2
        obtain ⟨W, hW, hWB, hW0, hW1, hWs⟩ := HW.out
        rw [← hW]
        have HS1 := Lib.hid hWs
        have HBW := Lib.hid hWB
        have K0 := Lib.hid k0
        have K1 := Lib.hid k1
        clear hW HW hWB hWs k0 k1
        have D := Lib.hid (clone_any (w := W.drew) c1 (Y1.out.below HBW.out).1 hn1)
        have HC0 := Lib.hid hW0
        have HC1 := Lib.hid hW1
        have z1 : ¬ (g = wr.heap.size) := by omega
        have z2 : ¬ (wr.heap.size = g) := by omega
        go_region_held3 (fun w' => w'.cell? ⟨wr.heap.size, 0, none⟩ = some (.slice A1 n1 c1) ∧ w'.cell? ⟨wr.heap.size, 1, none⟩ = some (.slice B1 m1 d1)) (go_keep)
          (first
            | (go_at_call 67
               (with_reducible refine D.out.mono ?_)
               rintro e w3 ⟨A2, x2, rfl, p2, n2, hb3⟩
               have hb3 := undrew hb3
               have g0 := (hb3.cell (p := ⟨wr.heap.size, 0, none⟩) (by have := HS1.out; show wr.heap.size < W.heap.size; omega)).trans HC0.out
               have g1 := (hb3.cell (p := ⟨wr.heap.size, 1, none⟩) (by have := HS1.out; show wr.heap.size < W.heap.size; omega)).trans HC1.out
               have HB3 := Lib.hid (HBW.out.trans (hb3.mono HBW.out.size))
               have HX2 := Lib.hid (And.intro p2 n2)
               have HL3 := Lib.hid (Nat.lt_of_lt_of_le (show wr.heap.size < W.heap.size by have := HS1.out; omega) hb3.size)
               have E := Lib.hid (clone_any d1 (Y2.out.below HB3.out).1 hm1)
               clear p2 n2 hb3)
            | (go_at_call 67
               (with_reducible refine E.out.mono ?_)
               rintro e w4 ⟨B2, x3, rfl, p3, n3, hb4⟩
               have g0 := (hb4.cell (p := ⟨wr.heap.size, 0, none⟩) HL3.out).trans g0
               have g1 := (hb4.cell (p := ⟨wr.heap.size, 1, none⟩) HL3.out).trans g1
               have HB4 := Lib.hid (HB3.out.trans (hb4.mono HB3.out.size))
               have HX3 := Lib.hid (And.intro p3 (And.intro n3 hb4))
               have g4 := (HB4.out.cell (p := ⟨g, j * 2, none⟩) hg2).trans K0.out
               have g5 := (HB4.out.cell (p := ⟨g, j * 2 + 1, none⟩) hg2).trans K1.out
               have g2 := (own_keep HO.out HB4.out).frozenAt (j * 2)
               have g3 := (own_keep HO.out HB4.out).frozenAt (j * 2 + 1)
               clear p3 n3 hb4)
            )
        have HT := Lib.hid (told_round (j := j) c1 d1 (show j < M.length from hj') HO.out HR.out HB.out hg1 hg2 (x2 := x2) (x3 := x3) HB3.out HX2.out.1 (New.mono HX2.out.2 (show g + 1 ≤ W.heap.size by have := HS1.out; omega)) HX3.out.2.2 HX3.out.1 (New.mono HX3.out.2.1 (show g + 1 ≤ w3.heap.size by have := HL3.out; omega)))
        clear g0 g1 g2 g3 g4 g5 D E HB3 HB4 HX2 HX3 HL3 HC0 HC1 HBW HS1 hW0 hW1 z1 z2 K0 K1
        go_wp2
        go_roundw
        case rel => exact ⟨j + 1, by omega, by go_num, HT.out⟩
        case measure => simp [intOf]; omega
      · obtain rfl : j = k := by omega
        obtain ⟨A2, c2, e2, hp, _⟩ := own_prs hown (hr.reads)
        injection e2 with e3 e4 e5
        subst e3
        subst e5
        have HP := Lib.hid hp
        have HB := Lib.hid hb
        clear hp hb hown hr e4
        go_wp2
        go_ret
        exact ⟨_, j, _, rfl, HP.out, HB.out⟩
end Go.Proofs.Ytdhgogepjedonaa

namespace Go.Proofs.Ytdhgogepjedonaa
open Go.RowKit
set_option linter.unusedVariables false
set_option maxRecDepth 100000

def pick3 {α : Type} (x y z : α) : Nat → α
  | 0 => x
  | 1 => y
  | _ => z

/-- What Delete leaves. -/
def Deld (w : World) (L : List Pr) (b : Bool) (e : Ending) (w' : World) : Prop := ∃ A n c, e = .returned (.tuple #[.slice A n c, .bool b]) ∧ Prs w' A n c L ∧ Below w.heap.size w w'
/-- What Put leaves. -/
def Putted (w : World) (L : List Pr) (b : Bool) (e : Ending) (w' : World) : Prop := ∃ A n c, e = .returned (.tuple #[.slice A n c, .bool b, .nilIface]) ∧ Prs w' A n c L ∧ Below w.heap.size w w'

theorem small_take {L : List Pr} (h : Small L) (i : Nat) : Small (L.take i) := fun p hp => h p (List.mem_of_mem_take hp)
theorem small_drop {L : List Pr} (h : Small L) (i : Nat) : Small (L.drop i) := fun p hp => h p (List.mem_of_mem_drop hp)
theorem small_app {L M : List Pr} (h : Small L) (h' : Small M) : Small (L ++ M) := fun p hp => (List.mem_append.1 hp).elim (h p) (h' p)

/-- One, two, three pieces in a new block. -/
theorem pieces1 {w : World} {A : Option Addr} {n c : Nat} {L : List Pr} (h : Prs w A n c L) (T : TypeId) :
    Pieces (w.alloc (.cells #[.slice A n c] T)) w.heap.size 1 (pick3 A A A) (pick3 n n n) (pick3 c c c) (pick3 L L L) := by
  refine ⟨by simp, fun j hj => ?_⟩
  obtain rfl : j = 0 := by omega
  exact ⟨by simp [pick3], h.alloc _⟩
theorem pieces2 {w : World} {A B : Option Addr} {n c m d : Nat} {L M : List Pr} (h : Prs w A n c L) (h' : Prs w B m d M) (T : TypeId) :
    Pieces (w.alloc (.cells #[.slice A n c, .slice B m d] T)) w.heap.size 2 (pick3 A B B) (pick3 n m m) (pick3 c d d) (pick3 L M M) := by
  refine ⟨by simp, fun j hj => ?_⟩
  obtain rfl | rfl : j = 0 ∨ j = 1 := by omega
  · exact ⟨by simp [pick3], h.alloc _⟩
  · exact ⟨by simp [pick3], h'.alloc _⟩
theorem pieces3 {w : World} {A B C : Option Addr} {n c m d o q : Nat} {L M N : List Pr} (h : Prs w A n c L) (h' : Prs w B m d M) (h'' : Prs w C o q N) (T : TypeId) :
    Pieces (w.alloc (.cells #[.slice A n c, .slice B m d, .slice C o q] T)) w.heap.size 3 (pick3 A B C) (pick3 n m o) (pick3 c d q) (pick3 L M N) := by
  refine ⟨by simp, fun j hj => ?_⟩
  obtain rfl | rfl | rfl : j = 0 ∨ j = 1 ∨ j = 2 := by omega
  · exact ⟨by simp [pick3], h.alloc _⟩
  · exact ⟨by simp [pick3], h'.alloc _⟩
  · exact ⟨by simp [pick3], h''.alloc _⟩

/-- One pair in a new block. -/
theorem one_prs {w : World} {C D : Option Addr} {o p : Nat} (q r : Nat) {k v : List UInt8} (h : Byt w C o k) (h' : Byt w D p v) (T : TypeId) :
    Prs (w.alloc (.cells #[.slice C o q, .slice D p r] T)) (some ⟨w.heap.size, 0, none⟩) 1 1 [(k, v)] := by
  refine ⟨rfl, Nat.le_refl _, by unfold maxLen; omega, (fun e => by cases e), fun _ => ⟨w.heap.size, 0, rfl, by simp, fun j hj => ?_⟩⟩
  obtain rfl : j = 0 := by omega
  exact ⟨C, o, q, D, p, r, by simp, by simp, h.alloc _, h'.alloc _⟩

set_option maxHeartbeats 2000000 in
theorem del_any {w : World} {A C : Option Addr} {n c o : Nat} (q : Nat) {L : List Pr} {k : List UInt8} (h : Prs w A n c L) (h' : Byt w C o k) (hs : Srt L) (hn : n ≤ 1000) (hm : Small L) :
    Calls Try.prog 56 #[.slice A n c, .slice C o q] w (Deld w (delL L k) (hasB L k)) := by
  have HF := find_any q h h' hs hn
  have H := Lib.hid h
  have H' := Lib.hid h'
  have HP := Lib.hid (pos_le L k)
  have HL := Lib.hid h.len
  have HD := Lib.hid (del_is hs k)
  have HPE := Lib.hid (pos_end hs k)
  have HM := Lib.hid hm
  clear h h' hs hm
  go_enter Try.func56, Try.ntmps56
  go_wp2_with fail
  refine HF.mono ?_
  rintro e w1 ⟨rfl, hb⟩
  have HB := Lib.hid hb
  have H1 := Lib.hid (H.out.below hb)
  clear HF hb H
  generalize pos L k = P at HP HD HPE
  cases hh : hasB L k
  · rw [hh] at HD
    have hd : delL L k = L := by rw [HD.out]; rfl
    have HD := Lib.hid hd
    have HT := Lib.hid (told_any (pieces1 H1.out 43) (by omega) (show sumN _ 1 ≤ 3000 by simp [sumN, pick3]; omega) (show Small (catL _ 1) from HM.out))
    have HH := Lib.hid hh
    clear hd hh
    go_wp2_with fail
    refine HT.out.mono ?_
    rintro e w2 ⟨A2, n2, c2, rfl, hp, hb2⟩
    have HP2 := Lib.hid hp
    have HB2 := Lib.hid hb2
    clear hp hb2
    go_wp2
    go_ret2
    refine ⟨A2, n2, c2, by rw [HH.out]; rfl, ?_, (HB.out.alloc HB.out.size _).trans (HB2.out.mono (by have := HB.out.size; simp; omega))⟩
    rw [HD.out]
    exact HP2.out
  · rw [hh] at HD
    have hP1 : P < n := by
      have h1 := HP.out
      have h2 := HPE.out
      rw [hh, HL.out] at h2
      rw [HL.out] at h1
      rcases Nat.lt_or_ge P n with h3 | h3
      · exact h3
      · cases h2 (by omega)
    have hPc : P ≤ c := Nat.le_trans (Nat.le_of_lt hP1) H1.out.2.1
    have hd : delL L k = L.take P ++ L.drop (P + 1) := by rw [HD.out]; rfl
    have HD := Lib.hid hd
    have HH := Lib.hid hh
    clear hd hh HPE
    have hp2 : Pieces (w1.alloc (.cells #[.slice A P c, .slice (cutA A (P + 1) c) (n - (P + 1)) (c - (P + 1))] 43)).drew w1.heap.size 2 _ _ _ _ := pieces2 (H1.out.upto (Nat.le_of_lt hP1)) (H1.out.from (k := P + 1) hP1) 43
    have HT := told_any hp2 (by omega) (show sumN _ 2 ≤ 3000 by simp [sumN, pick3]; omega) (show Small (catL _ 2) from small_app (small_take HM.out P) (small_drop HM.out (P + 1)))
    clear hp2
    have s1 : IntKind.i64.wrap ((P : Int) + 1) = (P : Int) + 1 := IntWalk.i64_in _ (by omega)
    have s2 : (0 : Int) ≤ (P : Int) + 1 := by omega
    have s3 : ((P : Int) + 1).toNat = P + 1 := by omega
    have s4 : (P : Int) + 1 ≤ n := by omega
    have hX : (if c = P + 1 then A else A.map (fun x => x.add ((P + 1) * 2))) = cutA A (P + 1) c := rfl
    have HT := Lib.hid HT
    go_wp2
    go_still_tail 7, (by kernel_rfl)
    clear s1 s2 s3 s4 hX
    change wpList _ _ _ _ _ w1.drew
    go_wp2_with fail
    refine HT.out.mono ?_
    rintro e w2 ⟨A2, n2, c2, rfl, hp, hb2⟩
    have HP2 := Lib.hid hp
    have HB2 := Lib.hid hb2
    clear hp hb2
    go_wp2
    go_ret2
    refine ⟨A2, n2, c2, by rw [HH.out]; rfl, ?_, ((HB.out.alloc HB.out.size _).drew).trans (HB2.out.mono (by have := HB.out.size; simp; omega))⟩
    rw [HD.out]
    exact HP2.out
end Go.Proofs.Ytdhgogepjedonaa

namespace Go.Proofs.Ytdhgogepjedonaa
open Go.RowKit
set_option linter.unusedVariables false
set_option maxRecDepth 100000

set_option maxHeartbeats 1000000 in
theorem put_no {w : World} {A C D : Option Addr} {n c o p : Nat} (q r : Nat) {k v : List UInt8} (h' : Byt w C o k) (h'' : Byt w D p v) (hf : fairB (k, v) = false) :
    Calls Try.prog 57 #[.slice A n c, .slice C o q, .slice D p r] w fun e w' => e = .returned (.tuple #[.slice none 0 0, .bool false, .iface 42 (.int .i64 1)]) ∧ w = w' := by
  have HF := rowmay_any q r h' h''
  rw [hf] at HF
  clear h' h'' hf
  go_enter Try.func57, Try.ntmps57
  go_wp2_with (go_at_call 68; refine HF.mono ?_; rintro e w' ⟨rfl, rfl⟩)
  go_ret3
  exact ⟨rfl, rfl⟩

set_option maxHeartbeats 2000000 in
theorem put_yes {w : World} {A C D : Option Addr} {n c o p : Nat} (q r : Nat) {L : List Pr} {k v : List UInt8} (h : Prs w A n c L) (h' : Byt w C o k) (h'' : Byt w D p v) (hs : Srt L) (hn : n ≤ 1000) (hm : Small L) (hf : fairB (k, v) = true) (ho : o ≤ 1000) (hp : p ≤ 1000) :
    Calls Try.prog 57 #[.slice A n c, .slice C o q, .slice D p r] w (Putted w (putL L k v) (!hasB L k)) := by
  have HY := rowmay_any q r h' h''
  rw [hf] at HY
  have HF := find_any q h h' hs hn
  have hsk : Small [(k, v)] := by
    intro x hx
    simp at hx
    subst hx
    exact ⟨by rw [h'.1]; exact ho, by rw [h''.1]; exact hp⟩
  have HSK := Lib.hid hsk
  have H := Lib.hid h
  have H' := Lib.hid h'
  have H'' := Lib.hid h''
  have HP := Lib.hid (pos_le L k)
  have HL := Lib.hid h.len
  have HD := Lib.hid (put_is hs k v)
  have HPE := Lib.hid (pos_end hs k)
  have HM := Lib.hid hm
  clear h h' h'' hs hm hf hsk
  go_enter Try.func57, Try.ntmps57
  go_wp2_with fail
  refine HY.mono ?_
  rintro e w' ⟨rfl, rfl⟩
  clear HY
  go_wp2_with fail
  refine HF.mono ?_
  rintro e w1 ⟨rfl, hb⟩
  have HB := Lib.hid hb
  have H1 := Lib.hid (H.out.below hb)
  have HO := Lib.hid (one_prs q r (H'.out.below hb) (H''.out.below hb) 45)
  clear HF hb H
  generalize pos L k = P at HP HD HPE
  have hPn : P ≤ n := by have h1 := HP.out; rw [HL.out] at h1; exact h1
  have hPc : P ≤ c := Nat.le_trans hPn H1.out.2.1
  have hX : (if c = P then A else A.map (fun x => x.add (P * 2))) = cutA A P c := rfl
  have H2 := Lib.hid (H1.out.from (k := P) hPn)
  cases hh : hasB L k
  · rw [hh] at HD
    have hd : putL L k v = L.take P ++ [(k, v)] ++ L.drop P := by rw [HD.out]; simp
    have HE := Lib.hid hd
    have HH := Lib.hid hh
    clear hd hh HPE HD
    have HT := told_any (pieces3 ((H1.out.upto hPn).alloc (.cells #[.slice C o q, .slice D p r] 45)) HO.out (H2.out.alloc (.cells #[.slice C o q, .slice D p r] 45)) 43) (by omega) (show sumN _ 3 ≤ 3000 by simp [sumN, pick3]; omega) (show Small (catL _ 3) from small_app (small_app (small_take HM.out P) HSK.out) (small_drop HM.out P))
    rw [show (w1.alloc (.cells #[.slice C o q, .slice D p r] 45)).heap.size = w1.heap.size + 1 by simp] at HT
    have HT := Lib.hid HT
    go_wp2_with fail
    refine HT.out.mono ?_
    rintro e w2 ⟨A2, n2, c2, rfl, hp, hb2⟩
    have HP2 := Lib.hid hp
    have HB2 := Lib.hid hb2
    clear hp hb2 hX
    go_wp2
    go_ret3
    refine ⟨A2, n2, c2, by rw [HH.out]; rfl, ?_, ((HB.out.alloc HB.out.size _).alloc (by have := HB.out.size; simp; omega) _).trans (HB2.out.mono (by have := HB.out.size; simp; omega))⟩
    rw [HE.out]
    exact HP2.out
  · rw [hh] at HD
    have hP1 : P < n := by
      have h2 := HPE.out
      rw [hh, HL.out] at h2
      rcases Nat.lt_or_ge P n with h3 | h3
      · exact h3
      · cases h2 (by omega)
    have hd : putL L k v = L.take P ++ [(k, v)] ++ (L.drop P).drop 1 := by rw [HD.out]; simp
    have HE := Lib.hid hd
    have HH := Lib.hid hh
    clear hd hh HPE HD
    have H3 := Lib.hid (H2.out.from (k := 1) (by omega))
    have hX2 : (if c - P = 1 then cutA A P c else (cutA A P c).map (fun x => (⟨x.block, x.off + 2, none⟩ : Addr))) = cutA (cutA A P c) 1 (c - P) := rfl
    have s1 : 1 ≤ n - P := by omega
    have HT := told_any (pieces3 ((H1.out.upto hPn).alloc (.cells #[.slice C o q, .slice D p r] 45)) HO.out (H3.out.alloc (.cells #[.slice C o q, .slice D p r] 45)) 43) (by omega) (show sumN _ 3 ≤ 3000 by simp [sumN, pick3]; omega) (show Small (catL _ 3) from small_app (small_app (small_take HM.out P) HSK.out) (small_drop (small_drop HM.out P) 1))
    rw [show (w1.alloc (.cells #[.slice C o q, .slice D p r] 45)).heap.size = w1.heap.size + 1 by simp] at HT
    have HT := Lib.hid HT
    go_wp2_with fail
    refine HT.out.mono ?_
    rintro e w2 ⟨A2, n2, c2, rfl, hp, hb2⟩
    have HP2 := Lib.hid hp
    have HB2 := Lib.hid hb2
    clear hp hb2 hX hX2 s1
    go_wp2
    go_ret3
    refine ⟨A2, n2, c2, by rw [HH.out]; rfl, ?_, ((HB.out.alloc HB.out.size _).alloc (by have := HB.out.size; simp; omega) _).trans (HB2.out.mono (by have := HB.out.size; simp; omega))⟩
    rw [HE.out]
    exact HP2.out
end Go.Proofs.Ytdhgogepjedonaa
