/- Slices of bytes, pairs, keys and numbers that read as lists; what lies in which blocks; contracts of bytes.Clone, and of the document's own Few and Pairs. Condition: what came in can be read; bytes.Clone: at most 1000 bytes. -/
import Derived.Test.YtbphjhmmdkaggaaEc
import Derived.Below
import Derived.Deep.QuietTactic
import Derived.BigQuiet
import Derived.Laws.IdiomStrings
import Derived.Laws.BytesArg
import Derived.Laws.AppendOwn
import Derived.Laws.AppendOwnNone
import Derived.OwnWalk
namespace Go.Proofs.Ytbphjhmmdkaggaa
open Go.RowKit
set_option linter.unusedVariables false

/-- A slice of bytes that reads as the list l; nil, or an empty one, reads as nothing. -/
def Byt (w : World) (A : Option Addr) (n : Nat) (l : List UInt8) : Prop :=
  l.length = n ∧ (0 < n → ∃ a : Addr, A = some a ∧ a.block < w.heap.size ∧ ∀ j (h : j < l.length), w.cell? (a.add j) = some (.int .u8 (l[j].toNat : Int)))
theorem add_block (a : Addr) (n : Nat) : (a.add n).block = a.block := by unfold Addr.add; split <;> rfl
theorem Byt.keep {w w' : World} {A : Option Addr} {n : Nat} {l : List UInt8} (h : Byt w A n l) (hs : w.heap.size ≤ w'.heap.size) (hc : ∀ p : Addr, p.block < w.heap.size → w'.cell? p = w.cell? p) : Byt w' A n l :=
  ⟨h.1, fun h0 => by
    obtain ⟨a, e, hb, hj⟩ := h.2 h0
    exact ⟨a, e, by omega, fun j hl => (hc _ (by rw [add_block]; exact hb)).trans (hj j hl)⟩⟩
theorem Byt.below {w w' : World} {A : Option Addr} {n : Nat} {l : List UInt8} (h : Byt w A n l) (hb : Below w.heap.size w w') : Byt w' A n l := h.keep hb.size fun _ hp => hb.cell hp
theorem Byt.alloc {w : World} {A : Option Addr} {n : Nat} {l : List UInt8} (h : Byt w A n l) (o : Obj) : Byt (w.alloc o) A n l :=
  h.below ((Below.refl _ _).alloc (Nat.le_refl _) _)
theorem Byt.drewN {w : World} {A : Option Addr} {n : Nat} {l : List UInt8} (h : Byt w A n l) (k : Nat) : Byt (w.drewN k) A n l := h
/-- string(b). -/
theorem run_str {w : World} {A : Option Addr} {n c : Nat} {l : List UInt8} (h : Byt w A n l) : (convert 60 9 (.slice A n c)).run Try.prog w = .ok (.string ⟨l.toArray⟩) w := by
  obtain ⟨rfl, h⟩ := h
  rcases A with _ | a
  · have h0 : l.length = 0 := by
      rcases Nat.eq_zero_or_pos l.length with h0 | h0
      · exact h0
      · obtain ⟨a, e, _⟩ := h h0
        cases e
    rw [List.length_eq_zero_iff] at h0
    subst h0
    exact run_convert_bytes_nil w _ _ Try.underlying60 Try.underlying5 _ _ _ Try.underlying9
  · refine run_convert_bytes_back w _ _ _ a c l Try.underlying60 Try.underlying5 Try.underlying9 fun j hj => ?_
    obtain ⟨a', e, _, hc⟩ := h (by omega)
    injection e with e
    subst e
    exact hc j hj
theorem ret_bool {a b : Bool} (h : a = b) : Ending.returned (.bool a) = .returned (.bool b) := by rw [h]
/-- Only draws have been made. -/
def Drawn (w w' : World) : Prop := ∃ d, w' = w.drewN d
theorem Drawn.byt {w w' : World} {A : Option Addr} {n : Nat} {l : List UInt8} (h : Drawn w w') (hb : Byt w A n l) : Byt w' A n l := by
  obtain ⟨d, rfl⟩ := h
  exact hb
theorem Drawn.more {w w' : World} (h : Drawn w w') (d : Nat) : Drawn w (w'.drewN d) := by
  obtain ⟨k, rfl⟩ := h
  exact ⟨k + d, World.drewN_drewN _ _ _⟩
abbrev Pr := List UInt8 × List UInt8
def gt (L : List Pr) (i : Nat) : Pr := L.getD i ([], [])
theorem gt_eq {L : List Pr} {i : Nat} (h : i < L.length) : gt L i = L[i] := by
  unfold gt
  rw [List.getD_eq_getElem?_getD, List.getElem?_eq_getElem h]
  rfl
theorem gt_mem {L : List Pr} {i : Nat} (h : i < L.length) : gt L i ∈ L := by
  rw [gt_eq h]
  exact List.getElem_mem h
/-- A pair's two cells, and what they read as. -/
def PairAt (w : World) (b o : Nat) (p : Pr) : Prop :=
  ∃ A n c B m d, w.cell? ⟨b, o, none⟩ = some (.slice A n c) ∧ w.cell? ⟨b, o + 1, none⟩ = some (.slice B m d) ∧ Byt w A n p.1 ∧ Byt w B m p.2
/-- A slice of pairs that reads as the list L. -/
def Prs (w : World) (A : Option Addr) (n c : Nat) (L : List Pr) : Prop :=
  L.length = n ∧ n ≤ c ∧ c ≤ maxLen ∧ (A = none → c = 0) ∧ (0 < n → ∃ b o, A = some ⟨b, o, none⟩ ∧ b < w.heap.size ∧ ∀ j, j < n → PairAt w b (o + j * 2) (gt L j))
theorem PairAt.keep {w w' : World} {b o : Nat} {p : Pr} (h : PairAt w b o p) (hl : b < w.heap.size) (hs : w.heap.size ≤ w'.heap.size) (hc : ∀ q : Addr, q.block < w.heap.size → w'.cell? q = w.cell? q) : PairAt w' b o p := by
  obtain ⟨A, n, c, B, m, d, h1, h2, h3, h4⟩ := h
  exact ⟨A, n, c, B, m, d, (hc ⟨b, o, none⟩ hl).trans h1, (hc ⟨b, o + 1, none⟩ hl).trans h2, h3.keep hs hc, h4.keep hs hc⟩
theorem Prs.keep {w w' : World} {A : Option Addr} {n c : Nat} {L : List Pr} (h : Prs w A n c L) (hs : w.heap.size ≤ w'.heap.size) (hc : ∀ q : Addr, q.block < w.heap.size → w'.cell? q = w.cell? q) : Prs w' A n c L := by
  obtain ⟨h1, h2, h3, h4, h5⟩ := h
  refine ⟨h1, h2, h3, h4, fun h0 => ?_⟩
  obtain ⟨b, o, e, hb, hj⟩ := h5 h0
  exact ⟨b, o, e, by omega, fun j hl => (hj j hl).keep hb hs hc⟩
theorem Prs.below {w w' : World} {A : Option Addr} {n c : Nat} {L : List Pr} (h : Prs w A n c L) (hb : Below w.heap.size w w') : Prs w' A n c L := h.keep hb.size fun _ hp => hb.cell hp
theorem Prs.alloc {w : World} {A : Option Addr} {n c : Nat} {L : List Pr} (h : Prs w A n c L) (o : Obj) : Prs (w.alloc o) A n c L :=
  h.below ((Below.refl _ _).alloc (Nat.le_refl _) _)
theorem Prs.drewN {w : World} {A : Option Addr} {n c : Nat} {L : List Pr} (h : Prs w A n c L) (k : Nat) : Prs (w.drewN k) A n c L := h
theorem Prs.len {w : World} {A : Option Addr} {n c : Nat} {L : List Pr} (h : Prs w A n c L) : L.length = n := h.1
/-- One pair of it. -/
theorem Prs.at_ {w : World} {A : Option Addr} {n c j : Nat} {L : List Pr} (h : Prs w A n c L) (hj : j < n) :
    ∃ b o, A = some ⟨b, o, none⟩ ∧ b < w.heap.size ∧ PairAt w b (o + j * 2) (gt L j) := by
  obtain ⟨b, o, e, hb, hp⟩ := h.2.2.2.2 (by omega)
  exact ⟨b, o, e, hb, hp j hj⟩
theorem prs_nil (w : World) : Prs w none 0 0 [] := ⟨rfl, Nat.le_refl _, Nat.zero_le _, fun _ => rfl, fun h => absurd h (by omega)⟩
theorem add_lit (b o n : Nat) : (⟨b, o, none⟩ : Addr).add n = ⟨b, o + n, none⟩ := by
  unfold Addr.add
  split
  · next h => rw [h]; rfl
  · rfl
theorem Try.infoPair : (Try.prog.info? 66).map (fun i => (i.zero, i.size, i.bytes)) = some (some (.agg #[.slice none 0 0, .slice none 0 0]), 2, 48) := by kernel_rfl
/-- Cells that read as pairs. -/
def Reads (w : World) (xs : List Value) (L : List Pr) : Prop :=
  xs.length = L.length * 2 ∧ ∀ j, j < L.length → ∃ A n c B m d, xs[j * 2]? = some (.slice A n c) ∧ xs[j * 2 + 1]? = some (.slice B m d) ∧ Byt w A n (gt L j).1 ∧ Byt w B m (gt L j).2
theorem reads_nil (w : World) : Reads w [] [] := ⟨rfl, fun j hj => by cases hj⟩
theorem Reads.below {w w' : World} {xs : List Value} {L : List Pr} (h : Reads w xs L) (hb : Below w.heap.size w w') : Reads w' xs L :=
  ⟨h.1, fun j hj => by
    obtain ⟨A, n, c, B, m, d, e1, e2, e3, e4⟩ := h.2 j hj
    exact ⟨A, n, c, B, m, d, e1, e2, e3.below hb, e4.below hb⟩⟩
theorem Reads.one {w : World} {xs : List Value} {L : List Pr} (h : Reads w xs L) : ∀ u ∈ xs, u.oneCell' = true := by
  intro u hu
  obtain ⟨i, hi, rfl⟩ := List.getElem_of_mem hu
  obtain ⟨A, n, c, B, m, d, e1, e2, _, _⟩ := h.2 (i / 2) (by have := h.1; omega)
  have hd : i = i / 2 * 2 ∨ i = i / 2 * 2 + 1 := by omega
  rcases hd with hd | hd
  · rw [← hd, List.getElem?_eq_getElem hi] at e1
    injection e1 with e1
    rw [e1]
    rfl
  · rw [← hd, List.getElem?_eq_getElem hi] at e2
    injection e2 with e2
    rw [e2]
    rfl
/-- What a slice of pairs holds, as cells. -/
theorem Prs.cells {w : World} {A : Option Addr} {n c : Nat} {L : List Pr} (h : Prs w A n c L) :
    ∃ xs, Reads w xs L ∧ xs.length = n * 2 ∧ ∀ a, A = some a → ∀ j u, xs[j]? = some u → w.cell? (a.add j) = some u := by
  obtain ⟨h1, h2, h3, h4, h5⟩ := h
  rcases Nat.eq_zero_or_pos n with h0 | h0
  · subst h0
    rw [List.length_eq_zero_iff] at h1
    subst h1
    exact ⟨[], reads_nil w, rfl, fun a _ j u hu => by simp at hu⟩
  · obtain ⟨b, o, rfl, hb, hj⟩ := h5 h0
    refine ⟨(List.range (n * 2)).map fun j => (w.cell? ⟨b, o + j, none⟩).getD (.bool false), ⟨by simp; omega, fun j hl => ?_⟩, by simp, fun a e j u hu => ?_⟩
    · obtain ⟨A, m, c', B, m', d, e1, e2, e3, e4⟩ := hj j (by omega)
      refine ⟨A, m, c', B, m', d, ?_, ?_, e3, e4⟩
      · rw [List.getElem?_map, List.getElem?_range (by omega)]
        simp [e1]
      · rw [List.getElem?_map, List.getElem?_range (by omega)]
        simp [← Nat.add_assoc, e2]
    · injection e with e
      subst e
      rw [List.getElem?_map] at hu
      obtain ⟨i, hi, rfl⟩ := Option.map_eq_some_iff.1 hu
      obtain ⟨hi1, hi2⟩ := List.getElem?_eq_some_iff.1 hi
      simp at hi1 hi2
      subst hi2
      rw [add_lit]
      obtain ⟨A, m, c', B, m', d, e1, e2, _, _⟩ := hj (j / 2) (by omega)
      have hd : j = j / 2 * 2 ∨ j = j / 2 * 2 + 1 := by omega
      rcases hd with hd | hd
      · rw [← hd] at e1
        rw [e1]
        rfl
      · rw [show o + j / 2 * 2 + 1 = o + j by omega] at e2
        rw [e2]
        rfl
/-- What a slice leads to, if to anything, lies in block N or behind it. -/
def New (N : Nat) (A : Option Addr) : Prop := ∀ a, A = some a → N ≤ a.block
/-- A row of one's own is a slice of pairs. -/
theorem own_prs {w : World} {N n : Nat} {v : Value} {xs : List Value} {L : List Pr} (h : w.ownsRow N 66 2 v n xs) (hr : Reads w xs L) : ∃ A c, v = .slice A n c ∧ Prs w A n c L ∧ New N A := by
  have hl : L.length = n := by have := h.1; have := hr.1; omega
  rcases h.2 with ⟨rfl, rfl⟩ | ⟨g, cap, cur, rfl, hB, hh, hc1, hc2, _⟩
  · exact ⟨none, 0, rfl, ⟨hl, Nat.le_refl _, Nat.zero_le _, fun _ => rfl, fun h0 => absurd h0 (by omega)⟩, fun a e => by cases e⟩
  · refine ⟨_, _, rfl, ⟨hl, hc1, hc2, (fun e => by cases e), fun h0 => ⟨g, 0, rfl, (Array.getElem?_eq_some_iff.1 hh).1, fun j hj => ?_⟩⟩, fun a e => by injection e with e; subst e; exact hB⟩
    obtain ⟨A, m, c, B, m', d, e1, e2, e3, e4⟩ := hr.2 j (by omega)
    refine ⟨A, m, c, B, m', d, ?_, ?_, e3, e4⟩
    · have := h.cells (g := g) rfl _ _ e1
      rwa [add_lit] at this
    · have := h.cells (g := g) rfl _ _ e2
      rwa [add_lit, ← Nat.add_assoc] at this
def shortB (p : Pr) : Bool := decide (p.1.length ≤ 100) && decide (p.2.length ≤ 100)
def fewB (L : List Pr) (m : Nat) : Bool := L.all shortB && decide (L.length ≤ m)
theorem all_gt {L : List Pr} {f : Pr → Bool} (h : ∀ j, j < L.length → f (gt L j) = true) : L.all f = true := by
  refine List.all_eq_true.2 fun p hp => ?_
  obtain ⟨j, hj, rfl⟩ := List.getElem_of_mem hp
  rw [← gt_eq hj]
  exact h j hj
theorem all_not {L : List Pr} {f : Pr → Bool} {j : Nat} (hj : j < L.length) (h : f (gt L j) = false) : L.all f = false := by
  refine List.all_eq_false.2 ⟨gt L j, gt_mem hj, by simp [h]⟩
set_option maxHeartbeats 1000000 in
theorem few_any {w : World} {A : Option Addr} {n c : Nat} {L : List Pr} (m : Nat) (h : Prs w A n c L) :
    Calls Try.prog 20 #[.slice A n c, .int .i64 m] w fun e w' => e = .returned (.bool (fewB L m)) ∧ w = w' := by
  have hn : n ≤ maxLen := Nat.le_trans h.2.1 h.2.2.1
  unfold maxLen at hn
  have H := Lib.hid h
  clear h
  go_enter Try.func20, Try.ntmps20
  go_wp2
  go_loop [5] (fun i => ∃ k : Nat, k ≤ n ∧ i = .int .i64 k ∧ Hid (∀ j, j < k → shortB (gt L j) = true)) (fun i => n - (intOf i).toNat)
  case atStart => exact ⟨0, Nat.zero_le _, rfl, Lib.hid (fun j hj => absurd hj (by omega))⟩
  case round =>
    obtain ⟨k, hk, rfl, HI⟩ := hrel
    by_cases hlt : k < n
    · obtain ⟨b, o, rfl, hbl, A1, n1, c1, B1, m1, d1, k0, k1, y1, y2⟩ := H.out.at_ hlt
      have HY := Lib.hid (And.intro y1.1 y2.1)
      clear y1 y2
      by_cases h1 : 100 < n1
      · have hz : fewB L m = false := by
          unfold fewB
          rw [all_not (j := k) (by rw [H.out.len]; exact hlt) (by unfold shortB; rw [HY.out.1]; simp; omega)]
          rfl
        have HZ := Lib.hid hz
        clear hz
        go_wp2
        go_ret
        exact ⟨ret_bool HZ.out.symm, rfl⟩
      · by_cases h2 : 100 < m1
        · have hz : fewB L m = false := by
            unfold fewB
            rw [all_not (j := k) (by rw [H.out.len]; exact hlt) (by unfold shortB; rw [HY.out.2]; simp; omega)]
            rfl
          have HZ := Lib.hid hz
          clear hz
          go_wp2
          go_ret
          exact ⟨ret_bool HZ.out.symm, rfl⟩
        · go_wp2
          go_round
          case rel => exact ⟨k + 1, by omega, by go_num, Lib.hid (fun j hj => by
            rcases Nat.lt_succ_iff_lt_or_eq.1 hj with hj | rfl
            · exact HI.out j hj
            · unfold shortB
              rw [HY.out.1, HY.out.2]
              simp
              omega)⟩
          case measure => simp [intOf]; omega
    · go_wp2
      go_ret
      refine ⟨ret_bool ?_, rfl⟩
      have hl := H.out.len
      unfold fewB
      rw [all_gt (fun j hj => HI.out j (by omega)), hl]
      rw [Bool.eq_iff_iff]
      simp
/-- No key or value is long. -/
def Small (L : List Pr) : Prop := ∀ p ∈ L, p.1.length ≤ 1000 ∧ p.2.length ≤ 1000
theorem quiet_drawn {P : Program} {f : FuncId} {args : Array Value} {w : World} {n : Nat} {v : Value}
    (h : Calls P f args (w.drewN n) fun e w' => e = .returned v ∧ Drawn (w.drewN n) w') : Calls P f args (w.drewN n) fun e w'' => e = .returned v ∧ ∃ m, w'' = w.drewN m :=
  h.mono fun _ _ ⟨he, d, hm⟩ => ⟨he, n + d, by rw [hm, World.drewN_drewN]⟩
theorem quiet_left {P : Program} {f : FuncId} {args : Array Value} {w : World} {n : Nat} {v : Value}
    (h : Calls P f args (w.drewN n) fun e w' => e = .returned v ∧ w.drewN n = w') : Calls P f args (w.drewN n) fun e w'' => e = .returned v ∧ ∃ m, w'' = w.drewN m :=
  h.mono fun _ _ ⟨he, hm⟩ => ⟨he, n, hm.symm⟩
theorem Drawn.refl (w : World) : Drawn w w := ⟨0, rfl⟩
theorem Drawn.trans {w w1 w2 : World} (h : Drawn w w1) (h' : Drawn w1 w2) : Drawn w w2 := by
  obtain ⟨d, rfl⟩ := h
  obtain ⟨e, rfl⟩ := h'
  exact ⟨d + e, World.drewN_drewN _ _ _⟩
theorem Drawn.prs {w w' : World} {A : Option Addr} {n c : Nat} {L : List Pr} (h : Drawn w w') (hp : Prs w A n c L) : Prs w' A n c L := by
  obtain ⟨d, rfl⟩ := h
  exact hp
theorem below_drewN {B : Nat} {w w' : World} (h : Below B w w') (k : Nat) : Below B w (w'.drewN k) := ⟨h.os, h.tape, h.output, h.size, h.block⟩
set_option maxHeartbeats 2000000 in
theorem pairs_same {w : World} {A B : Option Addr} {n c m d : Nat} {L : List Pr} (h : Prs w A n c L) (h' : Prs w B m d L) :
    Calls Try.prog 23 #[.slice A n c, .slice B m d] w fun e w' => e = .returned (.bool true) ∧ Drawn w w' := by
  have hn : n ≤ maxLen := Nat.le_trans h.2.1 h.2.2.1
  unfold maxLen at hn
  obtain rfl : n = m := h.len.symm.trans h'.len
  have H := Lib.hid h
  have H' := Lib.hid h'
  clear h h'
  go_enter Try.func23, Try.ntmps23
  go_wp2
  go_loopw [5] (fun i wr => ∃ j : Nat, j ≤ n ∧ i = .int .i64 j ∧ Drawn w wr) (fun i _ => n - (intOf i).toNat)
  case atStart => exact ⟨0, Nat.zero_le _, rfl, Drawn.refl w⟩
  case round =>
    obtain ⟨j, hj, rfl, hd⟩ := hrel
    by_cases hlt : j < n
    · obtain ⟨b, oo, rfl, hbl, A1, n1, c1, B1, m1, d1, k0, k1, y1, y2⟩ := (hd.prs H.out).at_ hlt
      obtain ⟨b', oo', rfl, hbl', A2, n2, c2, B2, m2, d2, k2, k3, z1, z2⟩ := (hd.prs H'.out).at_ hlt
      generalize gt L j = p at y1 y2 z1 z2
      have r1 := fun k => run_str (c := c1) (y1.drewN k)
      have r2 := fun k => run_str (c := d1) (y2.drewN k)
      have r3 := fun k => run_str (c := c2) (z1.drewN k)
      have r4 := fun k => run_str (c := d2) (z2.drewN k)
      clear y1 y2 z1 z2
      go_wp2
      go_quiet (fail)
      go_wp2
      go_roundw
      case rel => exact ⟨j + 1, by omega, by go_num, hd.more _⟩
      case measure => simp [intOf]; omega
    · go_wp2
      go_ret
      exact ⟨rfl, hd⟩
theorem Try.infoU8 : (Try.prog.info? 5).map (fun i => (i.zero, i.size, i.bytes)) = some (some (.int .u8 0), 1, 1) := by kernel_rfl
def cellsB (l : List UInt8) : List Value := l.map fun u => Value.int .u8 (u.toNat : Int)
theorem New.mono {N M : Nat} {A : Option Addr} (h : New N A) (hm : M ≤ N) : New M A := fun a e => Nat.le_trans hm (h a e)
theorem byt_own {w : World} {B : Nat} {e : TypeId} {v : Value} {n : Nat} {l : List UInt8} (h : w.ownsRow B e 1 v n (cellsB l)) : ∃ A c, v = .slice A n c ∧ Byt w A n l ∧ New B A := by
  have hl : l.length = n := by have := h.1; simpa [cellsB] using this
  rcases h.2 with ⟨rfl, rfl⟩ | ⟨g, cap, cur, rfl, hB, hh, _⟩
  · exact ⟨none, 0, rfl, ⟨hl, fun h0 => absurd h0 (by omega)⟩, fun a e => by cases e⟩
  · refine ⟨_, _, rfl, ⟨hl, fun h0 => ⟨_, rfl, (Array.getElem?_eq_some_iff.1 hh).1, fun j hj => ?_⟩⟩, fun a e => by injection e with e; subst e; exact hB⟩
    exact h.cells (g := g) rfl j _ (by simp [cellsB, List.getElem?_eq_getElem hj])
/-- What Clone leaves. -/
def Cloned (w : World) (n : Nat) (l : List UInt8) (e : Ending) (w' : World) : Prop := ∃ A c, e = .returned (.slice A n c) ∧ Byt w' A n l ∧ New w.heap.size A ∧ Below w.heap.size w w'
set_option maxHeartbeats 1000000 in
theorem clone_some {w : World} (a : Addr) {n : Nat} (c : Nat) {l : List UInt8} (h : Byt w (some a) n l) (hn : n ≤ 1000) :
    Calls Try.prog 25 #[.slice (some a) n c] w (Cloned w n l) := by
  obtain ⟨i0, hi, hz0, hz1, hz2⟩ := info_parts Try.infoU8
  have hq : ∀ (w : World) (a : Option Addr) (n c n' c' : Nat), (binOp .eql 60 (.slice a n c) (.slice none n' c')).run Try.prog w = .ok (.bool a.isNone) w := fun w a n c n' c' => Lib.run_eql_slice_nil w _ _ a n c n' c' Try.underlying60
  have H := Lib.hid h
  clear h
  go_enter Try.func25, Try.ntmps25
  go_wp2_with (at_builtin; refine wpList_append_own _ rfl _ _ 60 rfl w.heap.size 5 i0 (.int .u8 0) 1 1 Try.underlying60 hi hz0 hz1 hz2 rfl (by decide) _ _ _ rfl (World.ownsRow_made w #[] 0 (Nat.le_refl _) (Nat.zero_le _) rfl) a n c (cellsB l) rfl ?q1 ?q2 ?q3 ?q4 ?q5 ?q6 ?_)
  case q1 => simp [cellsB, H.out.1]
  case q2 =>
    intro j u hj
    have hl : j < l.length := by
      have := (List.getElem?_eq_some_iff.1 hj).1
      simpa [cellsB] using this
    obtain ⟨a', e, _, hc⟩ := (H.out.alloc (.cells #[] 5)).2 (by have := H.out.1; omega)
    injection e with e
    subst e
    rw [hc j hl]
    simp [cellsB, List.getElem?_eq_getElem hl] at hj
    rw [hj]
  case q3 =>
    intro u hu
    obtain ⟨x, _, rfl⟩ := List.mem_map.1 hu
    rfl
  case q4 => unfold maxLen; omega
  case q5 => omega
  case q6 => simp
  intro v' w1 hown hgrow hnil
  clear hnil
  go_wp2
  go_ret
  obtain ⟨A, c', rfl, hb, hN⟩ := byt_own hown
  exact ⟨A, c', rfl, hb, hN, ((Below.refl _ w).alloc (Nat.le_refl _) _).grown hgrow (by simp) (by intro k hk; simp [Value.ownBlock] at hk; omega)⟩
set_option maxHeartbeats 400000 in
theorem clone_nil {w : World} {n : Nat} (c : Nat) {l : List UInt8} (h : Byt w none n l) :
    Calls Try.prog 25 #[.slice none n c] w (Cloned w n l) := by
  have hq : ∀ (w : World) (a : Option Addr) (n c n' c' : Nat), (binOp .eql 60 (.slice a n c) (.slice none n' c')).run Try.prog w = .ok (.bool a.isNone) w := fun w a n c n' c' => Lib.run_eql_slice_nil w _ _ a n c n' c' Try.underlying60
  have h0 : n = 0 := by
    rcases Nat.eq_zero_or_pos n with h0 | h0
    · exact h0
    · obtain ⟨a, e, _⟩ := h.2 h0
      cases e
  subst h0
  have H := Lib.hid h
  clear h
  go_enter Try.func25, Try.ntmps25
  go_wp2
  go_ret
  exact ⟨none, 0, rfl, H.out, (fun a e => by cases e), Below.refl _ _⟩
theorem clone_any {w : World} {A : Option Addr} {n : Nat} (c : Nat) {l : List UInt8} (h : Byt w A n l) (hn : n ≤ 1000) :
    Calls Try.prog 25 #[.slice A n c] w (Cloned w n l) := by
  cases A with
  | none => exact clone_nil c h
  | some a => exact clone_some a c h hn
end Go.Proofs.Ytbphjhmmdkaggaa
