/- Slices of bytes, pairs, keys and numbers that read as lists; what lies in which blocks; contracts of bytes.Clone, and of the document's own Few and Pairs. Condition: what came in can be read; bytes.Clone: at most 1000 bytes. What lies in which blocks; slices of keys and of numbers as lists; nodes; contracts of slices.Clone. Condition: what came in can be read. Contracts of what only looks at nodes: the law's as and few, the document's own Nodes. Condition: what came in can be read. The contract of package arena's apart: a node as new memory; nothing that was there is changed. Condition: what came in can be read; no list longer than 1000. The contract of package arena's apart: the walk. Condition: what came in can be read; no list longer than 1000. An arena: what it is in memory, which blocks are its own; contracts of New, uses, Used, Len. Condition: at most 10000 numbers. Contracts of the arena's Get and Set. Condition: at most 10000 numbers; no list of a node longer than 1000. What is put at an arena's number; the contract of the arena's Set. Condition: no list of a node longer than 1000. The contract of the arena's Free. Condition: at most 10000 numbers. The contract of the arena's Free: the walk. Condition: at most 10000 numbers. What the arena's Make leaves: a number that was free, or the next one. No condition. The contract of the arena's Make: the walk. Condition: at most 10000 numbers; no list of a node longer than 1000. -/
import Derived.Test.YtdkppgmhhijkgaaG1
import Derived.Below
import Derived.Deep.QuietTactic
import Derived.BigQuiet
import Derived.Laws.IdiomStrings
import Derived.Laws.BytesArg
import Derived.Laws.AppendOwn
import Derived.Laws.AppendOwnNone
import Derived.OwnWalk
import Derived.Deep.RegionHeld3
import Derived.Deep.Onto
import Derived.Deep.AppendLies
import Derived.Deep.RegionLaw
namespace Go.Proofs.Ytdkppgmhhijkgaa
open Go.RowKit
set_option linter.unusedVariables false
set_option maxRecDepth 100000

end Go.Proofs.Ytdkppgmhhijkgaa

namespace Go.Proofs.Ytdkppgmhhijkgaa
open Go.RowKit
set_option linter.unusedVariables false
set_option maxRecDepth 100000

/-- Of the blocks that C names nothing has turned. -/
def Agree (C : Nat → Prop) (w w' : World) : Prop := w.heap.size ≤ w'.heap.size ∧ ∀ b, C b → b < w.heap.size → w'.heap[b]? = w.heap[b]?
theorem Agree.refl (C : Nat → Prop) (w : World) : Agree C w w := ⟨Nat.le_refl _, fun _ _ _ => rfl⟩
theorem Agree.trans {C : Nat → Prop} {a b c : World} (h : Agree C a b) (k : Agree C b c) : Agree C a c :=
  ⟨Nat.le_trans h.1 k.1, fun i hi hl => (k.2 i hi (Nat.lt_of_lt_of_le hl h.1)).trans (h.2 i hi hl)⟩
theorem Agree.mono {C C' : Nat → Prop} {a b : World} (h : Agree C a b) (hC : ∀ i, C' i → C i) : Agree C' a b := ⟨h.1, fun i hi hl => h.2 i (hC i hi) hl⟩
theorem below_agree {C : Nat → Prop} {B : Nat} {w w' : World} (h : Below B w w') (hC : ∀ b, C b → b < w.heap.size → b < B) : Agree C w w' := ⟨h.size, fun b hb hl => h.block b (hC b hb hl)⟩
theorem below_all {C : Nat → Prop} {w w' : World} (h : Below w.heap.size w w') : Agree C w w' := below_agree h fun _ _ hl => hl
theorem agree_set {C : Nat → Prop} (w : World) (a : Addr) (u : Value) (h : ¬ C a.block) : Agree C w (w.setCell a u) :=
  ⟨by simp [World.setCell], fun b hb _ => Below.heap_setCell _ _ _ _ (fun e => h (e ▸ hb))⟩
theorem agree_alloc {C : Nat → Prop} (w : World) (o : Obj) : Agree C w (w.alloc o) := ⟨by simp, fun b _ hl => Below.heap_alloc _ _ _ hl⟩
theorem agree_grown {C : Nat → Prop} {w w' : World} {row : Option Nat} (h : w.grownBy w' row) (hr : ∀ k, row = some k → ¬ C k) : Agree C w w' :=
  ⟨h.size, fun b hb hl => h.block b hl (fun e => hr b e.symm hb)⟩

/-- What holds whatever happens outside the blocks that C names. -/
def On (C : Nat → Prop) (w : World) (P : World → Prop) : Prop := ∀ w', Agree C w w' → P w'
theorem On.here {C : Nat → Prop} {w : World} {P : World → Prop} (h : On C w P) : P w := h w (Agree.refl _ _)
theorem On.keep {C : Nat → Prop} {w w' : World} {P : World → Prop} (h : On C w P) (ha : Agree C w w') : On C w' P := fun v hv => h v (ha.trans hv)
theorem On.mono {C C' : Nat → Prop} {w : World} {P : World → Prop} (h : On C w P) (hC : ∀ i, C i → C' i) : On C' w P := fun v hv => h v (hv.mono hC)
theorem On.now {C : Nat → Prop} {w : World} {P : World → Prop} (h : On C w P) : On (fun b => C b ∧ b < w.heap.size) w P := fun v hv => h v ⟨hv.1, fun b hb hl => hv.2 b ⟨hb, hl⟩ hl⟩
theorem On.imp {C : Nat → Prop} {w : World} {P Q : World → Prop} (h : On C w P) (hPQ : ∀ w, P w → Q w) : On C w Q := fun v hv => hPQ v (h v hv)

theorem byt_on {C : Nat → Prop} {w : World} {A : Option Addr} {n : Nat} {l : List UInt8} (h : Byt w A n l) (hC : ∀ a, 0 < n → A = some a → C a.block) : On C w (Byt · A n l) := fun w' ⟨hs, hb⟩ =>
  ⟨h.1, fun h0 => by
    obtain ⟨a, e, hl, hj⟩ := h.2 h0
    refine ⟨a, e, by omega, fun j hj' => ?_⟩
    rw [← hj j hj']
    exact World.cell?_of_block (w := w) (a := a.add j) (by rw [add_block]; exact hb a.block (hC a h0 e) hl)⟩
theorem byt_old {w : World} {A : Option Addr} {n : Nat} {l : List UInt8} (h : Byt w A n l) : On (· < w.heap.size) w (Byt · A n l) :=
  byt_on h fun a h0 e => by
    obtain ⟨a', e', hl, _⟩ := h.2 h0
    rw [e] at e'
    injection e' with e'
    subst e'
    exact hl
theorem byt_new {w : World} {N : Nat} {A : Option Addr} {n : Nat} {l : List UInt8} (h : Byt w A n l) (hN : New N A) : On (N ≤ ·) w (Byt · A n l) := byt_on h fun a _ e => hN a e

theorem own_agree {C : Nat → Prop} {w w' : World} {base n : Nat} {e : TypeId} {s : Nat} {v : Value} {xs : List Value} (h : w.ownsRow base e s v n xs) (ha : Agree C w w') (hC : ∀ k, v.ownBlock = some k → C k) : w'.ownsRow base e s v n xs := by
  have hlt := h.lt
  obtain ⟨h1, h2⟩ := h
  refine ⟨h1, ?_⟩
  rcases h2 with h2 | ⟨g, cap, cur, rfl, hb, hg, r⟩
  · exact .inl h2
  · exact .inr ⟨g, cap, cur, rfl, hb, by rw [ha.2 g (hC g rfl) (hlt g rfl).2]; exact hg, r⟩

/-- A slice of keys that reads as the list L. -/
def kat (L : List (List UInt8)) (j : Nat) : List UInt8 := L.getD j []
def Kys (w : World) (A : Option Addr) (n c : Nat) (L : List (List UInt8)) : Prop :=
  L.length = n ∧ n ≤ c ∧ c ≤ maxLen ∧ (A = none → c = 0) ∧ (0 < n → ∃ b o, A = some ⟨b, o, none⟩ ∧ b < w.heap.size ∧ ∀ j, j < n → ∃ B m d, w.cell? ⟨b, o + j, none⟩ = some (.slice B m d) ∧ Byt w B m (kat L j))
/-- A slice of numbers that reads as the list L. -/
def iat (L : List Int) (j : Nat) : Int := L.getD j 0
def Ins (w : World) (A : Option Addr) (n c : Nat) (L : List Int) : Prop :=
  L.length = n ∧ n ≤ c ∧ c ≤ maxLen ∧ (A = none → c = 0) ∧ (0 < n → ∃ b o, A = some ⟨b, o, none⟩ ∧ b < w.heap.size ∧ ∀ j, j < n → w.cell? ⟨b, o + j, none⟩ = some (.int .i64 (iat L j)))
theorem kat_eq {L : List (List UInt8)} {i : Nat} (h : i < L.length) : kat L i = L[i] := by unfold kat; simp [h]
theorem iat_eq {L : List Int} {i : Nat} (h : i < L.length) : iat L i = L[i] := by unfold iat; simp [h]
theorem kys_nil (w : World) : Kys w none 0 0 [] := ⟨rfl, Nat.le_refl _, Nat.zero_le _, fun _ => rfl, fun h => absurd h (by omega)⟩
theorem ins_nil (w : World) : Ins w none 0 0 [] := ⟨rfl, Nat.le_refl _, Nat.zero_le _, fun _ => rfl, fun h => absurd h (by omega)⟩
theorem Kys.keep {w w' : World} {A : Option Addr} {n c : Nat} {L : List (List UInt8)} (h : Kys w A n c L) (hs : w.heap.size ≤ w'.heap.size) (hc : ∀ q : Addr, q.block < w.heap.size → w'.cell? q = w.cell? q) : Kys w' A n c L := by
  obtain ⟨h1, h2, h3, h4, h5⟩ := h
  refine ⟨h1, h2, h3, h4, fun h0 => ?_⟩
  obtain ⟨b, o, e, hb, hj⟩ := h5 h0
  refine ⟨b, o, e, by omega, fun j hl => ?_⟩
  obtain ⟨B, m, d, e1, e2⟩ := hj j hl
  exact ⟨B, m, d, (hc ⟨b, o + j, none⟩ hb).trans e1, e2.keep hs hc⟩
theorem Ins.keep {w w' : World} {A : Option Addr} {n c : Nat} {L : List Int} (h : Ins w A n c L) (hs : w.heap.size ≤ w'.heap.size) (hc : ∀ q : Addr, q.block < w.heap.size → w'.cell? q = w.cell? q) : Ins w' A n c L := by
  obtain ⟨h1, h2, h3, h4, h5⟩ := h
  refine ⟨h1, h2, h3, h4, fun h0 => ?_⟩
  obtain ⟨b, o, e, hb, hj⟩ := h5 h0
  exact ⟨b, o, e, by omega, fun j hl => (hc ⟨b, o + j, none⟩ hb).trans (hj j hl)⟩
theorem Kys.below {w w' : World} {A : Option Addr} {n c : Nat} {L : List (List UInt8)} (h : Kys w A n c L) (hb : Below w.heap.size w w') : Kys w' A n c L := h.keep hb.size fun _ hp => hb.cell hp
theorem Ins.below {w w' : World} {A : Option Addr} {n c : Nat} {L : List Int} (h : Ins w A n c L) (hb : Below w.heap.size w w') : Ins w' A n c L := h.keep hb.size fun _ hp => hb.cell hp
theorem Kys.at_ {w : World} {A : Option Addr} {n c j : Nat} {L : List (List UInt8)} (h : Kys w A n c L) (hj : j < n) :
    ∃ b o B m d, A = some ⟨b, o, none⟩ ∧ b < w.heap.size ∧ w.cell? ⟨b, o + j, none⟩ = some (.slice B m d) ∧ Byt w B m (kat L j) := by
  obtain ⟨b, o, e, hb, hp⟩ := h.2.2.2.2 (by omega)
  obtain ⟨B, m, d, e1, e2⟩ := hp j hj
  exact ⟨b, o, B, m, d, e, hb, e1, e2⟩
theorem Ins.at_ {w : World} {A : Option Addr} {n c j : Nat} {L : List Int} (h : Ins w A n c L) (hj : j < n) :
    ∃ b o, A = some ⟨b, o, none⟩ ∧ b < w.heap.size ∧ w.cell? ⟨b, o + j, none⟩ = some (.int .i64 (iat L j)) := by
  obtain ⟨b, o, e, hb, hp⟩ := h.2.2.2.2 (by omega)
  exact ⟨b, o, e, hb, hp j hj⟩

/-- A node. -/
structure Nd where
  leaf : Bool
  pairs : List Pr
  keys : List (List UInt8)
  kids : List Int
  next : Int
/-- Where its three slices lie. -/
structure Nh where
  A : Option Addr
  n : Nat
  c : Nat
  B : Option Addr
  m : Nat
  d : Nat
  K : Option Addr
  k : Nat
  e : Nat
def NdR (w : World) (h : Nh) (x : Nd) : Prop := Prs w h.A h.n h.c x.pairs ∧ Kys w h.B h.m h.d x.keys ∧ Ins w h.K h.k h.e x.kids
theorem NdR.below {w w' : World} {h : Nh} {x : Nd} (hr : NdR w h x) (hb : Below w.heap.size w w') : NdR w' h x := ⟨hr.1.below hb, hr.2.1.below hb, hr.2.2.below hb⟩
theorem NdR.alloc {w : World} {h : Nh} {x : Nd} (hr : NdR w h x) (o : Obj) : NdR (w.alloc o) h x := hr.below ((Below.refl _ _).alloc (Nat.le_refl _) _)
def nd0 : Nd := ⟨false, [], [], [], 0⟩
def nh0 : Nh := ⟨none, 0, 0, none, 0, 0, none, 0, 0⟩
theorem nd0_on (C : Nat → Prop) (w : World) : On C w (NdR · nh0 nd0) := fun w' _ => ⟨prs_nil w', kys_nil w', ins_nil w'⟩

/-- No list of it is long. -/
def SmallN (x : Nd) : Prop := x.pairs.length ≤ 1000 ∧ Small x.pairs ∧ x.keys.length ≤ 1000 ∧ (∀ j, j < x.keys.length → (kat x.keys j).length ≤ 1000) ∧ x.kids.length ≤ 1000

theorem Try.infoKey : (Try.prog.info? 25).map (fun i => (i.zero, i.size, i.bytes)) = some (some (.slice none 0 0), 1, 24) := by kernel_rfl
theorem Try.infoInt : (Try.prog.info? 3).map (fun i => (i.zero, i.size, i.bytes)) = some (some (.int .i64 0), 1, 8) := by kernel_rfl

theorem Kys.cells {w : World} {A : Option Addr} {n c : Nat} {L : List (List UInt8)} (h : Kys w A n c L) :
    ∃ xs : List Value, xs.length = n ∧ (∀ j, j < n → ∃ B m d, xs[j]? = some (.slice B m d) ∧ Byt w B m (kat L j)) ∧ ∀ a, A = some a → ∀ j u, xs[j]? = some u → w.cell? (a.add j) = some u := by
  obtain ⟨h1, h2, h3, h4, h5⟩ := h
  rcases Nat.eq_zero_or_pos n with h0 | h0
  · subst h0
    exact ⟨[], rfl, fun j hj => absurd hj (by omega), fun a _ j u hu => by simp at hu⟩
  · obtain ⟨b, o, rfl, hb, hj⟩ := h5 h0
    refine ⟨(List.range n).map fun j => (w.cell? ⟨b, o + j, none⟩).getD (.bool false), by simp, fun j hl => ?_, fun a e j u hu => ?_⟩
    · obtain ⟨B, m, d, e1, e2⟩ := hj j hl
      refine ⟨B, m, d, ?_, e2⟩
      rw [List.getElem?_map, List.getElem?_range hl]
      simp [e1]
    · injection e with e
      subst e
      rw [List.getElem?_map] at hu
      obtain ⟨i, hi, rfl⟩ := Option.map_eq_some_iff.1 hu
      obtain ⟨hi1, hi2⟩ := List.getElem?_eq_some_iff.1 hi
      simp at hi1 hi2
      subst hi2
      rw [add_lit]
      obtain ⟨B, m, d, e1, _⟩ := hj j (by omega)
      rw [e1]
      rfl
def intV (z : Int) : Value := .int .i64 z
theorem Ins.cells {w : World} {A : Option Addr} {n c : Nat} {L : List Int} (h : Ins w A n c L) :
    (L.map intV).length = n ∧ ∀ a, A = some a → ∀ j u, (L.map intV)[j]? = some u → w.cell? (a.add j) = some u := by
  obtain ⟨h1, h2, h3, h4, h5⟩ := h
  refine ⟨by simp [h1], fun a e j u hu => ?_⟩
  subst e
  rw [List.getElem?_map] at hu
  obtain ⟨z, hz, rfl⟩ := Option.map_eq_some_iff.1 hu
  obtain ⟨hj, rfl⟩ := List.getElem?_eq_some_iff.1 hz
  obtain ⟨b, o, e, _, hc⟩ := h5 (by omega)
  injection e with e
  subst e
  rw [add_lit, hc j (by omega), iat_eq hj]
  rfl

/-- What slices.Clone leaves: the same cells, as a row of one's own. -/
def ClonedR (w : World) (E : TypeId) (s n : Nat) (xs : List Value) (e : Ending) (w' : World) : Prop := ∃ v, e = .returned v ∧ w'.ownsRow w.heap.size E s v n xs ∧ Below w.heap.size w w'

theorem own_new {w' : World} {N : Nat} {E : TypeId} {s n : Nat} {v : Value} {xs : List Value} (h : w'.ownsRow N E s v n xs) : ∃ A c, v = .slice A n c ∧ New N A ∧ n ≤ c ∧ c ≤ maxLen ∧ (A = none → n = 0 ∧ c = 0) ∧ (∀ a, A = some a → a.off = 0 ∧ a = ⟨a.block, 0, none⟩) := by
  rcases h.2 with ⟨rfl, rfl⟩ | ⟨g, cap, cur, rfl, hB, hh, h1, h2, _⟩
  · exact ⟨none, 0, rfl, (fun a e => by cases e), Nat.le_refl _, Nat.zero_le _, fun _ => ⟨rfl, rfl⟩, fun a e => by cases e⟩
  · exact ⟨_, _, rfl, (fun a e => by injection e with e; subst e; exact hB), h1, h2, (fun e => by cases e), fun a e => by injection e with e; subst e; exact ⟨rfl, rfl⟩⟩

set_option maxHeartbeats 1000000 in
theorem clonep_any {w : World} {A : Option Addr} {n c : Nat} {xs : List Value} (hl : xs.length = n * 2) (hn : n ≤ 1000) (hA : A = none → n = 0) (hc : ∀ a, A = some a → ∀ j u, xs[j]? = some u → w.cell? (a.add j) = some u) (h1 : ∀ u ∈ xs, u.oneCell' = true) :
    Calls Try.prog 75 #[.slice A n c] w (ClonedR w 27 2 n xs) := by
  obtain ⟨i0, hi, hz0, hz1, hz2⟩ := info_parts Try.infoPair
  have hq : ∀ (w : World) (a : Option Addr) (n c n' c' : Nat), (binOp .eql 22 (.slice a n c) (.slice none n' c')).run Try.prog w = .ok (.bool a.isNone) w := fun w a n c n' c' => Lib.run_eql_slice_nil w _ _ a n c n' c' Try.underlying22
  have HL := Lib.hid hl
  have HC := Lib.hid hc
  have H1 := Lib.hid h1
  clear hl hc h1
  cases A with
  | none =>
    obtain rfl : n = 0 := hA rfl
    obtain rfl : xs = [] := List.eq_nil_of_length_eq_zero (by rw [HL.out])
    go_enter Try.func75, Try.ntmps75
    go_wp2
    go_ret
    exact ⟨_, rfl, World.ownsRow_nil _ _ _ _, Below.refl _ _⟩
  | some a =>
    clear hA
    go_enter Try.func75, Try.ntmps75
    go_wp2_with (at_builtin; refine wpList_append_own _ rfl _ _ 22 rfl w.heap.size 27 i0 (.agg #[.slice none 0 0, .slice none 0 0]) 2 48 Try.underlying22 hi hz0 hz1 hz2 rfl (by decide) _ _ _ rfl (World.ownsRow_made w #[] 0 (Nat.le_refl _) (Nat.zero_le _) rfl) a n c xs rfl HL.out ?q2 H1.out ?q4 ?q5 ?q6 ?_)
    case q2 => exact fun j u hj => (((Below.refl _ w).alloc (Nat.le_refl _) _).cell (World.block_lt_of_cell? w _ (HC.out a rfl j u hj))).trans (HC.out a rfl j u hj)
    case q4 => unfold maxLen; omega
    case q5 => omega
    case q6 => simp
    intro v' w1 hown hgrow hnil
    clear hnil
    have hown := (by simpa using hown : w1.ownsRow w.heap.size _ _ v' n xs)
    go_wp2
    go_ret
    exact ⟨_, rfl, hown, ((Below.refl _ w).alloc (Nat.le_refl _) _).grown hgrow (by simp) (by intro k hk; simp [Value.ownBlock] at hk; omega)⟩

set_option maxHeartbeats 1000000 in
theorem clonek_any {w : World} {A : Option Addr} {n c : Nat} {xs : List Value} (hl : xs.length = n * 1) (hn : n ≤ 1000) (hA : A = none → n = 0) (hc : ∀ a, A = some a → ∀ j u, xs[j]? = some u → w.cell? (a.add j) = some u) (h1 : ∀ u ∈ xs, u.oneCell' = true) :
    Calls Try.prog 76 #[.slice A n c] w (ClonedR w 25 1 n xs) := by
  obtain ⟨i0, hi, hz0, hz1, hz2⟩ := info_parts Try.infoKey
  have hq : ∀ (w : World) (a : Option Addr) (n c n' c' : Nat), (binOp .eql 70 (.slice a n c) (.slice none n' c')).run Try.prog w = .ok (.bool a.isNone) w := fun w a n c n' c' => Lib.run_eql_slice_nil w _ _ a n c n' c' Try.underlying70
  have HL := Lib.hid hl
  have HC := Lib.hid hc
  have H1 := Lib.hid h1
  clear hl hc h1
  cases A with
  | none =>
    obtain rfl : n = 0 := hA rfl
    obtain rfl : xs = [] := List.eq_nil_of_length_eq_zero (by rw [HL.out])
    go_enter Try.func76, Try.ntmps76
    go_wp2
    go_ret
    exact ⟨_, rfl, World.ownsRow_nil _ _ _ _, Below.refl _ _⟩
  | some a =>
    clear hA
    go_enter Try.func76, Try.ntmps76
    go_wp2_with (at_builtin; refine wpList_append_own _ rfl _ _ 70 rfl w.heap.size 25 i0 (.slice none 0 0) 1 24 Try.underlying70 hi hz0 hz1 hz2 rfl (by decide) _ _ _ rfl (World.ownsRow_made w #[] 0 (Nat.le_refl _) (Nat.zero_le _) rfl) a n c xs rfl HL.out ?q2 H1.out ?q4 ?q5 ?q6 ?_)
    case q2 => exact fun j u hj => (((Below.refl _ w).alloc (Nat.le_refl _) _).cell (World.block_lt_of_cell? w _ (HC.out a rfl j u hj))).trans (HC.out a rfl j u hj)
    case q4 => unfold maxLen; omega
    case q5 => omega
    case q6 => simp
    intro v' w1 hown hgrow hnil
    clear hnil
    have hown := (by simpa using hown : w1.ownsRow w.heap.size _ _ v' n xs)
    go_wp2
    go_ret
    exact ⟨_, rfl, hown, ((Below.refl _ w).alloc (Nat.le_refl _) _).grown hgrow (by simp) (by intro k hk; simp [Value.ownBlock] at hk; omega)⟩

set_option maxHeartbeats 1000000 in
theorem clonei_any {w : World} {A : Option Addr} {n c : Nat} {xs : List Value} (hl : xs.length = n * 1) (hn : n ≤ 1000) (hA : A = none → n = 0) (hc : ∀ a, A = some a → ∀ j u, xs[j]? = some u → w.cell? (a.add j) = some u) (h1 : ∀ u ∈ xs, u.oneCell' = true) :
    Calls Try.prog 77 #[.slice A n c] w (ClonedR w 3 1 n xs) := by
  obtain ⟨i0, hi, hz0, hz1, hz2⟩ := info_parts Try.infoInt
  have hq : ∀ (w : World) (a : Option Addr) (n c n' c' : Nat), (binOp .eql 62 (.slice a n c) (.slice none n' c')).run Try.prog w = .ok (.bool a.isNone) w := fun w a n c n' c' => Lib.run_eql_slice_nil w _ _ a n c n' c' Try.underlying62
  have HL := Lib.hid hl
  have HC := Lib.hid hc
  have H1 := Lib.hid h1
  clear hl hc h1
  cases A with
  | none =>
    obtain rfl : n = 0 := hA rfl
    obtain rfl : xs = [] := List.eq_nil_of_length_eq_zero (by rw [HL.out])
    go_enter Try.func77, Try.ntmps77
    go_wp2
    go_ret
    exact ⟨_, rfl, World.ownsRow_nil _ _ _ _, Below.refl _ _⟩
  | some a =>
    clear hA
    go_enter Try.func77, Try.ntmps77
    go_wp2_with (at_builtin; refine wpList_append_own _ rfl _ _ 62 rfl w.heap.size 3 i0 (.int .i64 0) 1 8 Try.underlying62 hi hz0 hz1 hz2 rfl (by decide) _ _ _ rfl (World.ownsRow_made w #[] 0 (Nat.le_refl _) (Nat.zero_le _) rfl) a n c xs rfl HL.out ?q2 H1.out ?q4 ?q5 ?q6 ?_)
    case q2 => exact fun j u hj => (((Below.refl _ w).alloc (Nat.le_refl _) _).cell (World.block_lt_of_cell? w _ (HC.out a rfl j u hj))).trans (HC.out a rfl j u hj)
    case q4 => unfold maxLen; omega
    case q5 => omega
    case q6 => simp
    intro v' w1 hown hgrow hnil
    clear hnil
    have hown := (by simpa using hown : w1.ownsRow w.heap.size _ _ v' n xs)
    go_wp2
    go_ret
    exact ⟨_, rfl, hown, ((Below.refl _ w).alloc (Nat.le_refl _) _).grown hgrow (by simp) (by intro k hk; simp [Value.ownBlock] at hk; omega)⟩
end Go.Proofs.Ytdkppgmhhijkgaa

namespace Go.Proofs.Ytdkppgmhhijkgaa
open Go.RowKit
set_option linter.unusedVariables false
set_option maxRecDepth 100000

/-- A node as a value. -/
abbrev ndV (h : Nh) (x : Nd) : Value := .agg #[.bool x.leaf, .slice h.A h.n h.c, .slice h.B h.m h.d, .slice h.K h.k h.e, .int .i64 x.next]

def FewPost (w : World) (x : Nd) (e : Ending) (w' : World) : Prop := ∃ b, e = .returned (.bool b) ∧ (b = true → SmallN x) ∧ Below w.heap.size w w'

theorem small_few {L : List Pr} (h : fewB L 30 = true) : L.length ≤ 1000 ∧ Small L := by
  unfold fewB shortB at h
  simp at h
  refine ⟨by omega, fun p hp => ?_⟩
  have := h.1 p.1 p.2 hp
  omega

end Go.Proofs.Ytdkppgmhhijkgaa

namespace Go.Proofs.Ytdkppgmhhijkgaa
open Go.RowKit
set_option linter.unusedVariables false
set_option maxRecDepth 100000

theorem five {w : World} {b : Nat} {T : TypeId} {a0 a1 a2 a3 a4 : Value} (h : w.heap[b]? = some (.cells #[a0, a1, a2, a3, a4] T (0, 0))) :
    w.cell? ⟨b, 0, none⟩ = some a0 ∧ w.cell? ⟨b, 1, none⟩ = some a1 ∧ w.cell? ⟨b, 2, none⟩ = some a2 ∧ w.cell? ⟨b, 3, none⟩ = some a3 ∧ w.cell? ⟨b, 4, none⟩ = some a4 ∧
      w.frozen? ⟨b, 0, none⟩ = false ∧ w.frozen? ⟨b, 1, none⟩ = false ∧ w.frozen? ⟨b, 2, none⟩ = false ∧ w.frozen? ⟨b, 3, none⟩ = false ∧ w.frozen? ⟨b, 4, none⟩ = false := by
  simp [World.cell?, World.frozen?, h]

theorem set1 {w : World} {b : Nat} {T : TypeId} {a0 a1 a2 a3 a4 : Value} (u : Value) (h : w.heap[b]? = some (.cells #[a0, a1, a2, a3, a4] T (0, 0))) : (w.setCell ⟨b, 1, none⟩ u).heap[b]? = some (.cells #[a0, u, a2, a3, a4] T (0, 0)) := by
  simp [World.setCell, Array.getElem?_modify, h]
theorem set2 {w : World} {b : Nat} {T : TypeId} {a0 a1 a2 a3 a4 : Value} (u : Value) (h : w.heap[b]? = some (.cells #[a0, a1, a2, a3, a4] T (0, 0))) : (w.setCell ⟨b, 2, none⟩ u).heap[b]? = some (.cells #[a0, a1, u, a3, a4] T (0, 0)) := by
  simp [World.setCell, Array.getElem?_modify, h]
theorem set3 {w : World} {b : Nat} {T : TypeId} {a0 a1 a2 a3 a4 : Value} (u : Value) (h : w.heap[b]? = some (.cells #[a0, a1, a2, a3, a4] T (0, 0))) : (w.setCell ⟨b, 3, none⟩ u).heap[b]? = some (.cells #[a0, a1, a2, u, a4] T (0, 0)) := by
  simp [World.setCell, Array.getElem?_modify, h]
theorem set_other {w : World} {b : Nat} {o : Option Obj} (a : Addr) (u : Value) (h : w.heap[b]? = o) (hb : b ≠ a.block) : (w.setCell a u).heap[b]? = o := by
  rw [Below.heap_setCell _ _ _ _ hb]; exact h

/-- Cells that read as pairs, the bytes of pair t in blocks that C t names. -/
def ReadsC (C : Nat → Nat → Prop) (w : World) (xs : List Value) (L : List Pr) : Prop :=
  xs.length = L.length * 2 ∧ ∀ j, j < L.length → ∃ A n c B m d, xs[j * 2]? = some (.slice A n c) ∧ xs[j * 2 + 1]? = some (.slice B m d) ∧ On (C j) w (Byt · A n (gt L j).1) ∧ On (C j) w (Byt · B m (gt L j).2)
theorem ReadsC.keep {C : Nat → Nat → Prop} {w w' : World} {xs : List Value} {L : List Pr} (h : ReadsC C w xs L) (ha : ∀ t, Agree (C t) w w') : ReadsC C w' xs L :=
  ⟨h.1, fun j hj => by
    obtain ⟨A, n, c, B, m, d, e1, e2, e3, e4⟩ := h.2 j hj
    exact ⟨A, n, c, B, m, d, e1, e2, e3.keep (ha j), e4.keep (ha j)⟩⟩
theorem ReadsC.mono {C C' : Nat → Nat → Prop} {w : World} {xs : List Value} {L : List Pr} (h : ReadsC C w xs L) (hC : ∀ t, t < L.length → ∀ b, C t b → C' t b) : ReadsC C' w xs L :=
  ⟨h.1, fun j hj => by
    obtain ⟨A, n, c, B, m, d, e1, e2, e3, e4⟩ := h.2 j hj
    exact ⟨A, n, c, B, m, d, e1, e2, e3.mono (hC j hj), e4.mono (hC j hj)⟩⟩
theorem ReadsC.put {C C' : Nat → Nat → Prop} {w : World} {xs : List Value} {L : List Pr} (h : ReadsC C w xs L) {j : Nat} (hj : j < L.length) (hC : ∀ t, t ≠ j → ∀ b, C t b → C' t b) {A B : Option Addr} {n m : Nat} (c d : Nat)
    (ha : On (C' j) w (Byt · A n (gt L j).1)) (hb : On (C' j) w (Byt · B m (gt L j).2)) : ReadsC C' w ((xs.set (j * 2) (.slice A n c)).set (j * 2 + 1) (.slice B m d)) L := by
  have hl := h.1
  refine ⟨by simp [hl], fun i hi => ?_⟩
  by_cases e : i = j
  · subst e
    refine ⟨A, n, c, B, m, d, ?_, ?_, ha, hb⟩
    · rw [List.getElem?_set_ne (by omega), List.getElem?_set_self (by omega)]
    · rw [List.getElem?_set_self (by simp; omega)]
  · obtain ⟨A, n, c, B, m, d, e1, e2, e3, e4⟩ := h.2 i hi
    refine ⟨A, n, c, B, m, d, ?_, ?_, e3.mono (hC i e), e4.mono (hC i e)⟩
    · rw [List.getElem?_set_ne (by omega), List.getElem?_set_ne (by omega), e1]
    · rw [List.getElem?_set_ne (by omega), List.getElem?_set_ne (by omega), e2]
theorem prs_on {C : Nat → Prop} {w : World} {N n : Nat} {A : Option Addr} {c : Nat} {xs : List Value} {L : List Pr} (h : w.ownsRow N 27 2 (.slice A n c) n xs) (hr : ReadsC (fun _ => C) w xs L) (hC : ∀ a, A = some a → C a.block) : On C w (Prs · A n c L) := by
  intro w' ha
  have h' := own_agree h ha (fun k hk => by
    cases A with
    | none => cases hk
    | some a => injection hk with hk; subst hk; exact hC a rfl)
  obtain ⟨A', c', e, hp, _⟩ := own_prs h' (L := L) ⟨hr.1, fun j hj => by
    obtain ⟨A, n, c, B, m, d, e1, e2, e3, e4⟩ := hr.2 j hj
    exact ⟨A, n, c, B, m, d, e1, e2, e3 w' ha, e4 w' ha⟩⟩
  injection e with e1 e2 e3
  subst e1
  subst e3
  exact hp

/-- Cells that read as keys, the bytes of key t in blocks that C t names. -/
def KReads (C : Nat → Nat → Prop) (w : World) (xs : List Value) (L : List (List UInt8)) : Prop :=
  xs.length = L.length ∧ ∀ j, j < L.length → ∃ A n c, xs[j]? = some (.slice A n c) ∧ On (C j) w (Byt · A n (kat L j))
theorem KReads.keep {C : Nat → Nat → Prop} {w w' : World} {xs : List Value} {L : List (List UInt8)} (h : KReads C w xs L) (ha : ∀ t, Agree (C t) w w') : KReads C w' xs L :=
  ⟨h.1, fun j hj => by
    obtain ⟨A, n, c, e1, e2⟩ := h.2 j hj
    exact ⟨A, n, c, e1, e2.keep (ha j)⟩⟩
theorem KReads.mono {C C' : Nat → Nat → Prop} {w : World} {xs : List Value} {L : List (List UInt8)} (h : KReads C w xs L) (hC : ∀ t, t < L.length → ∀ b, C t b → C' t b) : KReads C' w xs L :=
  ⟨h.1, fun j hj => by
    obtain ⟨A, n, c, e1, e2⟩ := h.2 j hj
    exact ⟨A, n, c, e1, e2.mono (hC j hj)⟩⟩
theorem KReads.put {C C' : Nat → Nat → Prop} {w : World} {xs : List Value} {L : List (List UInt8)} (h : KReads C w xs L) {j : Nat} (hj : j < L.length) (hC : ∀ t, t ≠ j → ∀ b, C t b → C' t b) {A : Option Addr} {n : Nat} (c : Nat)
    (ha : On (C' j) w (Byt · A n (kat L j))) : KReads C' w (xs.set j (.slice A n c)) L := by
  have hl := h.1
  refine ⟨by simp [hl], fun i hi => ?_⟩
  by_cases e : i = j
  · subst e
    exact ⟨A, n, c, by rw [List.getElem?_set_self (by omega)], ha⟩
  · obtain ⟨A, n, c, e1, e2⟩ := h.2 i hi
    exact ⟨A, n, c, by rw [List.getElem?_set_ne (by omega), e1], e2.mono (hC i e)⟩
theorem KReads.now {C : Nat → Nat → Prop} {w : World} {xs : List Value} {L : List (List UInt8)} (h : KReads C w xs L) : KReads (fun t b => C t b ∧ b < w.heap.size) w xs L :=
  ⟨h.1, fun j hj => by
    obtain ⟨A, n, c, e1, e2⟩ := h.2 j hj
    exact ⟨A, n, c, e1, e2.now⟩⟩
theorem own_at {w : World} {base : Nat} {e : TypeId} {s n c : Nat} {A : Option Addr} {xs : List Value} (h : w.ownsRow base e s (.slice A n c) n xs) (h0 : 0 < n) : ∃ g, A = some ⟨g, 0, none⟩ ∧ base ≤ g ∧ g < w.heap.size := by
  rcases h.2 with ⟨_, rfl⟩ | ⟨g, cap, cur, e, hB, hh, _⟩
  · omega
  · injection e with e1 e2 e3
    exact ⟨g, e1, hB, (Array.getElem?_eq_some_iff.1 hh).1⟩
theorem own_caps {w : World} {base : Nat} {e : TypeId} {s n c : Nat} {A : Option Addr} {xs : List Value} (h : w.ownsRow base e s (.slice A n c) n xs) : n ≤ c ∧ c ≤ maxLen ∧ (A = none → c = 0) := by
  obtain ⟨A', c', e, h1, h2, h3, h4, h5⟩ := own_new h
  injection e with e1 e2 e3
  subst e1
  subst e3
  exact ⟨h2, h3, fun e => (h4 e).2⟩
theorem kys_on {C : Nat → Prop} {w : World} {N n : Nat} {A : Option Addr} {c : Nat} {xs : List Value} {L : List (List UInt8)} (h : w.ownsRow N 25 1 (.slice A n c) n xs) (hr : KReads (fun _ => C) w xs L) (hC : ∀ a, A = some a → C a.block) : On C w (Kys · A n c L) := by
  intro w' ha
  have h' := own_agree h ha (fun k hk => by
    cases A with
    | none => cases hk
    | some a => injection hk with hk; subst hk; exact hC a rfl)
  have hc := own_caps h'
  refine ⟨by have := h.1; have := hr.1; omega, hc.1, hc.2.1, hc.2.2, fun h0 => ?_⟩
  obtain ⟨g, rfl, _, hg⟩ := own_at h' h0
  refine ⟨g, 0, rfl, hg, fun j hj => ?_⟩
  obtain ⟨A, m, d, e1, e2⟩ := hr.2 j (by have := h.1; have := hr.1; omega)
  exact ⟨A, m, d, by rw [Nat.zero_add, h'.cellAt j (by omega), e1], e2 w' ha⟩
theorem ins_on {C : Nat → Prop} {w : World} {N n : Nat} {A : Option Addr} {c : Nat} {L : List Int} (h : w.ownsRow N 3 1 (.slice A n c) n (L.map intV)) (hC : ∀ a, A = some a → C a.block) : On C w (Ins · A n c L) := by
  intro w' ha
  have h' := own_agree h ha (fun k hk => by
    cases A with
    | none => cases hk
    | some a => injection hk with hk; subst hk; exact hC a rfl)
  have hc := own_caps h'
  have hl : L.length = n := by have := h.1; simpa using this
  refine ⟨hl, hc.1, hc.2.1, hc.2.2, fun h0 => ?_⟩
  obtain ⟨g, rfl, _, hg⟩ := own_at h' h0
  refine ⟨g, 0, rfl, hg, fun j hj => ?_⟩
  rw [Nat.zero_add, h'.cellAt j (by omega), List.getElem?_map, List.getElem?_eq_getElem (by omega), iat_eq (by omega)]
  rfl

/-- Of a row's own block; which blocks the bytes of its element t may lie in when j have been made anew. -/
def Cj (A : Option Addr) (N j : Nat) (t b : Nat) : Prop := (∀ a, A = some a → a.block ≠ b) ∧ (t < j → N ≤ b)

/-- Where the loop that copies each pair has come to. -/
def PairsInv (W : World) (N : Nat) (A : Option Addr) (k cap : Nat) (L : List Pr) (j : Nat) (wr : World) : Prop :=
  ∃ xs, wr.ownsRow N 27 2 (.slice A k cap) k xs ∧ ReadsC (Cj A N j) wr xs L ∧ Below N W wr ∧ N ≤ wr.heap.size

theorem own_set {w : World} {base g : Nat} {e : TypeId} {s n cap : Nat} {xs : List Value} (h : w.ownsRow base e s (.slice (some ⟨g, 0, none⟩) n cap) n xs) (j : Nat) (u : Value) : (w.setCell ⟨g, j, none⟩ u).ownsRow base e s (.slice (some ⟨g, 0, none⟩) n cap) n (xs.set j u) := (h.stored j u).1

/-- What one round of that loop leaves. -/
theorem pairs_round {W wr w3 w4 : World} {N g k cap j n1 m1 x2 x3 : Nat} {L : List Pr} {A2 B2 : Option Addr} (h : PairsInv W N (some ⟨g, 0, none⟩) k cap L j wr) (hj : j < L.length) (hg1 : N ≤ g) (hg2 : g < wr.heap.size)
    (hb3 : Below wr.heap.size wr w3) (p2 : Byt w3 A2 n1 (gt L j).1) (n2 : New (g + 1) A2) (hb4 : Below w3.heap.size w3 w4) (p3 : Byt w4 B2 m1 (gt L j).2) (n3 : New (g + 1) B2) :
    PairsInv W N (some ⟨g, 0, none⟩) k cap L (j + 1) ((w4.setCell ⟨g, j * 2, none⟩ (.slice A2 n1 x2)).setCell ⟨g, j * 2 + 1, none⟩ (.slice B2 m1 x3)) := by
  obtain ⟨xs, hown, hr, hb, hN⟩ := h
  have hb34 : Below wr.heap.size wr w4 := hb3.trans (hb4.mono hb3.size)
  have o4 := own_agree hown (C := fun _ => True) (below_all hb34) (fun _ _ => trivial)
  have hC : ∀ t b, Cj (some ⟨g, 0, none⟩) N j t b → b ≠ g := fun t b h e => h.1 _ rfl e.symm
  have r4 := hr.keep (fun t => below_all (C := Cj (some ⟨g, 0, none⟩) N j t) hb34)
  have r5 := (r4.keep (fun t => agree_set w4 ⟨g, j * 2, none⟩ (.slice A2 n1 x2) (fun h => hC t _ h rfl))).keep (fun t => agree_set _ ⟨g, j * 2 + 1, none⟩ (.slice B2 m1 x3) (fun h => hC t _ h rfl))
  have hnew : ∀ i, g + 1 ≤ i → Cj (some ⟨g, 0, none⟩) N (j + 1) j i := fun i hi => ⟨fun a e => by injection e with e; subst e; show g ≠ i; omega, fun _ => by omega⟩
  have q2 := (((byt_new p2 n2).keep (below_all hb4)).keep (agree_set w4 ⟨g, j * 2, none⟩ (.slice A2 n1 x2) (by show ¬ (g + 1 ≤ g); omega))).keep (agree_set _ ⟨g, j * 2 + 1, none⟩ (.slice B2 m1 x3) (by show ¬ (g + 1 ≤ g); omega))
  have q3 := ((byt_new p3 n3).keep (agree_set w4 ⟨g, j * 2, none⟩ (.slice A2 n1 x2) (by show ¬ (g + 1 ≤ g); omega))).keep (agree_set _ ⟨g, j * 2 + 1, none⟩ (.slice B2 m1 x3) (by show ¬ (g + 1 ≤ g); omega))
  refine ⟨_, own_set (own_set o4 (j * 2) (.slice A2 n1 x2)) (j * 2 + 1) (.slice B2 m1 x3), r5.put hj (fun t ht b hb => ⟨hb.1, fun hl => hb.2 (by omega)⟩) x2 x3 (q2.mono hnew) (q3.mono hnew), ?_, ?_⟩
  · exact ((hb.trans (hb34.mono hN)).setCell hg1 _).setCell hg1 _
  · have := hb34.size
    simp [World.setCell]
    omega

/-- Where the loop that copies each key has come to. -/
def KeysInv (W : World) (N : Nat) (A : Option Addr) (k cap : Nat) (L : List (List UInt8)) (j : Nat) (wr : World) : Prop :=
  ∃ xs, wr.ownsRow N 25 1 (.slice A k cap) k xs ∧ KReads (Cj A N j) wr xs L ∧ Below N W wr ∧ N ≤ wr.heap.size

theorem keys_round {W wr w3 : World} {N g k cap j n1 x2 : Nat} {L : List (List UInt8)} {A2 : Option Addr} (h : KeysInv W N (some ⟨g, 0, none⟩) k cap L j wr) (hj : j < L.length) (hg1 : N ≤ g) (hg2 : g < wr.heap.size)
    (hb3 : Below wr.heap.size wr w3) (p2 : Byt w3 A2 n1 (kat L j)) (n2 : New (g + 1) A2) :
    KeysInv W N (some ⟨g, 0, none⟩) k cap L (j + 1) (w3.setCell ⟨g, j, none⟩ (.slice A2 n1 x2)) := by
  obtain ⟨xs, hown, hr, hb, hN⟩ := h
  have o4 := own_agree hown (C := fun _ => True) (below_all hb3) (fun _ _ => trivial)
  have hC : ∀ t b, Cj (some ⟨g, 0, none⟩) N j t b → b ≠ g := fun t b h e => h.1 _ rfl e.symm
  have r4 := hr.keep (fun t => below_all (C := Cj (some ⟨g, 0, none⟩) N j t) hb3)
  have r5 := (r4.keep (fun t => agree_set w3 ⟨g, j, none⟩ (.slice A2 n1 x2) (fun h => hC t _ h rfl)))
  have hnew : ∀ i, g + 1 ≤ i → Cj (some ⟨g, 0, none⟩) N (j + 1) j i := fun i hi => ⟨fun a e => by injection e with e; subst e; show g ≠ i; omega, fun _ => by omega⟩
  have q2 := (byt_new p2 n2).keep (agree_set w3 ⟨g, j, none⟩ (.slice A2 n1 x2) (by show ¬ (g + 1 ≤ g); omega))
  refine ⟨_, own_set o4 j (.slice A2 n1 x2), r5.put hj (fun t ht b hb => ⟨hb.1, fun hl => hb.2 (by omega)⟩) x2 (q2.mono hnew), ?_, ?_⟩
  · exact (hb.trans (hb3.mono hN)).setCell hg1 _
  · have := hb3.size
    simp [World.setCell]
    omega
end Go.Proofs.Ytdkppgmhhijkgaa

namespace Go.Proofs.Ytdkppgmhhijkgaa
open Go.RowKit
set_option linter.unusedVariables false
set_option maxRecDepth 100000

/-- What apart leaves: the same node, in new memory. -/
def Apart (w : World) (x : Nd) (e : Ending) (w' : World) : Prop := ∃ h, e = .returned (ndV h x) ∧ On (w.heap.size ≤ ·) w' (NdR · h x) ∧ Below w.heap.size w w'

/-- The keys are a row of one's own, in blocks from N on, and their bytes lie elsewhere. -/
def KeysOwn (N : Nat) (w : World) (h : Nh) (x : Nd) : Prop :=
  ∃ ys, w.ownsRow N 25 1 (.slice h.B h.m h.d) h.m ys ∧ KReads (fun _ b => N ≤ b ∧ (∀ a, h.B = some a → a.block ≠ b) ∧ ∀ a, h.K = some a → a.block ≠ b) w ys x.keys ∧ ∀ a b, h.B = some a → h.K = some b → a.block ≠ b.block

/-- The same, and the kids are a row of one's own; so are the keys. -/
def ApartO (w : World) (x : Nd) (e : Ending) (w' : World) : Prop := ∃ h, e = .returned (ndV h x) ∧ On (w.heap.size ≤ ·) w' (NdR · h x) ∧ Below w.heap.size w w' ∧ w'.ownsRow (w.heap.size + 1 + 1) 3 1 (.slice h.K h.k h.e) h.k (x.kids.map intV) ∧ KeysOwn (w.heap.size + 1 + 1) w' h x

theorem six_agree {C : Nat → Prop} (w : World) {a b : Nat} (u0 u1 u2 u3 u4 u5 : Value) (ha : ¬ C a) (hb : ¬ C b) :
    Agree C w ((((((w.setCell ⟨a, 3, none⟩ u0).setCell ⟨b, 0, none⟩ u1).setCell ⟨b, 1, none⟩ u2).setCell ⟨b, 2, none⟩ u3).setCell ⟨b, 3, none⟩ u4).setCell ⟨b, 4, none⟩ u5) :=
  (((((agree_set w ⟨a, 3, none⟩ u0 ha).trans (agree_set _ ⟨b, 0, none⟩ u1 hb)).trans (agree_set _ ⟨b, 1, none⟩ u2 hb)).trans (agree_set _ ⟨b, 2, none⟩ u3 hb)).trans (agree_set _ ⟨b, 3, none⟩ u4 hb)).trans (agree_set _ ⟨b, 4, none⟩ u5 hb)
theorem two_new (w : World) (o1 o2 : Obj) : ∃ W, W = (w.alloc o1).alloc o2 ∧ Below w.heap.size w W ∧ W.heap.size = w.heap.size + 1 + 1 ∧ W.heap[w.heap.size]? = some o1 ∧ W.heap[w.heap.size + 1]? = some o2 := by
  refine ⟨_, rfl, ((Below.refl _ w).alloc (Nat.le_refl _) _).alloc (by simp) _, by simp, ?_, ?_⟩
  · rw [Below.heap_alloc _ _ _ (by simp)]
    exact heap_alloc_new w _
  · have := heap_alloc_new (w.alloc o1) o2
    rw [show (w.alloc o1).heap.size = w.heap.size + 1 by simp] at this
    exact this

set_option maxRecDepth 100000 in
set_option maxHeartbeats 4000000 in
theorem apart_own {w : World} {h : Nh} {x : Nd} (hr : NdR w h x) (hs : SmallN x) : Calls Try.prog 63 #[ndV h x] w (ApartO w x) := by
  obtain ⟨A, n, c, B, m, d, K, k, ee⟩ := h
  have W0 := Lib.hid (two_new w (.cells #[.bool x.leaf, .slice A n c, .slice B m d, .slice K k ee, .int .i64 x.next] 72) (.cells #[.bool false, .slice none 0 0, .slice none 0 0, .slice none 0 0, .int .i64 0] 72))
  have HR := Lib.hid hr
  have HS := Lib.hid hs
  clear hr hs
  go_enter Try.func63, Try.ntmps63
  go_wp2_with fail
  obtain ⟨W, hW, hWB, hWs, hWb0, hWb1⟩ := W0.out
  rw [← hW]
  clear hW W0
  obtain ⟨xs, rx, lx, cx⟩ := HR.out.1.cells
  simp only at rx lx cx
  have hn : n ≤ 1000 := by have := HS.out.1; have := HR.out.1.1; simp only at this; omega
  have hm : m ≤ 1000 := by have := HS.out.2.2.1; have := HR.out.2.1.1; simp only at this; omega
  have hk : k ≤ 1000 := by have := HS.out.2.2.2.2; have := HR.out.2.2.1; simp only at this; omega
  have HC1 := clonep_any (w := W) (c := c) lx hn (fun e => by have := HR.out.1.2.2.2.1 e; have := HR.out.1.2.1; simp only at *; omega) (fun a e j u hu => (hWB.cell (World.block_lt_of_cell? w _ (cx a e j u hu))).trans (cx a e j u hu)) rx.one
  have HX := Lib.hid rx
  have HWB := Lib.hid hWB
  have HWS := Lib.hid hWs
  have HB0 := Lib.hid hWb0
  have HB1 := Lib.hid hWb1
  clear rx lx cx hWB hWs hWb0 hWb1
  refine HC1.mono ?_
  rintro e w1 ⟨v1, rfl, ho1, hb1⟩
  clear HC1
  obtain ⟨P1, pc, rfl, nP1, -⟩ := own_new ho1
  have q0 := (hb1.block w.heap.size (by rw [HWS.out]; omega)).trans HB0.out
  have q1 := (hb1.block (w.heap.size + 1) (by rw [HWS.out]; omega)).trans HB1.out
  have HW1 := Lib.hid (show ∃ W1, W1 = w1.setCell ⟨w.heap.size, 1, none⟩ (.slice P1 n pc) ∧ W1.heap[w.heap.size]? = some (.cells #[.bool x.leaf, .slice P1 n pc, .slice B m d, .slice K k ee, .int .i64 x.next] 72 (0, 0)) ∧ W1.heap[w.heap.size + 1]? = some (.cells #[.bool false, .slice none 0 0, .slice none 0 0, .slice none 0 0, .int .i64 0] 72 (0, 0)) ∧
      Below w.heap.size w W1 ∧ PairsInv W1 (w.heap.size + 1 + 1) P1 n pc x.pairs 0 W1 from by
    refine ⟨_, rfl, set1 _ q0, set_other _ _ q1 (by show w.heap.size + 1 ≠ w.heap.size; omega), ((HWB.out.trans (hb1.mono HWB.out.size))).setCell (Nat.le_refl _) _, xs, ?_, ?_, Below.refl _ _, ?_⟩
    · rw [← HWS.out]
      exact ownsRow_setCell_below ho1 (by show w.heap.size < W.heap.size; rw [HWS.out]; omega) _
    · have hC : ∀ t i, i < w.heap.size → Cj P1 (w.heap.size + 1 + 1) 0 t i := fun t i hi => ⟨fun a e => by have := nP1 a e; rw [HWS.out] at this; omega, fun h => absurd h (by omega)⟩
      refine ⟨HX.out.1, fun j hj => ?_⟩
      obtain ⟨A1, n1, c1, B1, m1, d1, e1, e2, y1, y2⟩ := HX.out.2 j hj
      exact ⟨A1, n1, c1, B1, m1, d1, e1, e2, ((((byt_old y1).keep (below_all HWB.out)).keep (below_all hb1)).keep (agree_set _ _ _ (by show ¬ (w.heap.size < w.heap.size); omega))).mono (hC j), ((((byt_old y2).keep (below_all HWB.out)).keep (below_all hb1)).keep (agree_set _ _ _ (by show ¬ (w.heap.size < w.heap.size); omega))).mono (hC j)⟩
    · have := hb1.size
      rw [HWS.out] at this
      simpa [World.setCell] using this)
  have nP := Lib.hid nP1
  obtain ⟨g00, g01, g02, g03, g04, f00, f01, f02, f03, f04⟩ := five q0
  clear q0 q1 HX ho1 hb1 nP1 HB0 HB1
  go_wp2_with fail
  obtain ⟨W1, hW1, h10, h11, hBW1, hPI⟩ := HW1.out
  rw [← hW1]
  have G10 := Lib.hid h10
  have G11 := Lib.hid h11
  have BW1 := Lib.hid hBW1
  clear hW1 HW1 h10 h11 hBW1 g00 g01 g02 g03 g04 f00 f01 f02 f03 f04
  have HSM := Lib.hid HS.out.2.1
  have HL := Lib.hid (show x.pairs.length = n from HR.out.1.1)
  go_loopw [14] (fun i wr => ∃ j : Nat, j ≤ n ∧ i = .int .i64 j ∧ PairsInv W1 (w.heap.size + 1 + 1) P1 n pc x.pairs j wr) (fun i _ => n - (intOf i).toNat)
  case atStart => exact ⟨0, Nat.zero_le _, rfl, hPI⟩
  case round =>
    obtain ⟨j, hj, rfl, hI⟩ := hrel
    clear hPI
    by_cases hlt : j < n
    · have hj' : j < x.pairs.length := by rw [HL.out]; exact hlt
      have HI := Lib.hid hI
      obtain ⟨ys, hown, hr, hb, hNs⟩ := hI
      obtain ⟨g, rfl, hg1, hg2⟩ := own_at hown (by omega)
      obtain ⟨A1, n1, c1, B1, m1, d1, e1, e2, y1, y2⟩ := hr.2 j hj'
      have k0 : wr.cell? ⟨g, j * 2, none⟩ = some (.slice A1 n1 c1) := (hown.cellAt _ (by omega)).trans e1
      have k1 : wr.cell? ⟨g, j * 2 + 1, none⟩ = some (.slice B1 m1 d1) := (hown.cellAt _ (by omega)).trans e2
      have hsm := HSM.out _ (gt_mem hj')
      have hn1 : n1 ≤ 1000 := by rw [← y1.here.1]; exact hsm.1
      have hm1 : m1 ≤ 1000 := by rw [← y2.here.1]; exact hsm.2
      have qb := (hb.block w.heap.size (by omega)).trans G10.out
      obtain ⟨-, gb, -⟩ := five qb
      have hwr : w.heap.size < wr.heap.size := by omega
      have HO := Lib.hid hown
      have HB := Lib.hid hb
      have Y1 := Lib.hid y1.here
      have Y2 := Lib.hid y2.here
      clear hown hr hb y1 y2 e1 e2 hsm qb
      have HW := Lib.hid (show ∃ W, W = wr.alloc (.cells #[.slice A1 n1 c1, .slice B1 m1 d1] 27) ∧ Below wr.heap.size wr W ∧ W.cell? ⟨wr.heap.size, 0, none⟩ = some (.slice A1 n1 c1) ∧ W.cell? ⟨wr.heap.size, 1, none⟩ = some (.slice B1 m1 d1) ∧ W.heap.size = wr.heap.size + 1 from
        ⟨_, rfl, (Below.refl _ _).alloc (Nat.le_refl _) _, box_0 _ _ _ _, box_1 _ _ _ _, by simp⟩)
      go_wp2
      obtain ⟨W, hW, hWB, hW0, hW1, hWs⟩ := HW.out
      rw [← hW]
      have HS1 := Lib.hid hWs
      have HBW := Lib.hid hWB
      have K0 := Lib.hid k0
      have K1 := Lib.hid k1
      have GB := Lib.hid gb
      have hWb : W.cell? ⟨w.heap.size, 1, none⟩ = some (.slice (some ⟨g, 0, none⟩) n pc) := (hWB.cell (p := ⟨w.heap.size, 1, none⟩) hwr).trans gb
      have HCb := Lib.hid hWb
      clear hW HW hWB hWs k0 k1 gb
      have yw : Byt W A1 n1 (gt x.pairs j).1 := Y1.out.below HBW.out
      have D := Lib.hid (clone_any (w := W.drew) c1 (show Byt W.drew A1 n1 (gt x.pairs j).1 from yw) hn1)
      clear yw
      have HC0 := Lib.hid hW0
      have HC1 := Lib.hid hW1
      have z1 : ¬ (g = wr.heap.size) := by omega
      have z2 : ¬ (wr.heap.size = g) := by omega
      have z3 : ¬ (g = w.heap.size) := by omega
      have z4 : ¬ (w.heap.size = g) := by omega
      have z5 : ¬ (wr.heap.size = w.heap.size) := by omega
      have z6 : ¬ (w.heap.size = wr.heap.size) := by omega
      go_region_held3 (fun w' => w'.cell? ⟨wr.heap.size, 0, none⟩ = some (.slice A1 n1 c1) ∧ w'.cell? ⟨wr.heap.size, 1, none⟩ = some (.slice B1 m1 d1) ∧ w'.cell? ⟨w.heap.size, 1, none⟩ = some (.slice (some ⟨g, 0, none⟩) n pc)) (go_keep)
        (first
          | (go_at_call 71
             (with_reducible refine D.out.mono ?_)
             rintro e w3 ⟨A2, x2, rfl, p2, n2, hb3⟩
             have hb3 := undrew hb3
             have g0 := (hb3.cell (p := ⟨wr.heap.size, 0, none⟩) (by have := HS1.out; show wr.heap.size < W.heap.size; omega)).trans HC0.out
             have g1 := (hb3.cell (p := ⟨wr.heap.size, 1, none⟩) (by have := HS1.out; show wr.heap.size < W.heap.size; omega)).trans HC1.out
             have gb := (hb3.cell (p := ⟨w.heap.size, 1, none⟩) (by have := HS1.out; show w.heap.size < W.heap.size; omega)).trans HCb.out
             have HB3 := Lib.hid (HBW.out.trans (hb3.mono HBW.out.size))
             have HX2 := Lib.hid (And.intro p2 n2)
             have HL3 := Lib.hid (Nat.lt_of_lt_of_le (show wr.heap.size < W.heap.size by have := HS1.out; omega) hb3.size)
             have E := Lib.hid (clone_any d1 (Y2.out.below HB3.out) hm1)
             clear p2 n2 hb3)
          | (go_at_call 71
             (with_reducible refine E.out.mono ?_)
             rintro e w4 ⟨B2, x3, rfl, p3, n3, hb4⟩
             have g0 := (hb4.cell (p := ⟨wr.heap.size, 0, none⟩) HL3.out).trans g0
             have g1 := (hb4.cell (p := ⟨wr.heap.size, 1, none⟩) HL3.out).trans g1
             have gb := (hb4.cell (p := ⟨w.heap.size, 1, none⟩) (Nat.lt_trans hwr HL3.out)).trans gb
             have HB4 := Lib.hid (HB3.out.trans (hb4.mono HB3.out.size))
             have HX3 := Lib.hid (And.intro p3 (And.intro n3 hb4))
             have g4 := (HB4.out.cell (p := ⟨g, j * 2, none⟩) hg2).trans K0.out
             have g5 := (HB4.out.cell (p := ⟨g, j * 2 + 1, none⟩) hg2).trans K1.out
             have g2 := (own_keep HO.out HB4.out).frozenAt (j * 2)
             have g3 := (own_keep HO.out HB4.out).frozenAt (j * 2 + 1)
             clear p3 n3 hb4))
      have HT := Lib.hid (pairs_round (x2 := x2) (x3 := x3) HI.out hj' hg1 hg2 HB3.out HX2.out.1 (New.mono HX2.out.2 (show g + 1 ≤ W.heap.size by have := HS1.out; omega)) HX3.out.2.2 HX3.out.1 (New.mono HX3.out.2.1 (show g + 1 ≤ w3.heap.size by have := HL3.out; omega)))
      clear g0 g1 gb g2 g3 g4 g5 D E HB3 HB4 HX2 HX3 HL3 HC0 HC1 HCb HBW HS1 hW0 hW1 hWb z1 z2 z3 z4 z5 z6 K0 K1 GB HI
      go_wp2
      go_roundw
      case rel => exact ⟨j + 1, by omega, by go_num, HT.out⟩
      case measure => simp [intOf]; omega
    · obtain rfl : j = n := by omega
      obtain ⟨wo, rfl⟩ : ∃ wo : World, wo = wr := ⟨_, rfl⟩
      obtain ⟨ys, hown, hr, hb, hNs⟩ := hI
      have hBw : Below w.heap.size w wo := BW1.out.trans (hb.mono (by omega))
      have HP := Lib.hid (prs_on hown (hr.mono (C' := fun _ b => w.heap.size + 1 + 1 ≤ b) (fun t ht b hc => hc.2 (by have := HL.out; omega))) (fun a e => by have := nP.out a e; rw [HWS.out] at this; exact this)).now
      have q0 := (hb.block w.heap.size (by omega)).trans G10.out
      have q1 := (hb.block (w.heap.size + 1) (by omega)).trans G11.out
      have Q0 := Lib.hid q0
      have Q1 := Lib.hid q1
      have HBw := Lib.hid hBw
      obtain ⟨ks, lk, rk, ck⟩ := HR.out.2.1.cells
      simp only at lk rk ck
      have HC2 := clonek_any (w := wo) (c := d) (xs := ks) (by omega) hm (fun e => by have := HR.out.2.1.2.2.2.1 e; have := HR.out.2.1.2.1; simp only at *; omega) (fun a e j u hu => (hBw.cell (World.block_lt_of_cell? w _ (ck a e j u hu))).trans (ck a e j u hu)) (fun u hu => by
        obtain ⟨i, hi, rfl⟩ := List.getElem_of_mem hu
        obtain ⟨B', m', d', e1, _⟩ := rk i (by omega)
        rw [List.getElem?_eq_getElem hi] at e1
        injection e1 with e1
        rw [e1]
        rfl)
      have HKX := Lib.hid (And.intro lk rk)
      obtain ⟨g00, g01, g02, g03, g04, f00, f01, f02, f03, f04⟩ := five q0
      clear hown hr hb q0 q1 hBw lk rk ck HSM HL nP HWB HWS BW1 G10 G11
      go_wp2_with fail
      refine HC2.mono ?_
      rintro e w2 ⟨v2, rfl, ho2, hb2⟩
      clear HC2 g00 g01 g02 g03 g04 f00 f01 f02 f03 f04
      obtain ⟨P2, kc, rfl, nP2, -⟩ := own_new ho2
      have q0 := (hb2.block w.heap.size (by omega)).trans Q0.out
      have q1 := (hb2.block (w.heap.size + 1) (by omega)).trans Q1.out
      have HLK := Lib.hid (show x.keys.length = m from HR.out.2.1.1)
      have HW2 := Lib.hid (show ∃ W2, W2 = w2.setCell ⟨w.heap.size, 2, none⟩ (.slice P2 m kc) ∧ W2.heap[w.heap.size]? = some (.cells #[.bool x.leaf, .slice P1 j pc, .slice P2 m kc, .slice K k ee, .int .i64 x.next] 72 (0, 0)) ∧ W2.heap[w.heap.size + 1]? = some (.cells #[.bool false, .slice none 0 0, .slice none 0 0, .slice none 0 0, .int .i64 0] 72 (0, 0)) ∧
          Below w.heap.size w W2 ∧ On (fun b => w.heap.size + 1 + 1 ≤ b ∧ b < wo.heap.size) W2 (Prs · P1 j pc x.pairs) ∧ KeysInv W2 wo.heap.size P2 m kc x.keys 0 W2 from by
        refine ⟨_, rfl, set2 _ q0, set_other _ _ q1 (by show w.heap.size + 1 ≠ w.heap.size; omega), (HBw.out.trans (hb2.mono HBw.out.size)).setCell (Nat.le_refl _) _, (HP.out.keep (below_all hb2)).keep (agree_set _ _ _ (by show ¬ (w.heap.size + 1 + 1 ≤ w.heap.size ∧ w.heap.size < wo.heap.size); omega)), ks, ?_, ?_, Below.refl _ _, ?_⟩
        · exact ownsRow_setCell_below ho2 (by show w.heap.size < wo.heap.size; omega) _
        · have hC : ∀ t i, i < w.heap.size → Cj P2 wo.heap.size 0 t i := fun t i hi => ⟨fun a e => by have := nP2 a e; omega, fun h => absurd h (by omega)⟩
          refine ⟨by have := HKX.out.1; have := HLK.out; omega, fun j hj => ?_⟩
          obtain ⟨A1, n1, c1, e1, y1⟩ := HKX.out.2 j (by have := HLK.out; omega)
          exact ⟨A1, n1, c1, e1, ((((byt_old y1).keep (below_all HBw.out)).keep (below_all hb2)).keep (agree_set _ _ _ (by show ¬ (w.heap.size < w.heap.size); omega))).mono (hC j)⟩
        · have := hb2.size
          simpa [World.setCell] using this)
      have nP := Lib.hid nP2
      obtain ⟨g00, g01, g02, g03, g04, f00, f01, f02, f03, f04⟩ := five q0
      clear q0 q1 HKX ho2 hb2 nP2 Q0 Q1 HP HBw
      go_wp2_with fail
      obtain ⟨W2, hW2, h10, h11, hBW2, hP, hPI⟩ := HW2.out
      rw [← hW2]
      have G10 := Lib.hid h10
      have G11 := Lib.hid h11
      have BW2 := Lib.hid hBW2
      have HP := Lib.hid hP
      clear hW2 HW2 h10 h11 hBW2 hP g00 g01 g02 g03 g04 f00 f01 f02 f03 f04
      have HSM := Lib.hid HS.out.2.2.2.1
      have hwrs : w.heap.size + 1 + 1 ≤ wo.heap.size := hNs
      go_loopw [38] (fun i wq => ∃ t : Nat, t ≤ m ∧ i = .int .i64 t ∧ KeysInv W2 wo.heap.size P2 m kc x.keys t wq) (fun i _ => m - (intOf i).toNat)
      case atStart => exact ⟨0, Nat.zero_le _, rfl, hPI⟩
      case round =>
        obtain ⟨t, ht, rfl, hI⟩ := hrel
        clear hPI
        by_cases hlt : t < m
        · have hj' : t < x.keys.length := by rw [HLK.out]; exact hlt
          have HI := Lib.hid hI
          obtain ⟨ys, hown, hr, hb, hNs2⟩ := hI
          obtain ⟨g, rfl, hg1, hg2⟩ := own_at hown (by omega)
          obtain ⟨A1, n1, c1, e1, y1⟩ := hr.2 t hj'
          have k0 : wr.cell? ⟨g, t, none⟩ = some (.slice A1 n1 c1) := (hown.cellAt _ (by omega)).trans e1
          have hsm := HSM.out _ hj'
          have hn1 : n1 ≤ 1000 := by rw [← y1.here.1]; exact hsm
          have qb := (hb.block w.heap.size (by omega)).trans G10.out
          obtain ⟨-, -, gb, -⟩ := five qb
          have hwr : w.heap.size < wr.heap.size := by omega
          have HO := Lib.hid hown
          have HB := Lib.hid hb
          have Y1 := Lib.hid y1.here
          clear hown hr hb y1 e1 hsm qb
          go_wp2
          have K0 := Lib.hid k0
          have GB := Lib.hid gb
          have HCb := Lib.hid gb
          have D := Lib.hid (clone_any (w := wr.drew) c1 (show Byt wr.drew A1 n1 (kat x.keys t) from Y1.out) hn1)
          have z3 : ¬ (g = w.heap.size) := by omega
          have z4 : ¬ (w.heap.size = g) := by omega
          clear k0
          go_region_held3 (fun w' => w'.cell? ⟨w.heap.size, 2, none⟩ = some (.slice (some ⟨g, 0, none⟩) m kc)) (go_keep)
            ((go_at_call 71
              (with_reducible refine D.out.mono ?_)
              rintro e w3 ⟨A2, x2, rfl, p2, n2, hb3⟩
              have hb3 := undrew hb3
              have gb := (hb3.cell (p := ⟨w.heap.size, 2, none⟩) hwr).trans HCb.out
              have HB3 := Lib.hid hb3
              have HX2 := Lib.hid (And.intro p2 n2)
              have g4 := (hb3.cell (p := ⟨g, t, none⟩) hg2).trans K0.out
              have g2 := (own_keep HO.out hb3).frozenAt t
              clear p2 n2 hb3))
          have HT := Lib.hid (keys_round (x2 := x2) HI.out hj' hg1 hg2 HB3.out HX2.out.1 (New.mono HX2.out.2 (show g + 1 ≤ wr.heap.size by omega)))
          clear gb g2 g4 D HB3 HX2 HCb z3 z4 K0 GB HI
          go_wp2
          go_roundw
          case rel => exact ⟨t + 1, by omega, by go_num, HT.out⟩
          case measure => simp [intOf]; omega
        · obtain rfl : t = m := by omega
          obtain ⟨ys, hown, hr, hb, hNs2⟩ := hI
          have HYS := Lib.hid (show ∃ ys, wr.ownsRow (w.heap.size + 1 + 1) 25 1 (.slice P2 t kc) t ys ∧ KReads (fun _ b => w.heap.size + 1 + 1 ≤ b ∧ ∀ a, P2 = some a → a.block ≠ b) wr ys x.keys ∧ (∀ a, P2 = some a → a.block < wr.heap.size) from
            ⟨ys, hown.mono hwrs, hr.mono (fun t' ht b hc => ⟨Nat.le_trans hwrs (hc.2 (by have := HLK.out; omega)), hc.1⟩), fun a e => by subst e; exact (hown.lt a.block rfl).2⟩)
          have hBw : Below w.heap.size w wr := BW2.out.trans (hb.mono (by omega))
          have HP3 := Lib.hid ((HP.out.keep (below_agree hb (fun b hc _ => hc.2))).mono (C' := (w.heap.size + 1 + 1 ≤ ·)) (fun b hc => hc.1))
          have HK3 := Lib.hid (kys_on hown (hr.mono (C' := fun _ b => w.heap.size + 1 + 1 ≤ b) (fun t' ht b hc => Nat.le_trans hwrs (hc.2 (by have := HLK.out; omega)))) (fun a e => Nat.le_trans hwrs (nP.out a e)))
          have q0 := (hb.block w.heap.size (by omega)).trans G10.out
          have q1 := (hb.block (w.heap.size + 1) (by omega)).trans G11.out
          have Q0 := Lib.hid q0
          have Q1 := Lib.hid q1
          have HBw := Lib.hid hBw
          have HNS := Lib.hid (Nat.le_trans hwrs hNs2)
          obtain ⟨li, ci⟩ := HR.out.2.2.cells
          simp only at li ci
          have HC3 := clonei_any (w := wr) (c := ee) (xs := x.kids.map intV) (by omega) hk (fun e => by have := HR.out.2.2.2.2.2.1 e; have := HR.out.2.2.2.1; simp only at *; omega) (fun a e j u hu => (hBw.cell (World.block_lt_of_cell? w _ (ci a e j u hu))).trans (ci a e j u hu)) (fun u hu => by
            obtain ⟨z, _, rfl⟩ := List.mem_map.1 hu
            rfl)
          obtain ⟨g00, g01, g02, g03, g04, f00, f01, f02, f03, f04⟩ := five q0
          clear hown hr hb q0 q1 hBw li ci HSM HLK nP BW2 G10 G11 HP HS hNs hNs2
          go_wp2_with fail
          refine HC3.mono ?_
          rintro e w3 ⟨v3, rfl, ho3, hb3⟩
          clear HC3 g00 g01 g02 g03 g04 f00 f01 f02 f03 f04
          obtain ⟨P3, ic, rfl, nP3, -⟩ := own_new ho3
          have hNS := HNS.out
          have q0 := (hb3.block w.heap.size (by omega)).trans Q0.out
          have q1 := (hb3.block (w.heap.size + 1) (by omega)).trans Q1.out
          have HO3 := Lib.hid (On.imp (ins_on (C := (w.heap.size + 1 + 1 ≤ ·)) ho3 (fun a e => Nat.le_trans hNS (nP3 a e))) (fun _ h => h))
          have HOW := Lib.hid (ho3.mono hNS)
          have HYS3 := Lib.hid (show ∃ ys, w3.ownsRow (w.heap.size + 1 + 1) 25 1 (.slice P2 t kc) t ys ∧ KReads (fun _ b => w.heap.size + 1 + 1 ≤ b ∧ (∀ a, P2 = some a → a.block ≠ b) ∧ ∀ a, P3 = some a → a.block ≠ b) w3 ys x.keys ∧ ∀ a b, P2 = some a → P3 = some b → a.block ≠ b.block from by
            obtain ⟨ys, o1, o2, o3⟩ := HYS.out
            exact ⟨ys, own_keep o1 hb3, (o2.now.mono (fun _ _ b hb => ⟨hb.1.1, hb.1.2, fun a e => by have := nP3 a e; have := hb.2; omega⟩)).keep (fun _ => below_all hb3), fun a b e1 e2 => by have := o3 a e1; have := nP3 b e2; omega⟩)
          clear HYS
          have HP4 := Lib.hid (HP3.out.keep (below_all hb3))
          have HK4 := Lib.hid (HK3.out.keep (below_all hb3))
          have HB4 := Lib.hid (HBw.out.trans (hb3.mono HBw.out.size))
          obtain ⟨g00, g01, g02, g03, g04, f00, f01, f02, f03, f04⟩ := five q0
          obtain ⟨g10, g11, g12, g13, g14, f10, f11, f12, f13, f14⟩ := five q1
          clear q0 q1 ho3 hb3 nP3 Q0 Q1 HP3 HK3 HBw HNS
          go_wp2
          refine bodyPost_ret (v := .agg #[.bool x.leaf, .slice P1 j pc, .slice P2 t kc, .slice P3 k ic, .int .i64 x.next]) (by simp [results, Try.results63, go_sem, g10, g11, g12, g13, g14]) rfl ⟨⟨P1, j, pc, P2, t, kc, P3, k, ic⟩, rfl, ?_, ?_, ?_, ?_⟩
          · have hA := fun (u0 u1 u2 u3 u4 u5 : Value) => six_agree (C := (w.heap.size + 1 + 1 ≤ ·)) w3 (a := w.heap.size) (b := w.heap.size + 1) u0 u1 u2 u3 u4 u5 (by omega) (by omega)
            intro v hv
            have hv' := hv.mono (C' := (w.heap.size + 1 + 1 ≤ ·)) (fun b hb => by omega)
            exact ⟨HP4.out v ((hA _ _ _ _ _ _).trans hv'), HK4.out v ((hA _ _ _ _ _ _).trans hv'), HO3.out v ((hA _ _ _ _ _ _).trans hv')⟩
          · exact (((((HB4.out.setCell (Nat.le_refl _) _).setCell (Nat.le_succ _) _).setCell (Nat.le_succ _) _).setCell (Nat.le_succ _) _).setCell (Nat.le_succ _) _).setCell (Nat.le_succ _) _
          · have hlt : w.heap.size < w.heap.size + 1 + 1 := by omega
            have hlt1 : w.heap.size + 1 < w.heap.size + 1 + 1 := by omega
            exact ownsRow_setCell_below (ownsRow_setCell_below (ownsRow_setCell_below (ownsRow_setCell_below (ownsRow_setCell_below (ownsRow_setCell_below HOW.out hlt _) hlt1 _) hlt1 _) hlt1 _) hlt1 _) hlt1 _
          · have hlt : w.heap.size < w.heap.size + 1 + 1 := by omega
            have hlt1 : w.heap.size + 1 < w.heap.size + 1 + 1 := by omega
            obtain ⟨ys, o1, o2, o3⟩ := HYS3.out
            exact ⟨ys, ownsRow_setCell_below (ownsRow_setCell_below (ownsRow_setCell_below (ownsRow_setCell_below (ownsRow_setCell_below (ownsRow_setCell_below o1 hlt _) hlt1 _) hlt1 _) hlt1 _) hlt1 _) hlt1 _,
              o2.keep (fun _ => six_agree w3 (a := w.heap.size) (b := w.heap.size + 1) _ _ _ _ _ _ (by omega) (by omega)), o3⟩

theorem apart_any {w : World} {h : Nh} {x : Nd} (hr : NdR w h x) (hs : SmallN x) : Calls Try.prog 63 #[ndV h x] w (Apart w x) :=
  (apart_own hr hs).mono fun e w' ⟨h, h1, h2, h3, _⟩ => ⟨h, h1, h2, h3⟩
end Go.Proofs.Ytdkppgmhhijkgaa

namespace Go.Proofs.Ytdkppgmhhijkgaa
open Go.RowKit
set_option linter.unusedVariables false
set_option maxRecDepth 100000

/-- What stands at a number. -/
def lat (L : List (Option Nd)) (i : Nat) : Option Nd := L.getD i none
theorem lat_eq {L : List (Option Nd)} {i : Nat} (h : i < L.length) : lat L i = L[i] := by unfold lat; simp [h]
theorem lat_out {L : List (Option Nd)} {i : Nat} (h : L.length ≤ i) : lat L i = none := by unfold lat; simp [h]
theorem lat_set {L : List (Option Nd)} {i j : Nat} {o : Option Nd} (h : i < L.length) : lat (L.set i o) j = if j = i then o else lat L j := by
  unfold lat
  simp only [List.getD_eq_getElem?_getD]
  by_cases e : j = i
  · subst e
    rw [List.getElem?_set_self h, if_pos rfl]
    rfl
  · rw [List.getElem?_set_ne (fun h => e h.symm), if_neg e]
theorem lat_push {L : List (Option Nd)} {j : Nat} {o : Option Nd} : lat (L ++ [o]) j = if j = L.length then o else lat L j := by
  unfold lat
  simp only [List.getD_eq_getElem?_getD]
  by_cases e : j = L.length
  · subst e
    rw [List.getElem?_append_right (Nat.le_refl _), if_pos rfl]
    simp
  · rw [if_neg e]
    by_cases hl : j < L.length
    · rw [List.getElem?_append_left hl]
    · rw [List.getElem?_append_right (by omega)]
      have : j - L.length ≠ 0 := by omega
      rw [List.getElem?_eq_none (l := L) (by omega)]
      rcases hd : j - L.length with _ | q
      · omega
      · rfl

/-- The free numbers: each once; none of them has a node. -/
def FreeOk (L : List (Option Nd)) (F : List Nat) : Prop := F.Nodup ∧ ∀ i ∈ F, i < L.length ∧ lat L i = none

/-- What the place of a number holds. -/
def PlaceAt (C : Nat → Prop) (w : World) (xs : List Value) (i : Nat) : Option Nd → Prop
  | some x => ∃ h : Nh, xs[i * 6]? = some (.bool x.leaf) ∧ xs[i * 6 + 1]? = some (.slice h.A h.n h.c) ∧ xs[i * 6 + 2]? = some (.slice h.B h.m h.d) ∧ xs[i * 6 + 3]? = some (.slice h.K h.k h.e) ∧
      xs[i * 6 + 4]? = some (.int .i64 x.next) ∧ xs[i * 6 + 5]? = some (.bool true) ∧ SmallN x ∧ On C w (NdR · h x)
  | none => xs[i * 6 + 5]? = some (.bool false)
theorem PlaceAt.keep {C : Nat → Prop} {w w' : World} {xs : List Value} {i : Nat} {o : Option Nd} (h : PlaceAt C w xs i o) (ha : Agree C w w') : PlaceAt C w' xs i o := by
  cases o with
  | none => exact h
  | some x =>
    obtain ⟨h, e0, e1, e2, e3, e4, e5, hs, e6⟩ := h
    exact ⟨h, e0, e1, e2, e3, e4, e5, hs, e6.keep ha⟩
theorem PlaceAt.mono {C C' : Nat → Prop} {w : World} {xs : List Value} {i : Nat} {o : Option Nd} (h : PlaceAt C w xs i o) (hC : ∀ b, C b → C' b) : PlaceAt C' w xs i o := by
  cases o with
  | none => exact h
  | some x =>
    obtain ⟨h, e0, e1, e2, e3, e4, e5, hs, e6⟩ := h
    exact ⟨h, e0, e1, e2, e3, e4, e5, hs, e6.mono hC⟩
theorem PlaceAt.cells {C : Nat → Prop} {w : World} {xs ys : List Value} {i : Nat} {o : Option Nd} (h : PlaceAt C w xs i o) (he : ∀ r, r < 6 → ys[i * 6 + r]? = xs[i * 6 + r]?) : PlaceAt C w ys i o := by
  cases o with
  | none => exact (he 5 (by omega)).trans h
  | some x =>
    obtain ⟨h, e0, e1, e2, e3, e4, e5, e6⟩ := h
    exact ⟨h, (he 0 (by omega)).trans e0, (he 1 (by omega)).trans e1, (he 2 (by omega)).trans e2, (he 3 (by omega)).trans e3, (he 4 (by omega)).trans e4, (he 5 (by omega)).trans e5, e6⟩

abbrev natV (i : Nat) : Value := .int .i64 i

/-- Which blocks are whose: the arena's own cells, its places, its free numbers, its nodes (C), all of them (D). -/
structure Sep (w : World) (C D : Nat → Prop) (g : Nat) (P Q : Option Addr) : Prop where
  dg : D g
  cg : ¬ C g
  p : ∀ a, P = some a → D a.block ∧ ¬ C a.block ∧ a.block ≠ g
  q : ∀ a, Q = some a → D a.block ∧ ¬ C a.block ∧ a.block ≠ g
  pq : ∀ a b, P = some a → Q = some b → a.block ≠ b.block
  cd : ∀ b, C b → D b
  lt : ∀ b, D b → b < w.heap.size

/-- An arena at block g, within the blocks that D names: what stands at each number, and the free ones. -/
def ArW (w : World) (C D : Nat → Prop) (g : Nat) (L : List (Option Nd)) (F : List Nat) (P Q : Option Addr) (pc qc : Nat) (xs : List Value) : Prop :=
  w.heap[g]? = some (.cells #[.slice P L.length pc, .slice Q F.length qc] 109 (0, 0)) ∧
  w.ownsRow 0 113 6 (.slice P L.length pc) L.length xs ∧ w.ownsRow 0 3 1 (.slice Q F.length qc) F.length (F.map natV) ∧
  (∀ i, i < L.length → PlaceAt C w xs i (lat L i)) ∧ FreeOk L F ∧ Sep w C D g P Q
def Ar (w : World) (D : Nat → Prop) (g : Nat) (L : List (Option Nd)) (F : List Nat) : Prop := ∃ C P Q pc qc xs, ArW w C D g L F P Q pc qc xs

theorem Sep.keep {w w' : World} {C D : Nat → Prop} {g : Nat} {P Q : Option Addr} (h : Sep w C D g P Q) (hs : w.heap.size ≤ w'.heap.size) : Sep w' C D g P Q :=
  ⟨h.dg, h.cg, h.p, h.q, h.pq, h.cd, fun b hb => Nat.lt_of_lt_of_le (h.lt b hb) hs⟩
theorem ArW.keep {w w' : World} {C D : Nat → Prop} {g : Nat} {L : List (Option Nd)} {F : List Nat} {P Q : Option Addr} {pc qc : Nat} {xs : List Value} (h : ArW w C D g L F P Q pc qc xs) (ha : Agree D w w') : ArW w' C D g L F P Q pc qc xs := by
  obtain ⟨h1, h2, h3, h4, h5, h6⟩ := h
  refine ⟨by rw [ha.2 g h6.dg (h6.lt g h6.dg)]; exact h1, own_agree h2 ha fun k hk => ?_, own_agree h3 ha fun k hk => ?_, fun i hi => (h4 i hi).keep (ha.mono h6.cd), h5, h6.keep ha.1⟩
  · cases P with
    | none => cases hk
    | some a => injection hk with hk; subst hk; exact (h6.p a rfl).1
  · cases Q with
    | none => cases hk
    | some a => injection hk with hk; subst hk; exact (h6.q a rfl).1
theorem Ar.keep {w w' : World} {D : Nat → Prop} {g : Nat} {L : List (Option Nd)} {F : List Nat} (h : Ar w D g L F) (ha : Agree D w w') : Ar w' D g L F := by
  obtain ⟨C, P, Q, pc, qc, xs, h⟩ := h
  exact ⟨C, P, Q, pc, qc, xs, h.keep ha⟩
theorem Ar.lt {w : World} {D : Nat → Prop} {g : Nat} {L : List (Option Nd)} {F : List Nat} (h : Ar w D g L F) : ∀ b, D b → b < w.heap.size := by
  obtain ⟨C, P, Q, pc, qc, xs, h⟩ := h
  exact h.2.2.2.2.2.lt
theorem Ar.free {w : World} {D : Nat → Prop} {g : Nat} {L : List (Option Nd)} {F : List Nat} (h : Ar w D g L F) : FreeOk L F := by
  obtain ⟨C, P, Q, pc, qc, xs, h⟩ := h
  exact h.2.2.2.2.1

/-- Outside the blocks that D names nothing has turned. -/
structure Only (D : Nat → Prop) (w w' : World) : Prop where
  os : w'.os = w.os
  tape : w'.tape = w.tape
  output : w'.output = w.output
  size : w.heap.size ≤ w'.heap.size
  block : ∀ k, k < w.heap.size → ¬ D k → w'.heap[k]? = w.heap[k]?
theorem Only.refl (D : Nat → Prop) (w : World) : Only D w w := ⟨rfl, rfl, rfl, Nat.le_refl _, fun _ _ _ => rfl⟩
theorem Only.agree {D E : Nat → Prop} {w w' : World} (h : Only D w w') (hE : ∀ b, E b → ¬ D b) : Agree E w w' := ⟨h.size, fun b hb hl => h.block b hl (hE b hb)⟩
theorem Only.below {D : Nat → Prop} {w w' : World} {B : Nat} (h : Only D w w') (hD : ∀ b, D b → B ≤ b) (hB : B ≤ w.heap.size) : Below B w w' :=
  ⟨h.os, h.tape, h.output, h.size, fun k hk => h.block k (by omega) (fun hd => by have := hD k hd; omega)⟩
theorem below_only {D : Nat → Prop} {w w' : World} (h : Below w.heap.size w w') : Only D w w' := ⟨h.os, h.tape, h.output, h.size, fun k hk _ => h.block k hk⟩
theorem Only.trans {D : Nat → Prop} {a b c : World} (h : Only D a b) (k : Only D b c) : Only D a c :=
  ⟨k.os.trans h.os, k.tape.trans h.tape, k.output.trans h.output, Nat.le_trans h.size k.size, fun i hi hd => (k.block i (Nat.lt_of_lt_of_le hi h.size) hd).trans (h.block i hi hd)⟩
theorem Only.set {D : Nat → Prop} {a w : World} (h : Only D a w) (p : Addr) (u : Value) (hp : a.heap.size ≤ p.block ∨ D p.block) : Only D a (w.setCell p u) :=
  ⟨h.os, h.tape, h.output, by simpa [World.setCell] using h.size, fun k hk hd => by
    rw [Below.heap_setCell _ _ _ _ (fun e => by subst e; rcases hp with hp | hp; · omega
                                                · exact hd hp)]
    exact h.block k hk hd⟩
theorem Only.alloc {D : Nat → Prop} {a w : World} (h : Only D a w) (o : Obj) : Only D a (w.alloc o) :=
  ⟨h.os, h.tape, h.output, Nat.le_trans h.size (by simp), fun k hk hd => (Below.heap_alloc _ _ _ (Nat.lt_of_lt_of_le hk h.size)).trans (h.block k hk hd)⟩
theorem Only.grown {D : Nat → Prop} {a w w' : World} {row : Option Nat} (h : Only D a w) (hg : w.grownBy w' row) (hr : ∀ k, row = some k → a.heap.size ≤ k ∨ D k) : Only D a w' :=
  ⟨hg.os.trans h.os, hg.tape.trans h.tape, hg.output.trans h.output, Nat.le_trans h.size hg.size, fun k hk hd => (hg.block k (Nat.lt_of_lt_of_le hk h.size) (fun e => by
    rcases hr k e.symm with hr | hr
    · omega
    · exact hd hr)).trans (h.block k hk hd)⟩

/-- What is left of an arena by what turns it: its blocks are those that it had, or new ones; nothing else has turned. -/
def Turn (w : World) (D : Nat → Prop) (g : Nat) (L : List (Option Nd)) (F : List Nat) (w' : World) : Prop :=
  ∃ D', Ar w' D' g L F ∧ (∀ b, D' b → D b ∨ w.heap.size ≤ b) ∧ Only D w w'

theorem pair_cells {w : World} {b : Nat} {T : TypeId} {a0 a1 : Value} (h : w.heap[b]? = some (.cells #[a0, a1] T (0, 0))) :
    w.cell? ⟨b, 0, none⟩ = some a0 ∧ w.cell? ⟨b, 1, none⟩ = some a1 ∧ w.frozen? ⟨b, 0, none⟩ = false ∧ w.frozen? ⟨b, 1, none⟩ = false := by
  simp [World.cell?, World.frozen?, h]

set_option maxHeartbeats 400000 in
theorem new_any (w : World) : Calls Try.prog 44 #[] w fun e w' => e = .returned (.pointer (some ⟨w.heap.size, 0, none⟩)) ∧ Ar w' (· = w.heap.size) w.heap.size [] [] ∧ w'.heap.size = w.heap.size + 1 ∧ Below w.heap.size w w' := by
  go_enter Try.func44, Try.ntmps44
  go_wp2
  go_ret
  refine ⟨rfl, ⟨fun _ => False, none, none, 0, 0, [], heap_alloc_new w _, World.ownsRow_nil _ _ _ _, World.ownsRow_nil _ _ _ _, fun i hi => absurd hi (by simp), ⟨List.nodup_nil, (fun i hi => by cases hi)⟩, ⟨rfl, id, (fun a e => by cases e), (fun a e => by cases e), (fun a b e => by cases e), (fun b hb => False.elim hb), (fun b hb => by rw [hb]; simp)⟩⟩, by simp, (Below.refl _ _).alloc (Nat.le_refl _) _⟩

/-- Is there a node of that number? -/
def usedB (L : List (Option Nd)) (i : Int) : Bool := decide (0 ≤ i) && (lat L i.toNat).isSome

set_option maxHeartbeats 1000000 in
theorem uses_any {w : World} {C D : Nat → Prop} {g : Nat} {L : List (Option Nd)} {F : List Nat} {P Q : Option Addr} {pc qc : Nat} {xs : List Value} (h : ArW w C D g L F P Q pc qc xs) (i : Int) (hi : i ≤ 9223372036854775807) :
    Calls Try.prog 62 #[.pointer (some ⟨g, 0, none⟩), .int .i64 i] w fun e w' => e = .returned (.bool (usedB L i)) ∧ w = w' := by
  obtain ⟨h1, h2, h3, h4, h5, h6⟩ := h
  have hN : L.length ≤ maxLen := Nat.le_trans (own_caps h2).1 (own_caps h2).2.1
  unfold maxLen at hN
  obtain ⟨c0, -, -, -⟩ := pair_cells h1
  by_cases h0 : 0 ≤ i
  · obtain ⟨k, rfl⟩ := Int.eq_ofNat_of_zero_le h0
    have hu : usedB L (k : Int) = (lat L k).isSome := by unfold usedB; simp
    by_cases hk : k < L.length
    · obtain ⟨p, rfl, -, -⟩ := own_at h2 (by omega)
      have hc : w.cell? ⟨p, k * 6 + 5, none⟩ = some (.bool (lat L k).isSome) := by
        rw [h2.cellAt _ (by omega)]
        have := h4 k hk
        cases hl : lat L k with
        | none => rw [hl] at this; exact this
        | some x => rw [hl] at this; obtain ⟨_, _, _, _, _, _, e5, _⟩ := this; exact e5
      rw [hu]
      generalize (lat L k).isSome = b at hc
      generalize hn : L.length = n at c0 hk hN
      clear h1 h2 h3 h4 h5 h6 hu h0 hn
      go_enter Try.func62, Try.ntmps62
      go_wp2
      go_ret
      exact ⟨rfl, rfl⟩
    · rw [hu, lat_out (by omega)]
      generalize hn : L.length = n at c0 hk hN
      clear h1 h2 h3 h4 h5 h6 hu h0 hn
      have hk' : decide ((k : Int) < n) = false := by simp; omega
      go_enter Try.func62, Try.ntmps62
      go_wp2
      go_ret
      exact ⟨rfl, rfl⟩
  · have hu : usedB L i = false := by unfold usedB; simp; omega
    rw [hu]
    have h0' : decide (0 ≤ i) = false := by simp; omega
    clear h1 h2 h3 h4 h5 h6 hu
    go_enter Try.func62, Try.ntmps62
    go_wp2
    go_ret
    exact ⟨rfl, rfl⟩

set_option maxHeartbeats 1000000 in
theorem used_any {w : World} {D : Nat → Prop} {g : Nat} {L : List (Option Nd)} {F : List Nat} (h : Ar w D g L F) :
    Calls Try.prog 38 #[.pointer (some ⟨g, 0, none⟩)] w fun e w' => e = .returned (.int .i64 (L.length - F.length)) ∧ Drawn w w' := by
  obtain ⟨C, P, Q, pc, qc, xs, h1, h2, h3, h4, h5, h6⟩ := h
  have hN : L.length ≤ maxLen := Nat.le_trans (own_caps h2).1 (own_caps h2).2.1
  have hM : F.length ≤ maxLen := Nat.le_trans (own_caps h3).1 (own_caps h3).2.1
  unfold maxLen at hN hM
  obtain ⟨c0, c1, -, -⟩ := pair_cells h1
  generalize hn : L.length = n at *
  generalize hm : F.length = m at *
  clear h1 h2 h3 h4 h5 h6 hn hm
  go_enter Try.func38, Try.ntmps38
  go_wp2
  go_quiet (fail)
  go_wp2
  go_ret
  exact ⟨ret_int (by first | rfl | (rw [IntWalk.i64_in _ (by omega)])), ⟨_, rfl⟩⟩

set_option maxHeartbeats 1000000 in
theorem len_any {w : World} {D : Nat → Prop} {g : Nat} {L : List (Option Nd)} {F : List Nat} (h : Ar w D g L F) :
    Calls Try.prog 40 #[.pointer (some ⟨g, 0, none⟩)] w fun e w' => e = .returned (.int .i64 L.length) ∧ w = w' := by
  obtain ⟨C, P, Q, pc, qc, xs, h1, h2, h3, h4, h5, h6⟩ := h
  obtain ⟨c0, c1, -, -⟩ := pair_cells h1
  generalize hn : L.length = n at *
  clear h1 h2 h3 h4 h5 h6 hn
  go_enter Try.func40, Try.ntmps40
  go_wp2
  go_ret
  exact ⟨rfl, rfl⟩
end Go.Proofs.Ytdkppgmhhijkgaa

namespace Go.Proofs.Ytdkppgmhhijkgaa
open Go.RowKit
set_option linter.unusedVariables false
set_option maxRecDepth 100000

/-- What Get tells. -/
def gotNd (L : List (Option Nd)) (i : Int) : Nd := if usedB L i then (lat L i.toNat).getD nd0 else nd0
def Got (w : World) (L : List (Option Nd)) (i : Int) (e : Ending) (w' : World) : Prop :=
  ∃ h, e = .returned (.tuple #[ndV h (gotNd L i), .bool (usedB L i)]) ∧ On (w.heap.size ≤ ·) w' (NdR · h (gotNd L i)) ∧ Below w.heap.size w w'

/-- The same, and the kids are a row of one's own. -/
def GotO (w : World) (L : List (Option Nd)) (i : Int) (e : Ending) (w' : World) : Prop :=
  ∃ h, e = .returned (.tuple #[ndV h (gotNd L i), .bool (usedB L i)]) ∧ On (w.heap.size ≤ ·) w' (NdR · h (gotNd L i)) ∧ Below w.heap.size w w' ∧ w'.ownsRow (w.heap.size + 1) 3 1 (.slice h.K h.k h.e) h.k ((gotNd L i).kids.map intV) ∧ KeysOwn (w.heap.size + 1) w' h (gotNd L i)
theorem alloc_sz (w : World) (o : Obj) : (w.alloc o).heap.size = w.heap.size + 1 := by simp
theorem five_agree {C : Nat → Prop} (w : World) {b : Nat} (o : Nat) (u1 u2 u3 u4 u5 : Value) (hb : ¬ C b) :
    Agree C w (((((w.setCell ⟨b, o, none⟩ u1).setCell ⟨b, o + 1, none⟩ u2).setCell ⟨b, o + 2, none⟩ u3).setCell ⟨b, o + 3, none⟩ u4).setCell ⟨b, o + 4, none⟩ u5) :=
  ((((agree_set w ⟨b, o, none⟩ u1 hb).trans (agree_set _ ⟨b, o + 1, none⟩ u2 hb)).trans (agree_set _ ⟨b, o + 2, none⟩ u3 hb)).trans (agree_set _ ⟨b, o + 3, none⟩ u4 hb)).trans (agree_set _ ⟨b, o + 4, none⟩ u5 hb)

theorem five_below {B b : Nat} {a w : World} (h : Below B a w) (hb : B ≤ b) (o : Nat) (u1 u2 u3 u4 u5 : Value) :
    Below B a (((((w.setCell ⟨b, o, none⟩ u1).setCell ⟨b, o + 1, none⟩ u2).setCell ⟨b, o + 2, none⟩ u3).setCell ⟨b, o + 3, none⟩ u4).setCell ⟨b, o + 4, none⟩ u5) :=
  ((((h.setCell hb _).setCell hb _).setCell hb _).setCell hb _).setCell hb _

set_option maxRecDepth 100000 in
set_option maxHeartbeats 2000000 in
theorem get_no {w : World} {D : Nat → Prop} {g : Nat} {L : List (Option Nd)} {F : List Nat} (h : Ar w D g L F) (i : Int) (hi : i ≤ 9223372036854775807) (hu : usedB L i = false) :
    Calls Try.prog 41 #[.pointer (some ⟨g, 0, none⟩), .int .i64 i] w (GotO w L i) := by
  obtain ⟨C, P, Q, pc, qc, xs, h⟩ := h
  have HU := uses_any (h.keep (agree_alloc w (.cells #[.bool false, .slice none 0 0, .slice none 0 0, .slice none 0 0, .int .i64 0] 72))) i hi
  rw [hu] at HU
  have HG := Lib.hid (show gotNd L i = nd0 from by unfold gotNd; rw [hu]; rfl)
  have HUU := Lib.hid hu
  clear h hu
  go_enter Try.func41, Try.ntmps41
  go_wp2_with fail
  refine HU.mono ?_
  rintro e w1 ⟨rfl, rfl⟩
  clear HU
  go_wp2
  refine bodyPost_ret (v := .tuple #[ndV nh0 nd0, .bool false]) (by simp [results, Try.results41, go_sem, nh0, nd0]) rfl ⟨nh0, ?_, ?_, ?_, ?_, ?_⟩
  · rw [HG.out, HUU.out]
  · rw [HG.out]
    exact nd0_on _ _
  · exact (Below.refl _ w).alloc (Nat.le_refl _) _
  · rw [HG.out]
    exact World.ownsRow_nil _ _ _ _
  · rw [HG.out]
    exact ⟨[], World.ownsRow_nil _ _ _ _, ⟨rfl, fun j hj => by cases hj⟩, fun a b e => by cases e⟩

theorem ArW.six {w : World} {C D : Nat → Prop} {g : Nat} {L : List (Option Nd)} {F : List Nat} {P Q : Option Addr} {pc qc : Nat} {xs : List Value} (h : ArW w C D g L F P Q pc qc xs) {k : Nat} {x : Nd} (hk : k < L.length) (hx : lat L k = some x) :
    ∃ p h, P = some ⟨p, 0, none⟩ ∧ D p ∧ p ≠ g ∧ ¬ C p ∧ SmallN x ∧ On C w (NdR · h x) ∧ w.cell? ⟨p, k * 6, none⟩ = some (.bool x.leaf) ∧ w.cell? ⟨p, k * 6 + 1, none⟩ = some (.slice h.A h.n h.c) ∧ w.cell? ⟨p, k * 6 + 2, none⟩ = some (.slice h.B h.m h.d) ∧
      w.cell? ⟨p, k * 6 + 3, none⟩ = some (.slice h.K h.k h.e) ∧ w.cell? ⟨p, k * 6 + 4, none⟩ = some (.int .i64 x.next) ∧ w.cell? ⟨p, k * 6 + 5, none⟩ = some (.bool true) ∧ ∀ o, w.frozen? ⟨p, o, none⟩ = false := by
  obtain ⟨h1, h2, h3, h4, h5, h6⟩ := h
  obtain ⟨p, rfl, -, -⟩ := own_at h2 (by omega)
  have hp := h6.p _ rfl
  have := h4 k hk
  rw [hx] at this
  obtain ⟨h, e0, e1, e2, e3, e4, e5, hs, e6⟩ := this
  exact ⟨p, h, rfl, hp.1, hp.2.2, hp.2.1, hs, e6, (h2.cellAt _ (by omega)).trans e0, (h2.cellAt _ (by omega)).trans e1, (h2.cellAt _ (by omega)).trans e2, (h2.cellAt _ (by omega)).trans e3, (h2.cellAt _ (by omega)).trans e4, (h2.cellAt _ (by omega)).trans e5, fun o => h2.frozenAt o⟩

set_option maxRecDepth 100000 in
set_option maxHeartbeats 2000000 in
theorem get_yes {w : World} {D : Nat → Prop} {g : Nat} {L : List (Option Nd)} {F : List Nat} (h : Ar w D g L F) (k : Nat) {x : Nd} (hx : lat L k = some x) :
    Calls Try.prog 41 #[.pointer (some ⟨g, 0, none⟩), .int .i64 k] w (GotO w L k) := by
  obtain ⟨C, P, Q, pc, qc, xs, h⟩ := h
  have hk : k < L.length := by
    rcases Nat.lt_or_ge k L.length with hk | hk
    · exact hk
    · rw [lat_out hk] at hx; cases hx
  have hN : L.length ≤ maxLen := Nat.le_trans (own_caps h.2.1).1 (own_caps h.2.1).2.1
  unfold maxLen at hN
  have hu : usedB L (k : Int) = true := by unfold usedB; simp [hx]
  have hg : gotNd L (k : Int) = x := by unfold gotNd; rw [hu]; simp [hx]
  have h' := h.keep (agree_alloc w (.cells #[.bool false, .slice none 0 0, .slice none 0 0, .slice none 0 0, .int .i64 0] 72))
  have HU := uses_any h' k (by omega)
  rw [hu] at HU
  obtain ⟨c0, -, -, -⟩ := pair_cells h'.1
  obtain ⟨p, hh, rfl, hDp, hpg, hCp, hs, hon, g0, g1, g2, g3, g4, -, -⟩ := h'.six hk hx
  have HA := Lib.hid (apart_own hon.here hs)
  have HGU := Lib.hid (And.intro hg hu)
  have HZ := Lib.hid (heap_alloc_new w (.cells #[.bool false, .slice none 0 0, .slice none 0 0, .slice none 0 0, .int .i64 0] 72))
  generalize hn : L.length = n at *
  clear h h' hx hu hg hDp hpg hCp hs hon hn
  go_enter Try.func41, Try.ntmps41
  go_wp2_with fail
  refine HU.mono ?_
  rintro e w1 ⟨rfl, rfl⟩
  clear HU
  go_wp2_with fail
  refine HA.out.mono ?_
  rintro e w2 ⟨h2, rfl, hon, hb, hown, hks⟩
  clear HA
  have HOWN := Lib.hid hown
  have HKS := Lib.hid hks
  clear hown hks
  have q := (hb.block w.heap.size (by simp)).trans HZ.out
  have HON := Lib.hid hon
  have HB := Lib.hid hb
  obtain ⟨t0, t1, t2, t3, t4, f0, f1, f2, f3, f4⟩ := five q
  clear q HZ hon hb g0 g1 g2 g3 g4 c0
  go_wp2
  refine bodyPost_ret (v := .tuple #[ndV h2 x, .bool true]) (by simp [results, Try.results41, go_sem, t0, t1, t2, t3, t4]) rfl ⟨h2, ?_, ?_, ?_, ?_, ?_⟩
  · rw [HGU.out.1, HGU.out.2]
  · rw [HGU.out.1]
    refine (HON.out.keep (five_agree (C := ((w.alloc _).heap.size ≤ ·)) w2 (b := w.heap.size) 0 _ _ _ _ _ (by simp))).mono (fun b hb => ?_)
    simp at hb
    omega
  · exact five_below (((Below.refl _ w).alloc (Nat.le_refl _) _).trans (HB.out.mono (by simp))) (b := w.heap.size) (Nat.le_refl _) 0 _ _ _ _ _
  · rw [HGU.out.1]
    have hlt : w.heap.size < w.heap.size + 1 := by omega
    have ho : w2.ownsRow (w.heap.size + 1) 3 1 (.slice h2.K h2.k h2.e) h2.k (x.kids.map intV) := HOWN.out.mono (by rw [alloc_sz]; omega)
    exact ownsRow_setCell_below (ownsRow_setCell_below (ownsRow_setCell_below (ownsRow_setCell_below (ownsRow_setCell_below ho hlt _) hlt _) hlt _) hlt _) hlt _
  · rw [HGU.out.1]
    have hlt : w.heap.size < w.heap.size + 1 := by omega
    obtain ⟨ys, o1, o2, o3⟩ := HKS.out
    refine ⟨ys, ownsRow_setCell_below (ownsRow_setCell_below (ownsRow_setCell_below (ownsRow_setCell_below (ownsRow_setCell_below (o1.mono (by rw [alloc_sz]; omega)) hlt _) hlt _) hlt _) hlt _) hlt _, ?_, o3⟩
    exact (o2.keep (fun _ => five_agree w2 (b := w.heap.size) 0 _ _ _ _ _ (by rw [alloc_sz]; exact fun hc => by omega))).mono (fun _ _ b hb => ⟨by have := hb.1; rw [alloc_sz] at this; omega, hb.2⟩)

theorem get_own {w : World} {D : Nat → Prop} {g : Nat} {L : List (Option Nd)} {F : List Nat} (h : Ar w D g L F) (i : Int) (hi : i ≤ 9223372036854775807) :
    Calls Try.prog 41 #[.pointer (some ⟨g, 0, none⟩), .int .i64 i] w (GotO w L i) := by
  cases hu : usedB L i
  · exact get_no h i hi hu
  · unfold usedB at hu
    simp at hu
    obtain ⟨k, rfl⟩ := Int.eq_ofNat_of_zero_le hu.1
    obtain ⟨x, hx⟩ := Option.isSome_iff_exists.1 hu.2
    exact get_yes h k (by simpa using hx)

theorem get_any {w : World} {D : Nat → Prop} {g : Nat} {L : List (Option Nd)} {F : List Nat} (h : Ar w D g L F) (i : Int) (hi : i ≤ 9223372036854775807) :
    Calls Try.prog 41 #[.pointer (some ⟨g, 0, none⟩), .int .i64 i] w (Got w L i) :=
  (get_own h i hi).mono fun e w' ⟨h, h1, h2, h3, _⟩ => ⟨h, h1, h2, h3⟩
end Go.Proofs.Ytdkppgmhhijkgaa

namespace Go.Proofs.Ytdkppgmhhijkgaa
open Go.RowKit
set_option linter.unusedVariables false
set_option maxRecDepth 100000

/-- What D names, and all that is new. -/
def grow (D : Nat → Prop) (w w' : World) (b : Nat) : Prop := D b ∨ (w.heap.size ≤ b ∧ b < w'.heap.size)
theorem Sep.grow {w w' : World} {C D : Nat → Prop} {g : Nat} {P Q : Option Addr} (h : Sep w C D g P Q) (hs : w.heap.size ≤ w'.heap.size) : Sep w' (grow C w w') (grow D w w') g P Q := by
  refine ⟨.inl h.dg, ?_, fun a e => ⟨.inl (h.p a e).1, ?_, (h.p a e).2.2⟩, fun a e => ⟨.inl (h.q a e).1, ?_, (h.q a e).2.2⟩, h.pq, fun b hb => hb.imp (h.cd b) id, fun b hb => ?_⟩
  · rintro (hc | hc)
    · exact h.cg hc
    · have := h.lt g h.dg; omega
  · rintro (hc | hc)
    · exact (h.p a e).2.1 hc
    · have := h.lt _ (h.p a e).1; omega
  · rintro (hc | hc)
    · exact (h.q a e).2.1 hc
    · have := h.lt _ (h.q a e).1; omega
  · rcases hb with hb | hb
    · exact Nat.lt_of_lt_of_le (h.lt b hb) hs
    · exact hb.2

/-- An arena where something else was put at one number. -/
theorem ArW.put {w w' : World} {C D : Nat → Prop} {g : Nat} {L : List (Option Nd)} {F : List Nat} {P Q : Option Addr} {pc qc : Nat} {xs ys : List Value} (h : ArW w C D g L F P Q pc qc xs) {k : Nat} {o : Option Nd} (hk : k < L.length) (hF : k ∉ F)
    (hs : w.heap.size ≤ w'.heap.size) (hg : w'.heap[g]? = w.heap[g]?) (hown : w'.ownsRow 0 113 6 (.slice P L.length pc) L.length ys) (hQ : ∀ a, Q = some a → w'.heap[a.block]? = w.heap[a.block]?)
    (hys : ∀ i r, i ≠ k → r < 6 → ys[i * 6 + r]? = xs[i * 6 + r]?) (hC : Agree C w w') (hn : PlaceAt (grow C w w') w' ys k o) : ArW w' (grow C w w') (grow D w w') g (L.set k o) F P Q pc qc ys := by
  obtain ⟨h1, h2, h3, h4, h5, h6⟩ := h
  refine ⟨by rw [hg, List.length_set]; exact h1, by rw [List.length_set]; exact hown, ?_, fun i hi => ?_, ⟨h5.1, fun i hi => ?_⟩, h6.grow hs⟩
  · refine own_agree (C := fun b => ∃ a, Q = some a ∧ a.block = b) h3 ⟨hs, fun b hb hl => ?_⟩ (fun k hk => ?_)
    · obtain ⟨a, e1, rfl⟩ := hb
      exact hQ a e1
    · cases Q with
      | none => cases hk
      | some a => injection hk with hk; exact ⟨a, rfl, hk⟩
  · rw [List.length_set] at hi
    rw [lat_set hk]
    by_cases e : i = k
    · rw [if_pos e, e]
      exact hn
    · rw [if_neg e]
      exact ((h4 i hi).keep hC |>.mono (fun b hb => .inl hb)).cells (fun r hr => hys i r e hr)
  · have := h5.2 i hi
    rw [List.length_set, lat_set hk, if_neg (fun e : i = k => hF (by rw [← e]; exact hi))]
    exact this

theorem set5_other {xs : List Value} {k i r : Nat} (u0 u1 u2 u3 u4 : Value) (h : i ≠ k) (hr : r < 6) :
    (((((xs.set (k * 6) u0).set (k * 6 + 1) u1).set (k * 6 + 2) u2).set (k * 6 + 3) u3).set (k * 6 + 4) u4)[i * 6 + r]? = xs[i * 6 + r]? := by
  rw [List.getElem?_set_ne (by omega), List.getElem?_set_ne (by omega), List.getElem?_set_ne (by omega), List.getElem?_set_ne (by omega), List.getElem?_set_ne (by omega)]
theorem set5_at {xs : List Value} {k : Nat} (u0 u1 u2 u3 u4 : Value) (h : k * 6 + 5 < xs.length) :
    let ys := (((((xs.set (k * 6) u0).set (k * 6 + 1) u1).set (k * 6 + 2) u2).set (k * 6 + 3) u3).set (k * 6 + 4) u4)
    ys[k * 6]? = some u0 ∧ ys[k * 6 + 1]? = some u1 ∧ ys[k * 6 + 2]? = some u2 ∧ ys[k * 6 + 3]? = some u3 ∧ ys[k * 6 + 4]? = some u4 ∧ ys[k * 6 + 5]? = xs[k * 6 + 5]? ∧ ys.length = xs.length := by
  refine ⟨?_, ?_, ?_, ?_, ?_, ?_, by simp⟩
  · rw [List.getElem?_set_ne (by omega), List.getElem?_set_ne (by omega), List.getElem?_set_ne (by omega), List.getElem?_set_ne (by omega), List.getElem?_set_self (by omega)]
  · rw [List.getElem?_set_ne (by omega), List.getElem?_set_ne (by omega), List.getElem?_set_ne (by omega), List.getElem?_set_self (by simp; omega)]
  · rw [List.getElem?_set_ne (by omega), List.getElem?_set_ne (by omega), List.getElem?_set_self (by simp; omega)]
  · rw [List.getElem?_set_ne (by omega), List.getElem?_set_self (by simp; omega)]
  · rw [List.getElem?_set_self (by simp; omega)]
  · rw [List.getElem?_set_ne (by omega), List.getElem?_set_ne (by omega), List.getElem?_set_ne (by omega), List.getElem?_set_ne (by omega), List.getElem?_set_ne (by omega)]

theorem five_only {D : Nat → Prop} {b : Nat} {a w : World} (h : Only D a w) (hb : a.heap.size ≤ b ∨ D b) (o : Nat) (u1 u2 u3 u4 u5 : Value) :
    Only D a (((((w.setCell ⟨b, o, none⟩ u1).setCell ⟨b, o + 1, none⟩ u2).setCell ⟨b, o + 2, none⟩ u3).setCell ⟨b, o + 3, none⟩ u4).setCell ⟨b, o + 4, none⟩ u5) :=
  ((((h.set ⟨b, o, none⟩ u1 hb).set ⟨b, o + 1, none⟩ u2 hb).set ⟨b, o + 2, none⟩ u3 hb).set ⟨b, o + 3, none⟩ u4 hb).set ⟨b, o + 4, none⟩ u5 hb
theorem five_other {b g : Nat} {w : World} (hb : g ≠ b) (o : Nat) (u1 u2 u3 u4 u5 : Value) :
    (((((w.setCell ⟨b, o, none⟩ u1).setCell ⟨b, o + 1, none⟩ u2).setCell ⟨b, o + 2, none⟩ u3).setCell ⟨b, o + 3, none⟩ u4).setCell ⟨b, o + 4, none⟩ u5).heap[g]? = w.heap[g]? := by
  rw [Below.heap_setCell _ _ _ _ hb, Below.heap_setCell _ _ _ _ hb, Below.heap_setCell _ _ _ _ hb, Below.heap_setCell _ _ _ _ hb, Below.heap_setCell _ _ _ _ hb]
theorem five_size {b : Nat} {w : World} (o : Nat) (u1 u2 u3 u4 u5 : Value) :
    (((((w.setCell ⟨b, o, none⟩ u1).setCell ⟨b, o + 1, none⟩ u2).setCell ⟨b, o + 2, none⟩ u3).setCell ⟨b, o + 3, none⟩ u4).setCell ⟨b, o + 4, none⟩ u5).heap.size = w.heap.size := by
  simp [World.setCell]
theorem five_own {b n cap k s base : Nat} {e : TypeId} {w : World} {xs : List Value} (h : w.ownsRow base e s (.slice (some ⟨b, 0, none⟩) n cap) n xs) (u1 u2 u3 u4 u5 : Value) :
    (((((w.setCell ⟨b, k, none⟩ u1).setCell ⟨b, k + 1, none⟩ u2).setCell ⟨b, k + 2, none⟩ u3).setCell ⟨b, k + 3, none⟩ u4).setCell ⟨b, k + 4, none⟩ u5).ownsRow base e s (.slice (some ⟨b, 0, none⟩) n cap) n
      (((((xs.set k u1).set (k + 1) u2).set (k + 2) u3).set (k + 3) u4).set (k + 4) u5) :=
  own_set (own_set (own_set (own_set (own_set h k u1) (k + 1) u2) (k + 2) u3) (k + 3) u4) (k + 4) u5

/-- Where a node is set: what is left. -/
theorem set_turn {w w1 : World} {C D : Nat → Prop} {g p k pc qc : Nat} {L : List (Option Nd)} {F : List Nat} {Q : Option Addr} {xs : List Value} {x y : Nd} {h2 : Nh} (h : ArW w C D g L F (some ⟨p, 0, none⟩) Q pc qc xs) (hy : lat L k = some y) (hk : k < L.length)
    (hb : Below w.heap.size w w1) (hs : SmallN x) (hon : On (w.heap.size ≤ ·) w1 (NdR · h2 x)) :
    Turn w D g (L.set k (some x)) F (((((w1.setCell ⟨p, k * 6, none⟩ (.bool x.leaf)).setCell ⟨p, k * 6 + 1, none⟩ (.slice h2.A h2.n h2.c)).setCell ⟨p, k * 6 + 2, none⟩ (.slice h2.B h2.m h2.d)).setCell ⟨p, k * 6 + 3, none⟩ (.slice h2.K h2.k h2.e)).setCell ⟨p, k * 6 + 4, none⟩ (.int .i64 x.next)) := by
  have hw := h
  obtain ⟨h1, h2', h3, h4, h5, h6⟩ := h
  have hp := h6.p _ rfl
  have hpl := h6.lt p hp.1
  have hgl := h6.lt g h6.dg
  have hlen := h2'.1
  have hset := set5_at (xs := xs) (k := k) (.bool x.leaf) (.slice h2.A h2.n h2.c) (.slice h2.B h2.m h2.d) (.slice h2.K h2.k h2.e) (.int .i64 x.next) (by omega)
  have h5' := h4 k hk
  rw [hy] at h5'
  obtain ⟨_, _, _, _, _, _, e5, _⟩ := h5'
  refine ⟨grow D w _, ⟨grow C w _, _, Q, pc, qc, _, hw.put hk (fun hF => by have := (h5.2 k hF).2; rw [hy] at this; cases this) ?_ ?_ (five_own (own_keep h2' hb) _ _ _ _ _) ?_ (fun i r hi hr => set5_other _ _ _ _ _ hi hr) ((below_all hb).trans (five_agree w1 _ _ _ _ _ _ hp.2.1)) ?_⟩, fun b hb => hb.imp id (fun h => h.1), five_only (below_only hb) (.inr hp.1) _ _ _ _ _ _⟩
  · rw [five_size]; exact hb.size
  · rw [five_other (by exact fun e => hp.2.2 e.symm)]
    exact hb.block g hgl
  · intro a e
    rw [five_other (fun e' => h6.pq _ _ rfl e e'.symm)]
    exact hb.block _ (h6.lt _ (h6.q a e).1)
  · refine ⟨h2, hset.1, hset.2.1, hset.2.2.1, hset.2.2.2.1, hset.2.2.2.2.1, hset.2.2.2.2.2.1.trans e5, hs, ?_⟩
    refine (hon.keep (five_agree w1 _ _ _ _ _ _ (by show ¬ (w.heap.size ≤ p); omega))).now.mono (fun b hb => .inr hb)

def SetOut (w : World) (D : Nat → Prop) (g : Nat) (L : List (Option Nd)) (F : List Nat) (i : Int) (x : Nd) (e : Ending) (w' : World) : Prop :=
  e = .returned (errV (if usedB L i then 0 else 3)) ∧ Turn w D g (if usedB L i then L.set i.toNat (some x) else L) F w'

set_option maxRecDepth 100000 in
set_option maxHeartbeats 2000000 in
theorem set_no {w : World} {D : Nat → Prop} {g : Nat} {L : List (Option Nd)} {F : List Nat} (h : Ar w D g L F) (i : Int) (hi : i ≤ 9223372036854775807) (hu : usedB L i = false) (hh : Nh) (x : Nd) :
    Calls Try.prog 57 #[.pointer (some ⟨g, 0, none⟩), .int .i64 i, ndV hh x] w (SetOut w D g L F i x) := by
  have ha := h.keep (agree_alloc w (.cells #[.bool x.leaf, .slice hh.A hh.n hh.c, .slice hh.B hh.m hh.d, .slice hh.K hh.k hh.e, .int .i64 x.next] 72))
  have HT := Lib.hid (show Turn w D g L F (w.alloc (.cells #[.bool x.leaf, .slice hh.A hh.n hh.c, .slice hh.B hh.m hh.d, .slice hh.K hh.k hh.e, .int .i64 x.next] 72)) from ⟨D, ha, fun b hb => .inl hb, below_only ((Below.refl _ w).alloc (Nat.le_refl _) _)⟩)
  obtain ⟨C, P, Q, pc, qc, xs, ha⟩ := ha
  have HU := uses_any ha i hi
  rw [hu] at HU
  have HUU := Lib.hid hu
  clear h ha hu
  go_enter Try.func57, Try.ntmps57
  go_wp2_with fail
  refine HU.mono ?_
  rintro e w1 ⟨rfl, rfl⟩
  clear HU
  go_wp2
  go_ret
  refine ⟨?_, ?_⟩
  · rw [HUU.out]; rfl
  · rw [HUU.out]; exact HT.out

set_option maxRecDepth 100000 in
set_option maxHeartbeats 2000000 in
theorem set_yes {w : World} {D : Nat → Prop} {g : Nat} {L : List (Option Nd)} {F : List Nat} (h : Ar w D g L F) (k : Nat) {y : Nd} (hy : lat L k = some y) {hh : Nh} {x : Nd} (hr : NdR w hh x) (hs : SmallN x) :
    Calls Try.prog 57 #[.pointer (some ⟨g, 0, none⟩), .int .i64 k, ndV hh x] w (SetOut w D g L F k x) := by
  obtain ⟨C, P, Q, pc, qc, xs, h⟩ := h
  have hk : k < L.length := by
    rcases Nat.lt_or_ge k L.length with hk | hk
    · exact hk
    · rw [lat_out hk] at hy; cases hy
  have hN : L.length ≤ maxLen := Nat.le_trans (own_caps h.2.1).1 (own_caps h.2.1).2.1
  unfold maxLen at hN
  have hu : usedB L (k : Int) = true := by unfold usedB; simp [hy]
  have HUU := Lib.hid hu
  have h' := h.keep (agree_alloc w (.cells #[.bool x.leaf, .slice hh.A hh.n hh.c, .slice hh.B hh.m hh.d, .slice hh.K hh.k hh.e, .int .i64 x.next] 72))
  have hr' := hr.alloc (.cells #[.bool x.leaf, .slice hh.A hh.n hh.c, .slice hh.B hh.m hh.d, .slice hh.K hh.k hh.e, .int .i64 x.next] 72)
  have HU := uses_any h' k (by omega)
  rw [hu] at HU
  obtain ⟨c0, -, -, -⟩ := pair_cells h'.1
  obtain ⟨p, h0, rfl, hDp, hpg, hCp, hs0, hon0, g0, g1, g2, g3, g4, -, fz⟩ := h'.six hk hy
  have hgl : g < w.heap.size := h.2.2.2.2.2.lt g h.2.2.2.2.2.dg
  have hpl : p < w.heap.size := h.2.2.2.2.2.lt p hDp
  have HW := Lib.hid (show ∃ W, W = w.alloc (.cells #[.bool x.leaf, .slice hh.A hh.n hh.c, .slice hh.B hh.m hh.d, .slice hh.K hh.k hh.e, .int .i64 x.next] 72) ∧ Below w.heap.size w W ∧ NdR W hh x ∧ W.heap.size = w.heap.size + 1 ∧ W.heap[w.heap.size]? = some (.cells #[.bool x.leaf, .slice hh.A hh.n hh.c, .slice hh.B hh.m hh.d, .slice hh.K hh.k hh.e, .int .i64 x.next] 72 (0, 0)) from
    ⟨_, rfl, (Below.refl _ _).alloc (Nat.le_refl _) _, hr', by simp, heap_alloc_new w _⟩)
  have H := Lib.hid h
  have HS := Lib.hid hs
  have HY := Lib.hid hy
  generalize hn : L.length = n at c0 hk hN
  have HNL := Lib.hid hn
  clear h h' hy hu hDp hCp hs0 hon0 hn hr hr' hs
  go_enter Try.func57, Try.ntmps57
  go_wp2_with fail
  refine HU.mono ?_
  rintro e w1 ⟨rfl, rfl⟩
  clear HU
  go_wp2
  obtain ⟨W, hW, hWB, hWr, hWs, hWh⟩ := HW.out
  rw [← hW] at c0 g0 g1 g2 g3 g4 fz ⊢
  obtain ⟨b0, b1, b2, b3, b4, -⟩ := five hWh
  have HWB := Lib.hid hWB
  have HWS := Lib.hid hWs
  have D0 := Lib.hid (apart_any (w := W.drew) (show NdR W.drew hh x from hWr) HS.out)
  have K0 := Lib.hid c0
  have KB := Lib.hid (And.intro b0 (And.intro b1 (And.intro b2 (And.intro b3 b4))))
  have KP := Lib.hid (And.intro g0 (And.intro g1 (And.intro g2 (And.intro g3 (And.intro g4 fz)))))
  clear hW HW hWB hWr hWs hWh fz g0 g1 g2 g3 g4
  have z1 : ¬ (p = w.heap.size) := by omega
  have z2 : ¬ (w.heap.size = p) := by omega
  have z3 : ¬ (g = p) := fun e => hpg e.symm
  go_region_held3 (fun w' => w'.cell? ⟨g, 0, none⟩ = some (.slice (some ⟨p, 0, none⟩) n pc) ∧ w'.cell? ⟨w.heap.size, 0, none⟩ = some (.bool x.leaf) ∧ w'.cell? ⟨w.heap.size, 1, none⟩ = some (.slice hh.A hh.n hh.c) ∧ w'.cell? ⟨w.heap.size, 2, none⟩ = some (.slice hh.B hh.m hh.d) ∧ w'.cell? ⟨w.heap.size, 3, none⟩ = some (.slice hh.K hh.k hh.e) ∧ w'.cell? ⟨w.heap.size, 4, none⟩ = some (.int .i64 x.next)) (go_keep)
    ((go_at_call 63
      (with_reducible refine D0.out.mono ?_)
      rintro e w3 ⟨h3, rfl, on3, hb3⟩
      have hb3 := undrew hb3
      have hl1 : w.heap.size < W.heap.size := by have := HWS.out; omega
      have c0 := (hb3.cell (p := ⟨g, 0, none⟩) (Nat.lt_trans hgl hl1)).trans K0.out
      have b0 := (hb3.cell (p := ⟨w.heap.size, 0, none⟩) hl1).trans KB.out.1
      have b1 := (hb3.cell (p := ⟨w.heap.size, 1, none⟩) hl1).trans KB.out.2.1
      have b2 := (hb3.cell (p := ⟨w.heap.size, 2, none⟩) hl1).trans KB.out.2.2.1
      have b3 := (hb3.cell (p := ⟨w.heap.size, 3, none⟩) hl1).trans KB.out.2.2.2.1
      have b4 := (hb3.cell (p := ⟨w.heap.size, 4, none⟩) hl1).trans KB.out.2.2.2.2
      have g0 := (hb3.cell (p := ⟨p, k * 6, none⟩) (Nat.lt_trans hpl hl1)).trans KP.out.1
      have g1 := (hb3.cell (p := ⟨p, k * 6 + 1, none⟩) (Nat.lt_trans hpl hl1)).trans KP.out.2.1
      have g2 := (hb3.cell (p := ⟨p, k * 6 + 2, none⟩) (Nat.lt_trans hpl hl1)).trans KP.out.2.2.1
      have g3 := (hb3.cell (p := ⟨p, k * 6 + 3, none⟩) (Nat.lt_trans hpl hl1)).trans KP.out.2.2.2.1
      have g4 := (hb3.cell (p := ⟨p, k * 6 + 4, none⟩) (Nat.lt_trans hpl hl1)).trans KP.out.2.2.2.2.1
      have f0 := (hb3.frozen (p := ⟨p, k * 6, none⟩) (Nat.lt_trans hpl hl1)).trans (KP.out.2.2.2.2.2 _)
      have f1 := (hb3.frozen (p := ⟨p, k * 6 + 1, none⟩) (Nat.lt_trans hpl hl1)).trans (KP.out.2.2.2.2.2 _)
      have f2 := (hb3.frozen (p := ⟨p, k * 6 + 2, none⟩) (Nat.lt_trans hpl hl1)).trans (KP.out.2.2.2.2.2 _)
      have f3 := (hb3.frozen (p := ⟨p, k * 6 + 3, none⟩) (Nat.lt_trans hpl hl1)).trans (KP.out.2.2.2.2.2 _)
      have f4 := (hb3.frozen (p := ⟨p, k * 6 + 4, none⟩) (Nat.lt_trans hpl hl1)).trans (KP.out.2.2.2.2.2 _)
      have HON := Lib.hid on3
      have HB3 := Lib.hid hb3
      clear on3 hb3 hl1))
  all_goals
    go_wp2
    go_ret
    refine ⟨by rw [HUU.out]; rfl, ?_⟩
    rw [HUU.out, if_pos rfl, Int.toNat_natCast]
    exact set_turn H.out HY.out (by rw [HNL.out]; exact hk) (HWB.out.trans (HB3.out.mono HWB.out.size)) HS.out (HON.out.mono (fun b hb => by have := HWS.out; have hb' : W.heap.size ≤ b := hb; omega))
end Go.Proofs.Ytdkppgmhhijkgaa

namespace Go.Proofs.Ytdkppgmhhijkgaa
open Go.RowKit
set_option linter.unusedVariables false
set_option maxRecDepth 100000

theorem pair_set0 {w : World} {b : Nat} {T : TypeId} {a0 a1 : Value} (u : Value) (h : w.heap[b]? = some (.cells #[a0, a1] T (0, 0))) : (w.setCell ⟨b, 0, none⟩ u).heap[b]? = some (.cells #[u, a1] T (0, 0)) := by
  simp [World.setCell, Array.getElem?_modify, h]
theorem pair_set1 {w : World} {b : Nat} {T : TypeId} {a0 a1 : Value} (u : Value) (h : w.heap[b]? = some (.cells #[a0, a1] T (0, 0))) : (w.setCell ⟨b, 1, none⟩ u).heap[b]? = some (.cells #[a0, u] T (0, 0)) := by
  simp [World.setCell, Array.getElem?_modify, h]

/-- The world where six cells were stored. -/
def wsix (w : World) (b o : Nat) (u0 u1 u2 u3 u4 u5 : Value) : World := (((((w.setCell ⟨b, o, none⟩ u0).setCell ⟨b, o + 1, none⟩ u1).setCell ⟨b, o + 2, none⟩ u2).setCell ⟨b, o + 3, none⟩ u3).setCell ⟨b, o + 4, none⟩ u4).setCell ⟨b, o + 5, none⟩ u5
theorem six_agr {C : Nat → Prop} (w : World) {b : Nat} (o : Nat) (u0 u1 u2 u3 u4 u5 : Value) (hb : ¬ C b) : Agree C w (wsix w b o u0 u1 u2 u3 u4 u5) :=
  (five_agree w o u0 u1 u2 u3 u4 hb).trans (agree_set _ ⟨b, o + 5, none⟩ u5 hb)
theorem six_only {D : Nat → Prop} {b : Nat} {a w : World} (h : Only D a w) (hb : a.heap.size ≤ b ∨ D b) (o : Nat) (u0 u1 u2 u3 u4 u5 : Value) : Only D a (wsix w b o u0 u1 u2 u3 u4 u5) :=
  (five_only h hb o u0 u1 u2 u3 u4).set ⟨b, o + 5, none⟩ u5 hb
theorem six_other {b g : Nat} {w : World} (hb : g ≠ b) (o : Nat) (u0 u1 u2 u3 u4 u5 : Value) : (wsix w b o u0 u1 u2 u3 u4 u5).heap[g]? = w.heap[g]? := by
  unfold wsix
  rw [Below.heap_setCell _ _ _ _ hb]
  exact five_other hb o u0 u1 u2 u3 u4
theorem six_size {b : Nat} {w : World} (o : Nat) (u0 u1 u2 u3 u4 u5 : Value) : (wsix w b o u0 u1 u2 u3 u4 u5).heap.size = w.heap.size := by
  simp [wsix, World.setCell]
theorem six_own {b n cap k s base : Nat} {e : TypeId} {w : World} {xs : List Value} (h : w.ownsRow base e s (.slice (some ⟨b, 0, none⟩) n cap) n xs) (u0 u1 u2 u3 u4 u5 : Value) :
    (wsix w b k u0 u1 u2 u3 u4 u5).ownsRow base e s (.slice (some ⟨b, 0, none⟩) n cap) n ((((((xs.set k u0).set (k + 1) u1).set (k + 2) u2).set (k + 3) u3).set (k + 4) u4).set (k + 5) u5) :=
  own_set (five_own h u0 u1 u2 u3 u4) (k + 5) u5
theorem set6_other {xs : List Value} {k i r : Nat} (u0 u1 u2 u3 u4 u5 : Value) (h : i ≠ k) (hr : r < 6) :
    ((((((xs.set (k * 6) u0).set (k * 6 + 1) u1).set (k * 6 + 2) u2).set (k * 6 + 3) u3).set (k * 6 + 4) u4).set (k * 6 + 5) u5)[i * 6 + r]? = xs[i * 6 + r]? := by
  rw [List.getElem?_set_ne (by omega)]
  exact set5_other u0 u1 u2 u3 u4 h hr
theorem set6_at {xs : List Value} {k : Nat} (u0 u1 u2 u3 u4 u5 : Value) (h : k * 6 + 5 < xs.length) :
    let ys := ((((((xs.set (k * 6) u0).set (k * 6 + 1) u1).set (k * 6 + 2) u2).set (k * 6 + 3) u3).set (k * 6 + 4) u4).set (k * 6 + 5) u5)
    ys[k * 6]? = some u0 ∧ ys[k * 6 + 1]? = some u1 ∧ ys[k * 6 + 2]? = some u2 ∧ ys[k * 6 + 3]? = some u3 ∧ ys[k * 6 + 4]? = some u4 ∧ ys[k * 6 + 5]? = some u5 := by
  obtain ⟨h0, h1, h2, h3, h4, h5, h6⟩ := set5_at (xs := xs) u0 u1 u2 u3 u4 h
  refine ⟨?_, ?_, ?_, ?_, ?_, ?_⟩
  · rw [List.getElem?_set_ne (by omega)]; exact h0
  · rw [List.getElem?_set_ne (by omega)]; exact h1
  · rw [List.getElem?_set_ne (by omega)]; exact h2
  · rw [List.getElem?_set_ne (by omega)]; exact h3
  · rw [List.getElem?_set_ne (by omega)]; exact h4
  · rw [List.getElem?_set_self (by rw [h6]; exact h)]

/-- The six cells of a number, whatever they hold. -/
theorem ArW.any {w : World} {C D : Nat → Prop} {g : Nat} {L : List (Option Nd)} {F : List Nat} {P Q : Option Addr} {pc qc : Nat} {xs : List Value} (h : ArW w C D g L F P Q pc qc xs) {k : Nat} (hk : k < L.length) :
    ∃ p u0 u1 u2 u3 u4 u5, P = some ⟨p, 0, none⟩ ∧ D p ∧ p ≠ g ∧ ¬ C p ∧ w.cell? ⟨p, k * 6, none⟩ = some u0 ∧ w.cell? ⟨p, k * 6 + 1, none⟩ = some u1 ∧ w.cell? ⟨p, k * 6 + 2, none⟩ = some u2 ∧
      w.cell? ⟨p, k * 6 + 3, none⟩ = some u3 ∧ w.cell? ⟨p, k * 6 + 4, none⟩ = some u4 ∧ w.cell? ⟨p, k * 6 + 5, none⟩ = some u5 ∧ ∀ o, w.frozen? ⟨p, o, none⟩ = false := by
  obtain ⟨h1, h2, h3, h4, h5, h6⟩ := h
  obtain ⟨p, rfl, -, -⟩ := own_at h2 (by omega)
  have hp := h6.p _ rfl
  have hl := h2.1
  have hc : ∀ r, r < 6 → w.cell? ⟨p, k * 6 + r, none⟩ = some (xs.getD (k * 6 + r) .nilIface) := fun r hr => by
    rw [h2.cellAt _ (by omega), List.getD_eq_getElem?_getD, List.getElem?_eq_getElem (by omega)]
    rfl
  exact ⟨p, _, _, _, _, _, _, rfl, hp.1, hp.2.2, hp.2.1, hc 0 (by omega), hc 1 (by omega), hc 2 (by omega), hc 3 (by omega), hc 4 (by omega), hc 5 (by omega), fun o => h2.frozenAt o⟩

/-- An arena whose place of a number was filled anew. -/
theorem ArW.put6 {w w1 : World} {C D : Nat → Prop} {g p k pc qc : Nat} {L : List (Option Nd)} {F : List Nat} {Q : Option Addr} {xs : List Value} {o : Option Nd} {u0 u1 u2 u3 u4 u5 : Value} (h : ArW w C D g L F (some ⟨p, 0, none⟩) Q pc qc xs) (hk : k < L.length) (hF : k ∉ F)
    (hb : Below w.heap.size w w1) (hn : ∀ ys : List Value, ys[k * 6]? = some u0 → ys[k * 6 + 1]? = some u1 → ys[k * 6 + 2]? = some u2 → ys[k * 6 + 3]? = some u3 → ys[k * 6 + 4]? = some u4 → ys[k * 6 + 5]? = some u5 →
      PlaceAt (grow C w (wsix w1 p (k * 6) u0 u1 u2 u3 u4 u5)) (wsix w1 p (k * 6) u0 u1 u2 u3 u4 u5) ys k o) :
    ∃ ys, ArW (wsix w1 p (k * 6) u0 u1 u2 u3 u4 u5) (grow C w (wsix w1 p (k * 6) u0 u1 u2 u3 u4 u5)) (grow D w (wsix w1 p (k * 6) u0 u1 u2 u3 u4 u5)) g (L.set k o) F (some ⟨p, 0, none⟩) Q pc qc ys ∧ Only D w (wsix w1 p (k * 6) u0 u1 u2 u3 u4 u5) := by
  have hw := h
  obtain ⟨h1, h2', h3, h4, h5, h6⟩ := h
  have hp := h6.p _ rfl
  have hgl := h6.lt g h6.dg
  have hlen := h2'.1
  obtain ⟨e0, e1, e2, e3, e4, e5⟩ := set6_at (xs := xs) (k := k) u0 u1 u2 u3 u4 u5 (by omega)
  refine ⟨_, hw.put hk hF ?_ ?_ (six_own (own_keep h2' hb) _ _ _ _ _ _) ?_ (fun i r hi hr => set6_other _ _ _ _ _ _ hi hr) ((below_all hb).trans (six_agr w1 _ _ _ _ _ _ _ hp.2.1)) (hn _ e0 e1 e2 e3 e4 e5), six_only (below_only hb) (.inr hp.1) _ _ _ _ _ _ _⟩
  · rw [six_size]; exact hb.size
  · rw [six_other (by exact fun e => hp.2.2 e.symm)]
    exact hb.block g hgl
  · intro a e
    rw [six_other (fun e' => h6.pq _ _ rfl e e'.symm)]
    exact hb.block _ (h6.lt _ (h6.q a e).1)

/-- An arena with one free number more. -/
theorem ArW.free1 {w w2 w3 : World} {C D : Nat → Prop} {g k pc qc q' qc' : Nat} {L : List (Option Nd)} {F : List Nat} {P Q : Option Addr} {xs : List Value} (h : ArW w C D g L F P Q pc qc xs) (hk : k < L.length) (hF : k ∉ F) (hl : lat L k = none)
    (hb : Below w.heap.size w w2) (hown : w3.ownsRow 0 3 1 (.slice (some ⟨q', 0, none⟩) (F.length + 1) qc') (F.length + 1) (F.map natV ++ [natV k])) (hg : w2.grownBy w3 (Value.slice Q F.length qc).ownBlock)
    (hat : (Value.slice Q F.length qc).ownBlock = some q' ∨ w.heap.size ≤ q') (hlt : q' < w3.heap.size) :
    ArW (w3.setCell ⟨g, 1, none⟩ (.slice (some ⟨q', 0, none⟩) (F.length + 1) qc')) C (grow D w (w3.setCell ⟨g, 1, none⟩ (.slice (some ⟨q', 0, none⟩) (F.length + 1) qc'))) g L (F ++ [k]) P (some ⟨q', 0, none⟩) pc qc' xs ∧
      Only D w (w3.setCell ⟨g, 1, none⟩ (.slice (some ⟨q', 0, none⟩) (F.length + 1) qc')) := by
  obtain ⟨h1, h2, h3, h4, h5, h6⟩ := h
  have hgl := h6.lt g h6.dg
  have hQ : ∀ b, (Value.slice Q F.length qc).ownBlock = some b → D b ∧ ¬ C b ∧ b ≠ g ∧ ∀ a, P = some a → a.block ≠ b := fun b e => by
    cases Q with
    | none => cases e
    | some a =>
      injection e with e
      subst e
      have := h6.q a rfl
      exact ⟨this.1, this.2.1, this.2.2, fun a' e' => h6.pq a' a e' rfl⟩
  have hs : w.heap.size ≤ w3.heap.size := Nat.le_trans hb.size hg.size
  have hsz : (w3.setCell ⟨g, 1, none⟩ (.slice (some ⟨q', 0, none⟩) (F.length + 1) qc')).heap.size = w3.heap.size := by simp [World.setCell]
  have h3g : ∀ b, b < w.heap.size → (∀ c, (Value.slice Q F.length qc).ownBlock = some c → b ≠ c) → w3.heap[b]? = w.heap[b]? := fun b hb1 hb2 => (hg.block b (Nat.lt_of_lt_of_le hb1 hb.size) (fun e => hb2 b e.symm rfl)).trans (hb.block b hb1)
  have hqg : q' ≠ g := by
    rcases hat with e | e
    · exact (hQ q' e).2.2.1
    · omega
  have hagP : ∀ E : Nat → Prop, (∀ b, E b → D b ∧ (∀ c, (Value.slice Q F.length qc).ownBlock = some c → b ≠ c) ∧ b ≠ g) → Agree E w (w3.setCell ⟨g, 1, none⟩ (.slice (some ⟨q', 0, none⟩) (F.length + 1) qc')) := fun E hE =>
    ⟨by rw [hsz]; exact hs, fun b hb1 hl => by
      rw [Below.heap_setCell _ _ _ _ (hE b hb1).2.2]
      exact h3g b hl (hE b hb1).2.1⟩
  refine ⟨⟨?_, ?_, ?_, fun i hi => (h4 i hi).keep (hagP C fun b hc => ⟨h6.cd b hc, fun c e e' => (hQ c e).2.1 (e' ▸ hc), fun e => h6.cg (e ▸ hc)⟩), ⟨?_, ?_⟩, ?_⟩, ?_⟩
  · have := (h3g g hgl fun c e => (hQ c e).2.2.1.symm).trans h1
    have := pair_set1 (.slice (some ⟨q', 0, none⟩) (F.length + 1) qc') this
    rw [this, List.length_append]
    rfl
  · refine own_agree h2 (hagP (fun b => ∃ a, P = some a ∧ a.block = b) ?_) ?_
    · rintro b ⟨a, e, rfl⟩
      exact ⟨(h6.p a e).1, fun c e' => (hQ c e').2.2.2 a e, (h6.p a e).2.2⟩
    · intro b e
      cases P with
      | none => cases e
      | some a => injection e with e; exact ⟨a, rfl, e⟩
  · rw [List.length_append, List.map_append]
    refine own_agree hown (C := (· = q')) (agree_set w3 _ _ (by exact fun e => hqg e.symm)) (fun b e => by injection e with e; exact e.symm)
  · exact List.nodup_append.2 ⟨h5.1, by simp, fun a ha b hb => by simp at hb; subst hb; exact fun e => hF (e ▸ ha)⟩
  · intro i hi
    rcases List.mem_append.1 hi with hi | hi
    · exact h5.2 i hi
    · simp at hi
      subst hi
      exact ⟨hk, hl⟩
  · refine ⟨.inl h6.dg, h6.cg, fun a e => ⟨.inl (h6.p a e).1, (h6.p a e).2⟩, ?_, ?_, fun b hb => .inl (h6.cd b hb), ?_⟩
    · intro a e
      injection e with e
      subst e
      refine ⟨?_, ?_, hqg⟩
      · rcases hat with e | e
        · exact .inl (hQ q' e).1
        · exact .inr ⟨e, by rw [hsz]; exact hlt⟩
      · rcases hat with e | e
        · exact (hQ q' e).2.1
        · exact fun hc => by have := h6.lt _ (h6.cd _ hc); simp at this; omega
    · intro a b e e'
      injection e' with e'
      subst e'
      rcases hat with e1 | e1
      · exact (hQ q' e1).2.2.2 a e
      · have := h6.lt _ (h6.p a e).1
        show a.block ≠ q'
        omega
    · intro b hb
      rw [hsz]
      rcases hb with hb | hb
      · exact Nat.lt_of_lt_of_le (h6.lt b hb) hs
      · rw [hsz] at hb; exact hb.2
  · exact ((below_only hb).grown hg (fun c e => .inr (hQ c e).1)).set _ _ (.inr h6.dg)
end Go.Proofs.Ytdkppgmhhijkgaa

namespace Go.Proofs.Ytdkppgmhhijkgaa
open Go.RowKit
set_option linter.unusedVariables false
set_option maxRecDepth 100000

def FreeOut (w : World) (D : Nat → Prop) (g : Nat) (L : List (Option Nd)) (F : List Nat) (i : Int) (e : Ending) (w' : World) : Prop :=
  e = .returned (errV (if usedB L i then 0 else 3)) ∧ Turn w D g (if usedB L i then L.set i.toNat none else L) (if usedB L i then F ++ [i.toNat] else F) w'

set_option maxRecDepth 100000 in
set_option maxHeartbeats 2000000 in
theorem free_no {w : World} {D : Nat → Prop} {g : Nat} {L : List (Option Nd)} {F : List Nat} (h : Ar w D g L F) (i : Int) (hi : i ≤ 9223372036854775807) (hu : usedB L i = false) :
    Calls Try.prog 48 #[.pointer (some ⟨g, 0, none⟩), .int .i64 i] w (FreeOut w D g L F i) := by
  have HT := Lib.hid (show Turn w D g L F w from ⟨D, h, fun b hb => .inl hb, Only.refl _ _⟩)
  obtain ⟨C, P, Q, pc, qc, xs, ha⟩ := h
  have HU := uses_any ha i hi
  rw [hu] at HU
  have HUU := Lib.hid hu
  clear ha hu
  go_enter Try.func48, Try.ntmps48
  go_wp2_with fail
  refine HU.mono ?_
  rintro e w1 ⟨rfl, rfl⟩
  clear HU
  go_wp2
  go_ret
  refine ⟨?_, ?_⟩
  · rw [HUU.out]; rfl
  · rw [HUU.out]; exact HT.out

theorem one_cell {w : World} {x : Value} {T : TypeId} : ∀ j u, [x][j]? = some u → (w.alloc (.cells #[x] T)).cell? ((⟨w.heap.size, 0, none⟩ : Addr).add j) = some u := by
  intro j u hu
  rcases j with _ | j
  · simp at hu; subst hu; simp [Addr.add]
  · simp at hu

theorem one_cell_at {w : World} {x : Value} {T : TypeId} {N : Nat} (h : w.heap.size = N) : ∀ j u, [x][j]? = some u → (w.alloc (.cells #[x] T)).cell? ((⟨N, 0, none⟩ : Addr).add j) = some u := by
  subst h
  exact one_cell
theorem alloc_size {w : World} {N : Nat} (h : w.heap.size = N) (o : Obj) : (w.alloc o).heap.size = N + 1 := by
  subst h
  simp
theorem Only.trans2 {D E : Nat → Prop} {a b c : World} (h : Only D a b) (k : Only E b c) (hE : ∀ i, E i → D i ∨ a.heap.size ≤ i) : Only D a c :=
  ⟨k.os.trans h.os, k.tape.trans h.tape, k.output.trans h.output, Nat.le_trans h.size k.size, fun i hi hd => (k.block i (Nat.lt_of_lt_of_le hi h.size) (fun he => by
    rcases hE i he with h1 | h1
    · exact hd h1
    · omega)).trans (h.block i hi hd)⟩

set_option maxRecDepth 100000 in
set_option maxHeartbeats 4000000 in
theorem free_yes {w : World} {D : Nat → Prop} {g : Nat} {L : List (Option Nd)} {F : List Nat} (h : Ar w D g L F) (k : Nat) {y : Nd} (hy : lat L k = some y) (hF : F.length ≤ 10000) :
    Calls Try.prog 48 #[.pointer (some ⟨g, 0, none⟩), .int .i64 k] w (FreeOut w D g L F k) := by
  obtain ⟨C, P, Q, pc, qc, xs, h⟩ := h
  have hk : k < L.length := by
    rcases Nat.lt_or_ge k L.length with hk | hk
    · exact hk
    · rw [lat_out hk] at hy; cases hy
  have hN : L.length ≤ maxLen := Nat.le_trans (own_caps h.2.1).1 (own_caps h.2.1).2.1
  unfold maxLen at hN
  have hkF : k ∉ F := fun hh => by have := (h.2.2.2.2.1.2 k hh).2; rw [hy] at this; cases this
  have hu : usedB L (k : Int) = true := by unfold usedB; simp [hy]
  have HUU := Lib.hid hu
  have HU := uses_any h k (by omega)
  rw [hu] at HU
  obtain ⟨c0, c1, f0, f1⟩ := pair_cells h.1
  obtain ⟨p, u0, u1, u2, u3, u4, u5, rfl, hDp, hpg, hCp, g0, g1, g2, g3, g4, g5, fz⟩ := h.any hk
  have z0 := fz (k * 6)
  have z1 := fz (k * 6 + 1)
  have z2 := fz (k * 6 + 2)
  have z3 := fz (k * 6 + 3)
  have z4 := fz (k * 6 + 4)
  have z5 := fz (k * 6 + 5)
  obtain ⟨ys, hp, hop⟩ := h.put6 (w1 := w) (o := none) (u0 := .bool false) (u1 := .slice none 0 0) (u2 := .slice none 0 0) (u3 := .slice none 0 0) (u4 := .int .i64 0) (u5 := .bool false) hk hkF (Below.refl _ _) (fun ys _ _ _ _ _ e5 => e5)
  have hsz := six_size (w := w) (b := p) (k * 6) (.bool false) (.slice none 0 0) (.slice none 0 0) (.slice none 0 0) (.int .i64 0) (.bool false)
  have HP := Lib.hid hp
  have HOP := Lib.hid hop
  have HSZ := Lib.hid hsz
  have HO := Lib.hid (hp.2.2.1.alloc (.cells #[.int .i64 k] 3))
  have HKF := Lib.hid hkF
  obtain ⟨i0, hi, hz0, hz1, hz2⟩ := info_parts Try.infoInt
  have HI := Lib.hid hi
  have HZ := Lib.hid (And.intro hz0 (And.intro hz1 hz2))
  have HX := Lib.hid (And.intro hk hy)
  have hpg' : ¬ (g = p) := fun e => hpg e.symm
  generalize hn : L.length = n at c0 hk hN
  generalize hm : F.length = m at c1 hF
  have HNL := Lib.hid (And.intro hn hm)
  clear h hy hu hDp hCp hp hop hsz hi hz0 hz1 hz2 fz hn hm hkF
  go_enter Try.func48, Try.ntmps48
  go_wp2_with fail
  refine HU.mono ?_
  rintro e w1 ⟨rfl, rfl⟩
  clear HU
  go_wp2_with (at_builtin; refine wpList_append_lies _ rfl _ _ 62 rfl 0 3 i0 (.int .i64 0) 1 8 Try.underlying62 HI.out HZ.out.1 HZ.out.2.1 HZ.out.2.2 rfl (by decide) _ _ _ (by rw [← HNL.out.2]; rfl) HO.out ⟨w.heap.size, 0, none⟩ 1 1 [.int .i64 k] rfl rfl ?c1 ?c2 (by omega) ?c3 ?c4 (Nat.zero_le _) (w.heap.size + 1) ?c5 ?_)
  case c1 => exact one_cell_at HSZ.out
  case c2 => intro u hu; simp at hu; subst hu; rfl
  case c3 => have := HNL.out.2; unfold maxLen; omega
  case c4 => have := HNL.out.2; omega
  case c5 => exact alloc_size HSZ.out _
  intro q' cap w3 hown hgrow hat hlt
  obtain ⟨d0, d1, e0, e1⟩ := pair_cells HP.out.1
  have hgl : g < w.heap.size := by have := HP.out.2.2.2.2.2.lt g HP.out.2.2.2.2.2.dg; rw [HSZ.out] at this; exact this
  have hgr : some g ≠ (Value.slice Q F.length qc).ownBlock := fun e => by
    cases Q with
    | none => cases e
    | some a => injection e with e; exact (HP.out.2.2.2.2.2.q a rfl).2.2 e.symm
  have hga : g < ((wsix w p (k * 6) (.bool false) (.slice none 0 0) (.slice none 0 0) (.slice none 0 0) (.int .i64 0) (.bool false)).alloc (.cells #[.int .i64 k] 3)).heap.size := by rw [alloc_size HSZ.out]; omega
  have k1 : w3.cell? ⟨g, 1, none⟩ = some (.slice Q m qc) := (hgrow.cell_far ⟨g, 1, none⟩ hga hgr).trans ((((Below.refl _ (wsix w p (k * 6) (.bool false) (.slice none 0 0) (.slice none 0 0) (.slice none 0 0) (.int .i64 0) (.bool false))).alloc (Nat.le_refl _) _).cell (p := ⟨g, 1, none⟩) (by rw [HSZ.out]; exact hgl)).trans (by rw [d1, HNL.out.2]))
  have k2 : w3.frozen? ⟨g, 1, none⟩ = false := (hgrow.frozen_far ⟨g, 1, none⟩ hga hgr).trans ((((Below.refl _ (wsix w p (k * 6) (.bool false) (.slice none 0 0) (.slice none 0 0) (.slice none 0 0) (.int .i64 0) (.bool false))).alloc (Nat.le_refl _) _).frozen (p := ⟨g, 1, none⟩) (by rw [HSZ.out]; exact hgl)).trans e1)
  have hF1 := HP.out.free1 (k := k) (qc' := cap) (q' := q') (w3 := w3) (by rw [List.length_set]; exact HX.out.1) HKF.out (by rw [lat_set HX.out.1, if_pos rfl]) ((Below.refl _ _).alloc (Nat.le_refl _) _) hown hgrow (hat.imp id (fun e => by rw [HSZ.out, e]; exact Nat.le_succ _)) hlt
  have hT : Turn w D g (L.set k none) (F ++ [k]) (w3.setCell ⟨g, 1, none⟩ (.slice (some ⟨q', 0, none⟩) (F.length + 1) cap)) :=
    ⟨_, ⟨_, _, _, _, _, _, hF1.1⟩, fun b hb => by
      rcases hb with (hb | hb) | hb
      · exact .inl hb
      · exact .inr hb.1
      · rw [HSZ.out] at hb; exact .inr hb.1, HOP.out.trans2 hF1.2 (fun b hb => by
      rcases hb with hb | hb
      · exact .inl hb
      · exact .inr hb.1)⟩
  have HT := Lib.hid hT
  clear hT hF1 hga hgr hgl d0 d1 e0 e1 hown hgrow hat hlt c0 c1 f0 f1 g0 g1 g2 g3 g4 g5 z0 z1 z2 z3 z4 z5 HP HOP HSZ HO
  go_wp2
  go_ret
  refine ⟨by rw [HUU.out]; rfl, ?_⟩
  rw [HUU.out, if_pos rfl, if_pos rfl, Int.toNat_natCast]
  exact HT.out

theorem free_any {w : World} {D : Nat → Prop} {g : Nat} {L : List (Option Nd)} {F : List Nat} (h : Ar w D g L F) (i : Int) (hi : i ≤ 9223372036854775807) (hF : F.length ≤ 10000) :
    Calls Try.prog 48 #[.pointer (some ⟨g, 0, none⟩), .int .i64 i] w (FreeOut w D g L F i) := by
  cases hu : usedB L i
  · exact free_no h i hi hu
  · unfold usedB at hu
    simp at hu
    obtain ⟨k, rfl⟩ := Int.eq_ofNat_of_zero_le hu.1
    obtain ⟨x, hx⟩ := Option.isSome_iff_exists.1 hu.2
    exact free_yes h k (by simpa using hx) hF
end Go.Proofs.Ytdkppgmhhijkgaa

namespace Go.Proofs.Ytdkppgmhhijkgaa
open Go.RowKit
set_option linter.unusedVariables false
set_option maxRecDepth 100000

theorem own_cut {w : World} {base : Nat} {e : TypeId} {s n c m : Nat} {A : Option Addr} {xs : List Value} (h : w.ownsRow base e s (.slice A n c) n xs) (hm : m ≤ n) : w.ownsRow base e s (.slice A m c) m (xs.take (m * s)) := by
  obtain ⟨h1, h2⟩ := h
  have hms : m * s ≤ n * s := Nat.mul_le_mul_right s hm
  refine ⟨by simp; omega, ?_⟩
  rcases h2 with ⟨e, rfl⟩ | ⟨g, cap, cur, e, hB, hh, h3, h4, h5, h6⟩
  · injection e with e1 e2 e3
    subst e1
    subst e3
    obtain rfl : m = 0 := by omega
    exact .inl ⟨rfl, rfl⟩
  · injection e with e1 e2 e3
    subst e1
    subst e3
    exact .inr ⟨g, c, cur, rfl, hB, hh, by omega, h4, h5, by rw [← h6, List.take_take, Nat.min_eq_left hms]⟩

/-- An arena whose last free number is taken. -/
theorem ArW.pop {w : World} {C D : Nat → Prop} {g k pc qc : Nat} {L : List (Option Nd)} {F : List Nat} {P Q : Option Addr} {xs : List Value} (h : ArW w C D g L (F ++ [k]) P Q pc qc xs) :
    ArW (w.setCell ⟨g, 1, none⟩ (.slice Q F.length qc)) C D g L F P Q pc qc xs ∧ k < L.length ∧ lat L k = none ∧ k ∉ F := by
  obtain ⟨h1, h2, h3, h4, h5, h6⟩ := h
  have hnd := List.nodup_append.1 h5.1
  refine ⟨⟨pair_set1 _ h1, ?_, ?_, fun i hi => (h4 i hi).keep (agree_set w _ _ h6.cg), ⟨hnd.1, fun i hi => h5.2 i (List.mem_append_left _ hi)⟩, h6.keep (by simp [World.setCell])⟩, (h5.2 k (by simp)).1, (h5.2 k (by simp)).2, fun hk => hnd.2.2 k hk k (by simp) rfl⟩
  · refine own_agree h2 (C := fun b => ∃ a, P = some a ∧ a.block = b) (agree_set w _ _ ?_) (fun b e => ?_)
    · rintro ⟨a, e, e'⟩
      exact (h6.p a e).2.2 e'
    · cases P with
      | none => cases e
      | some a => injection e with e; exact ⟨a, rfl, e⟩
  · have hc := own_cut (m := F.length) h3 (by simp)
    have hr : (List.map natV (F ++ [k])).take (F.length * 1) = List.map natV F := by
      rw [List.map_append, Nat.mul_one, List.take_append_of_le_length (by simp)]
      exact List.take_of_length_le (by simp)
    rw [hr] at hc
    refine own_agree hc (C := fun b => ∃ a, Q = some a ∧ a.block = b) (agree_set w _ _ ?_) (fun b e => ?_)
    · rintro ⟨a, e, e'⟩
      exact (h6.q a e).2.2 e'
    · cases Q with
      | none => cases e
      | some a => injection e with e; exact ⟨a, rfl, e⟩

theorem getq_left {xs ys : List Value} {n i r : Nat} (hl : xs.length = n * 6) (hi : i < n) (hr : r < 6) : (xs ++ ys)[i * 6 + r]? = xs[i * 6 + r]? := List.getElem?_append_left (by omega)
theorem getq_right {xs ys : List Value} {n r : Nat} (hl : xs.length = n * 6) : (xs ++ ys)[n * 6 + r]? = ys[r]? := by
  rw [List.getElem?_append_right (by omega)]
  congr 1
  omega

/-- An arena with one number more. -/
theorem ArW.new1 {w w1 w2 w3 : World} {C D : Nat → Prop} {g pc qc p' pc' : Nat} {L : List (Option Nd)} {F : List Nat} {P Q : Option Addr} {xs : List Value} {x : Nd} {h2 : Nh} (h : ArW w C D g L F P Q pc qc xs) (hb1 : Below w.heap.size w w1) (hb2 : Below w1.heap.size w1 w2) (hs : SmallN x) (hon : On (w.heap.size ≤ ·) w1 (NdR · h2 x))
    (hown : w3.ownsRow 0 113 6 (.slice (some ⟨p', 0, none⟩) (L.length + 1) pc') (L.length + 1) (xs ++ [.bool x.leaf, .slice h2.A h2.n h2.c, .slice h2.B h2.m h2.d, .slice h2.K h2.k h2.e, .int .i64 x.next, .bool true]))
    (hg : w2.grownBy w3 (Value.slice P L.length pc).ownBlock) (hat : (Value.slice P L.length pc).ownBlock = some p' ∨ w1.heap.size ≤ p') (hlt : p' < w3.heap.size) :
    Turn w D g (L ++ [some x]) F (w3.setCell ⟨g, 0, none⟩ (.slice (some ⟨p', 0, none⟩) (L.length + 1) pc')) := by
  obtain ⟨h1, h2', h3, h4, h5, h6⟩ := h
  have hgl := h6.lt g h6.dg
  have hP : ∀ b, (Value.slice P L.length pc).ownBlock = some b → D b ∧ ¬ C b ∧ b ≠ g ∧ ∀ a, Q = some a → b ≠ a.block := fun b e => by
    cases P with
    | none => cases e
    | some a =>
      injection e with e
      subst e
      have := h6.p a rfl
      exact ⟨this.1, this.2.1, this.2.2, fun a' e' => h6.pq a a' rfl e'⟩
  have hs1 : w.heap.size ≤ w1.heap.size := hb1.size
  have hs2 : w1.heap.size ≤ w2.heap.size := hb2.size
  have hs3 : w2.heap.size ≤ w3.heap.size := hg.size
  have hsz : (w3.setCell ⟨g, 0, none⟩ (.slice (some ⟨p', 0, none⟩) (L.length + 1) pc')).heap.size = w3.heap.size := by simp [World.setCell]
  have h13 : ∀ b, b < w1.heap.size → (∀ c, (Value.slice P L.length pc).ownBlock = some c → b ≠ c) → w3.heap[b]? = w1.heap[b]? := fun b hb1 hb => (hg.block b (Nat.lt_of_lt_of_le hb1 hs2) (fun e => hb b e.symm rfl)).trans (hb2.block b hb1)
  have h03 : ∀ b, b < w.heap.size → (∀ c, (Value.slice P L.length pc).ownBlock = some c → b ≠ c) → w3.heap[b]? = w.heap[b]? := fun b hb' hb => (h13 b (by omega) hb).trans (hb1.block b hb')
  have hpg : p' ≠ g := by
    rcases hat with e | e
    · exact (hP p' e).2.2.1
    · omega
  have hag : ∀ E : Nat → Prop, (∀ b, E b → D b ∧ (∀ c, (Value.slice P L.length pc).ownBlock = some c → b ≠ c) ∧ b ≠ g) → Agree E w (w3.setCell ⟨g, 0, none⟩ (.slice (some ⟨p', 0, none⟩) (L.length + 1) pc')) := fun E hE =>
    ⟨by rw [hsz]; omega, fun b hb1 hl => by
      rw [Below.heap_setCell _ _ _ _ (hE b hb1).2.2]
      exact h03 b hl (hE b hb1).2.1⟩
  have hnew : Agree (w.heap.size ≤ ·) w1 (w3.setCell ⟨g, 0, none⟩ (.slice (some ⟨p', 0, none⟩) (L.length + 1) pc')) := ⟨by rw [hsz]; omega, fun b hb hl => by
    have hb' : w.heap.size ≤ b := hb
    rw [Below.heap_setCell _ _ _ _ (by show b ≠ g; omega)]
    exact h13 b hl (fun c e => by have := h6.lt c (hP c e).1; omega)⟩
  refine ⟨grow D w (w3.setCell ⟨g, 0, none⟩ (.slice (some ⟨p', 0, none⟩) (L.length + 1) pc')), ⟨grow C w w1, some ⟨p', 0, none⟩, Q, pc', qc, xs ++ [.bool x.leaf, .slice h2.A h2.n h2.c, .slice h2.B h2.m h2.d, .slice h2.K h2.k h2.e, .int .i64 x.next, .bool true], ?_, ?_, ?_, fun i hi => ?_, ⟨h5.1, fun i hi => ?_⟩, ?_⟩, fun b hb => hb.imp id (fun h => h.1), ?_⟩
  · have := (h03 g hgl fun c e => (hP c e).2.2.1.symm).trans h1
    have := pair_set0 (.slice (some ⟨p', 0, none⟩) (L.length + 1) pc') this
    rw [this, List.length_append]
    rfl
  · rw [List.length_append]
    exact own_agree hown (C := (· = p')) (agree_set w3 _ _ (by exact fun e => hpg e.symm)) (fun b e => by injection e with e; exact e.symm)
  · refine own_agree h3 (hag (fun b => ∃ a, Q = some a ∧ a.block = b) ?_) ?_
    · rintro b ⟨a, e, rfl⟩
      exact ⟨(h6.q a e).1, fun c e' => ((hP c e').2.2.2 a e).symm, (h6.q a e).2.2⟩
    · intro b e
      cases Q with
      | none => cases e
      | some a => injection e with e; exact ⟨a, rfl, e⟩
  · rw [lat_push]
    by_cases e : i = L.length
    · rw [if_pos e, e]
      have hq := fun r => getq_right (ys := [.bool x.leaf, .slice h2.A h2.n h2.c, .slice h2.B h2.m h2.d, .slice h2.K h2.k h2.e, .int .i64 x.next, .bool true]) (r := r) h2'.1
      refine ⟨h2, hq 0, hq 1, hq 2, hq 3, hq 4, hq 5, hs, ?_⟩
      exact (hon.now.keep (hnew.mono fun b hb => hb.1)).mono (fun b hb => .inr hb)
    · rw [if_neg e]
      have hil : i < L.length := by simp at hi; omega
      exact (((h4 i hil).keep (hag C fun b hc => ⟨h6.cd b hc, fun c e e' => (hP c e).2.1 (e' ▸ hc), fun e => h6.cg (e ▸ hc)⟩)).mono (fun b hb => .inl hb)).cells (fun r hr => getq_left h2'.1 hil hr)
  · have := h5.2 i hi
    rw [List.length_append, lat_push, if_neg (by omega)]
    exact ⟨by simp; omega, this.2⟩
  · refine ⟨.inl h6.dg, ?_, ?_, ?_, ?_, ?_, ?_⟩
    · rintro (hc | hc)
      · exact h6.cg hc
      · omega
    · intro a e
      injection e with e
      subst e
      refine ⟨?_, ?_, hpg⟩
      · rcases hat with e | e
        · exact .inl (hP p' e).1
        · exact .inr ⟨by show w.heap.size ≤ p'; omega, by rw [hsz]; exact hlt⟩
      · rintro (hc | hc)
        · rcases hat with e | e
          · exact (hP p' e).2.1 hc
          · have := h6.lt _ (h6.cd _ hc); simp at this; omega
        · rcases hat with e | e
          · have := h6.lt _ (hP p' e).1; simp at hc; omega
          · simp at hc; omega
    · intro a e
      refine ⟨.inl (h6.q a e).1, ?_, (h6.q a e).2.2⟩
      rintro (hc | hc)
      · exact (h6.q a e).2.1 hc
      · have := h6.lt _ (h6.q a e).1; omega
    · intro a b e e'
      injection e with e
      subst e
      rcases hat with e1 | e1
      · exact (hP p' e1).2.2.2 b e'
      · have := h6.lt _ (h6.q b e').1
        show p' ≠ b.block
        omega
    · intro b hb
      rcases hb with hb | hb
      · exact .inl (h6.cd b hb)
      · exact .inr ⟨hb.1, by rw [hsz]; omega⟩
    · intro b hb
      rw [hsz]
      rcases hb with hb | hb
      · have := h6.lt b hb; omega
      · rw [hsz] at hb; exact hb.2
  · exact ((below_only (hb1.trans (hb2.mono hs1))).grown hg (fun c e => .inr (hP c e).1)).set _ _ (.inr h6.dg)
end Go.Proofs.Ytdkppgmhhijkgaa

namespace Go.Proofs.Ytdkppgmhhijkgaa
open Go.RowKit
set_option linter.unusedVariables false
set_option maxRecDepth 100000

def MakeOut (w : World) (D : Nat → Prop) (g : Nat) (L : List (Option Nd)) (F : List Nat) (k : Nat) (e : Ending) (w' : World) : Prop := e = .returned (.int .i64 k) ∧ Turn w D g L F w'

theorem Try.infoPlace : (Try.prog.info? 113).map (fun i => (i.zero, i.size, i.bytes)) = some (some (.agg #[.bool false, .slice none 0 0, .slice none 0 0, .slice none 0 0, .int .i64 0, .bool false]), 6, 96) := by kernel_rfl

theorem six_cells {w : World} {x0 x1 x2 x3 x4 x5 : Value} {T : TypeId} {N : Nat} (h : w.heap.size = N) : ∀ j u, [x0, x1, x2, x3, x4, x5][j]? = some u → (w.alloc (.cells #[x0, x1, x2, x3, x4, x5] T)).cell? ((⟨N, 0, none⟩ : Addr).add j) = some u := by
  subst h
  intro j u hu
  rcases j with _ | _ | _ | _ | _ | _ | j
  all_goals first | (simp at hu; done) | (simp at hu; subst hu; simp [Addr.add])

theorem six_one (x : Nd) (h : Nh) : ∀ u ∈ [Value.bool x.leaf, .slice h.A h.n h.c, .slice h.B h.m h.d, .slice h.K h.k h.e, .int .i64 x.next, .bool true], u.oneCell' = true := by
  intro u hu
  simp at hu
  rcases hu with rfl | rfl | rfl | rfl | rfl | rfl <;> rfl

set_option maxRecDepth 100000 in
set_option maxHeartbeats 4000000 in
theorem make_new {w : World} {D : Nat → Prop} {g : Nat} {L : List (Option Nd)} (h : Ar w D g L []) (hN : L.length ≤ 10000) {hh : Nh} {x : Nd} (hr : NdR w hh x) (hs : SmallN x) :
    Calls Try.prog 45 #[.pointer (some ⟨g, 0, none⟩), ndV hh x] w (MakeOut w D g (L ++ [some x]) [] L.length) := by
  obtain ⟨C, P, Q, pc, qc, xs, h⟩ := h
  have hgl : g < w.heap.size := h.2.2.2.2.2.lt g h.2.2.2.2.2.dg
  have h' := h.keep (agree_alloc w (.cells #[.bool x.leaf, .slice hh.A hh.n hh.c, .slice hh.B hh.m hh.d, .slice hh.K hh.k hh.e, .int .i64 x.next] 72))
  have hr' := hr.alloc (.cells #[.bool x.leaf, .slice hh.A hh.n hh.c, .slice hh.B hh.m hh.d, .slice hh.K hh.k hh.e, .int .i64 x.next] 72)
  obtain ⟨c0, c1, f0, f1⟩ := pair_cells h'.1
  have HW := Lib.hid (show ∃ W, W = w.alloc (.cells #[.bool x.leaf, .slice hh.A hh.n hh.c, .slice hh.B hh.m hh.d, .slice hh.K hh.k hh.e, .int .i64 x.next] 72) ∧ Below w.heap.size w W ∧ NdR W hh x ∧ W.heap.size = w.heap.size + 1 ∧ W.heap[w.heap.size]? = some (.cells #[.bool x.leaf, .slice hh.A hh.n hh.c, .slice hh.B hh.m hh.d, .slice hh.K hh.k hh.e, .int .i64 x.next] 72 (0, 0)) from
    ⟨_, rfl, (Below.refl _ _).alloc (Nat.le_refl _) _, hr', by simp, heap_alloc_new w _⟩)
  have hPg : some g ≠ (Value.slice P L.length pc).ownBlock := fun e => by
    cases P with
    | none => cases e
    | some a => injection e with e; exact (h.2.2.2.2.2.p a rfl).2.2 e.symm
  have HO := Lib.hid h.2.1
  have H := Lib.hid h
  have HS := Lib.hid hs
  have hPw : some w.heap.size ≠ (Value.slice P L.length pc).ownBlock := fun e => by
    cases P with
    | none => cases e
    | some a => injection e with e; have := h.2.2.2.2.2.lt _ (h.2.2.2.2.2.p a rfl).1; omega
  have HPG := Lib.hid (And.intro hPg hPw)
  obtain ⟨i0, hi, hz0, hz1, hz2⟩ := info_parts Try.infoPlace
  have HI := Lib.hid hi
  have HZ := Lib.hid (And.intro hz0 (And.intro hz1 hz2))
  simp only [List.length_nil] at c1
  generalize hn : L.length = n at c0 hN
  have HNL := Lib.hid hn
  clear h h' hr hr' hs hi hz0 hz1 hz2 hn hPg hPw
  go_enter Try.func45, Try.ntmps45
  go_wp2
  obtain ⟨W, hW, hWB, hWr, hWs, hWh⟩ := HW.out
  rw [← hW] at c0 c1 f0 f1 ⊢
  obtain ⟨b0, b1, b2, b3, b4, -⟩ := five hWh
  have HWB := Lib.hid hWB
  have HWS := Lib.hid hWs
  have D0 := Lib.hid (apart_any (w := W.drew) (show NdR W.drew hh x from hWr) HS.out)
  have K0 := Lib.hid (And.intro c0 f0)
  have KB := Lib.hid (And.intro b0 (And.intro b1 (And.intro b2 (And.intro b3 b4))))
  clear hW HW hWB hWr hWs hWh c1 f0 f1
  have hl1 : w.heap.size < W.heap.size := by have := HWS.out; omega
  have z1 : ¬ (g = w.heap.size) := by omega
  have z2 : ¬ (w.heap.size = g) := by omega
  go_region_law (first
      | (go_simp
         go_at_call 63
         (with_reducible refine D0.out.mono ?_)
         rintro e w3 ⟨h3, rfl, on3, hb3⟩
         have hb3 := undrew hb3
         have hl3 := hb3.size
         have z3 : g < w3.heap.size := by omega
         have c0 := (hb3.cell (p := ⟨g, 0, none⟩) (Nat.lt_trans hgl hl1)).trans K0.out.1
         have f0 := (hb3.frozen (p := ⟨g, 0, none⟩) (Nat.lt_trans hgl hl1)).trans K0.out.2
         have b0 := (hb3.cell (p := ⟨w.heap.size, 0, none⟩) hl1).trans KB.out.1
         have b1 := (hb3.cell (p := ⟨w.heap.size, 1, none⟩) hl1).trans KB.out.2.1
         have b2 := (hb3.cell (p := ⟨w.heap.size, 2, none⟩) hl1).trans KB.out.2.2.1
         have b3 := (hb3.cell (p := ⟨w.heap.size, 3, none⟩) hl1).trans KB.out.2.2.2.1
         have b4 := (hb3.cell (p := ⟨w.heap.size, 4, none⟩) hl1).trans KB.out.2.2.2.2
         have HON := Lib.hid on3
         have HB3 := Lib.hid hb3
         have HO3 := Lib.hid ((own_keep HO.out (HWB.out.trans (hb3.mono HWB.out.size))).alloc (.cells #[.bool x.leaf, .slice h3.A h3.n h3.c, .slice h3.B h3.m h3.d, .slice h3.K h3.k h3.e, .int .i64 x.next, .bool true] 113))
         have ONE := Lib.hid (six_one x h3)
         clear on3 hb3
         go_wp2_with fail)
      | ((refine step_append_lies _ (by rfl) _ _ 107 (by rfl) 0 113 i0 (.agg #[.bool false, .slice none 0 0, .slice none 0 0, .slice none 0 0, .int .i64 0, .bool false]) 6 96 Try.underlying107 HI.out HZ.out.1 HZ.out.2.1 HZ.out.2.2 (by rfl) (by decide) (.slice P L.length pc) L.length xs (by rw [HNL.out]; rfl) HO3.out ⟨w3.heap.size, 0, none⟩ 1 1 [.bool x.leaf, .slice h3.A h3.n h3.c, .slice h3.B h3.m h3.d, .slice h3.K h3.k h3.e, .int .i64 x.next, .bool true] (by rfl) (by rfl) (six_cells rfl) ONE.out (by omega) (by have := HNL.out; unfold maxLen; omega) (by have := HNL.out; omega) (Nat.zero_le _) (w3.heap.size + 1) (by simp) ?_
          intro p' cap w4 hown4 hgrow4 hat4 hlt4
          have far := fun (b o : Nat) (hb : b < w3.heap.size) (hne : some b ≠ (Value.slice P L.length pc).ownBlock) => (hgrow4.cell_far ⟨b, o, none⟩ (by simp; omega) hne).trans (((Below.refl w3.heap.size w3).alloc (Nat.le_refl _) (.cells #[.bool x.leaf, .slice h3.A h3.n h3.c, .slice h3.B h3.m h3.d, .slice h3.K h3.k h3.e, .int .i64 x.next, .bool true] 113)).cell (p := ⟨b, o, none⟩) hb)
          have f0 := ((hgrow4.frozen_far ⟨g, 0, none⟩ (by simp; omega) HPG.out.1).trans (((Below.refl w3.heap.size w3).alloc (Nat.le_refl _) (.cells #[.bool x.leaf, .slice h3.A h3.n h3.c, .slice h3.B h3.m h3.d, .slice h3.K h3.k h3.e, .int .i64 x.next, .bool true] 113)).frozen (p := ⟨g, 0, none⟩) (by show g < w3.heap.size; omega))).trans f0
          have c0 := (far g 0 (by omega) HPG.out.1).trans c0
          have b0 := (far w.heap.size 0 (by omega) HPG.out.2).trans b0
          have b1 := (far w.heap.size 1 (by omega) HPG.out.2).trans b1
          have b2 := (far w.heap.size 2 (by omega) HPG.out.2).trans b2
          have b3 := (far w.heap.size 3 (by omega) HPG.out.2).trans b3
          have b4 := (far w.heap.size 4 (by omega) HPG.out.2).trans b4
          have HG4 := Lib.hid (And.intro hown4 (And.intro hgrow4 (And.intro hat4 hlt4)))
          clear far hown4 hgrow4 hat4 hlt4)))
  all_goals
    have HT := Lib.hid (H.out.new1 (w1 := w3) (w2 := w3.alloc (.cells #[.bool x.leaf, .slice h3.A h3.n h3.c, .slice h3.B h3.m h3.d, .slice h3.K h3.k h3.e, .int .i64 x.next, .bool true] 113)) (w3 := w4) (p' := p') (pc' := cap) (h2 := h3) (x := x) (HWB.out.trans (HB3.out.mono HWB.out.size)) ((Below.refl _ _).alloc (Nat.le_refl _) _) HS.out
      (HON.out.mono (fun b hb => by have hb' : W.heap.size ≤ b := hb; omega)) HG4.out.1 HG4.out.2.1 (HG4.out.2.2.1.imp id (fun e => by rw [e]; exact Nat.le_succ _)) HG4.out.2.2.2)
    have hLb : L.length ≤ 10000 := by rw [HNL.out]; exact hN
    clear HG4 HON HB3 HO3 ONE b0 b1 b2 b3 b4 KB K0 D0 HWB HWS HPG HI HZ H HO HS z1 z2
    go_wp2
    go_ret
    exact ⟨ret_int (by have := HNL.out; omega), HT.out⟩
end Go.Proofs.Ytdkppgmhhijkgaa
