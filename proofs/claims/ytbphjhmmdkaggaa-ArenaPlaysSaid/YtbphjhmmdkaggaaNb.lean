/- What lies in which blocks; slices of keys and of numbers as lists; nodes; contracts of slices.Clone. Condition: what came in can be read. -/
import Derived.Test.YtbphjhmmdkaggaaNa
namespace Go.Proofs.Ytbphjhmmdkaggaa
open Go.RowKit
set_option linter.unusedVariables false

/-- Of the blocks that C names nothing has turned. -/
def Agree (C : Nat → Prop) (w w' : World) : Prop := w.heap.size ≤ w'.heap.size ∧ ∀ b, C b → b < w.heap.size → w'.heap[b]? = w.heap[b]?
theorem Agree.refl (C : Nat → Prop) (w : World) : Agree C w w := ⟨Nat.le_refl _, fun _ _ _ => rfl⟩
theorem Agree.trans {C : Nat → Prop} {a b c : World} (h : Agree C a b) (k : Agree C b c) : Agree C a c :=
  ⟨Nat.le_trans h.1 k.1, fun i hi hl => (k.2 i hi (Nat.lt_of_lt_of_le hl h.1)).trans (h.2 i hi hl)⟩
theorem Agree.mono {C C' : Nat → Prop} {a b : World} (h : Agree C a b) (hC : ∀ i, C' i → C i) : Agree C' a b := ⟨h.1, fun i hi hl => h.2 i (hC i hi) hl⟩
theorem below_agree {C : Nat → Prop} {B : Nat} {w w' : World} (h : Below B w w') (hC : ∀ b, C b → b < w.heap.size → b < B) : Agree C w w' := ⟨h.size, fun b hb hl => h.block b (hC b hb hl)⟩
theorem below_all {C : Nat → Prop} {w w' : World} (h : Below w.heap.size w w') : Agree C w w' := below_agree h fun _ _ hl => hl
theorem agree_set {C : Nat → Prop} (w : World) (a : Addr) (u : Value) (h : ¬ C a.block) : Agree C w (w.setCell a u) :=
  ⟨by simp [World.setCell], fun b hb _ => Below.heap_setCell _ _ _ _ (fun e => h (e ▸ hb))⟩
theorem agree_alloc {C : Nat → Prop} (w : World) (o : Obj) : Agree C w (w.alloc o) := ⟨by simp, fun b _ hl => Below.heap_alloc _ _ _ hl⟩
theorem agree_grown {C : Nat → Prop} {w w' : World} {row : Option Nat} (h : w.grownBy w' row) (hr : ∀ k, row = some k → ¬ C k) : Agree C w w' :=
  ⟨h.size, fun b hb hl => h.block b hl (fun e => hr b e.symm hb)⟩

/-- What holds whatever happens outside the blocks that C names. -/
def On (C : Nat → Prop) (w : World) (P : World → Prop) : Prop := ∀ w', Agree C w w' → P w'
theorem On.here {C : Nat → Prop} {w : World} {P : World → Prop} (h : On C w P) : P w := h w (Agree.refl _ _)
theorem On.keep {C : Nat → Prop} {w w' : World} {P : World → Prop} (h : On C w P) (ha : Agree C w w') : On C w' P := fun v hv => h v (ha.trans hv)
theorem On.mono {C C' : Nat → Prop} {w : World} {P : World → Prop} (h : On C w P) (hC : ∀ i, C i → C' i) : On C' w P := fun v hv => h v (hv.mono hC)
theorem On.now {C : Nat → Prop} {w : World} {P : World → Prop} (h : On C w P) : On (fun b => C b ∧ b < w.heap.size) w P := fun v hv => h v ⟨hv.1, fun b hb hl => hv.2 b ⟨hb, hl⟩ hl⟩
theorem On.imp {C : Nat → Prop} {w : World} {P Q : World → Prop} (h : On C w P) (hPQ : ∀ w, P w → Q w) : On C w Q := fun v hv => hPQ v (h v hv)

theorem byt_on {C : Nat → Prop} {w : World} {A : Option Addr} {n : Nat} {l : List UInt8} (h : Byt w A n l) (hC : ∀ a, 0 < n → A = some a → C a.block) : On C w (Byt · A n l) := fun w' ⟨hs, hb⟩ =>
  ⟨h.1, fun h0 => by
    obtain ⟨a, e, hl, hj⟩ := h.2 h0
    refine ⟨a, e, by omega, fun j hj' => ?_⟩
    rw [← hj j hj']
    exact World.cell?_of_block (w := w) (a := a.add j) (by rw [add_block]; exact hb a.block (hC a h0 e) hl)⟩
theorem byt_old {w : World} {A : Option Addr} {n : Nat} {l : List UInt8} (h : Byt w A n l) : On (· < w.heap.size) w (Byt · A n l) :=
  byt_on h fun a h0 e => by
    obtain ⟨a', e', hl, _⟩ := h.2 h0
    rw [e] at e'
    injection e' with e'
    subst e'
    exact hl
theorem byt_new {w : World} {N : Nat} {A : Option Addr} {n : Nat} {l : List UInt8} (h : Byt w A n l) (hN : New N A) : On (N ≤ ·) w (Byt · A n l) := byt_on h fun a _ e => hN a e

theorem own_agree {C : Nat → Prop} {w w' : World} {base n : Nat} {e : TypeId} {s : Nat} {v : Value} {xs : List Value} (h : w.ownsRow base e s v n xs) (ha : Agree C w w') (hC : ∀ k, v.ownBlock = some k → C k) : w'.ownsRow base e s v n xs := by
  have hlt := h.lt
  obtain ⟨h1, h2⟩ := h
  refine ⟨h1, ?_⟩
  rcases h2 with h2 | ⟨g, cap, cur, rfl, hb, hg, r⟩
  · exact .inl h2
  · exact .inr ⟨g, cap, cur, rfl, hb, by rw [ha.2 g (hC g rfl) (hlt g rfl).2]; exact hg, r⟩

/-- A slice of keys that reads as the list L. -/
def kat (L : List (List UInt8)) (j : Nat) : List UInt8 := L.getD j []
def Kys (w : World) (A : Option Addr) (n c : Nat) (L : List (List UInt8)) : Prop :=
  L.length = n ∧ n ≤ c ∧ c ≤ maxLen ∧ (A = none → c = 0) ∧ (0 < n → ∃ b o, A = some ⟨b, o, none⟩ ∧ b < w.heap.size ∧ ∀ j, j < n → ∃ B m d, w.cell? ⟨b, o + j, none⟩ = some (.slice B m d) ∧ Byt w B m (kat L j))
/-- A slice of numbers that reads as the list L. -/
def iat (L : List Int) (j : Nat) : Int := L.getD j 0
def Ins (w : World) (A : Option Addr) (n c : Nat) (L : List Int) : Prop :=
  L.length = n ∧ n ≤ c ∧ c ≤ maxLen ∧ (A = none → c = 0) ∧ (0 < n → ∃ b o, A = some ⟨b, o, none⟩ ∧ b < w.heap.size ∧ ∀ j, j < n → w.cell? ⟨b, o + j, none⟩ = some (.int .i64 (iat L j)))
theorem kat_eq {L : List (List UInt8)} {i : Nat} (h : i < L.length) : kat L i = L[i] := by unfold kat; simp [h]
theorem iat_eq {L : List Int} {i : Nat} (h : i < L.length) : iat L i = L[i] := by unfold iat; simp [h]
theorem kys_nil (w : World) : Kys w none 0 0 [] := ⟨rfl, Nat.le_refl _, Nat.zero_le _, fun _ => rfl, fun h => absurd h (by omega)⟩
theorem ins_nil (w : World) : Ins w none 0 0 [] := ⟨rfl, Nat.le_refl _, Nat.zero_le _, fun _ => rfl, fun h => absurd h (by omega)⟩
theorem Kys.keep {w w' : World} {A : Option Addr} {n c : Nat} {L : List (List UInt8)} (h : Kys w A n c L) (hs : w.heap.size ≤ w'.heap.size) (hc : ∀ q : Addr, q.block < w.heap.size → w'.cell? q = w.cell? q) : Kys w' A n c L := by
  obtain ⟨h1, h2, h3, h4, h5⟩ := h
  refine ⟨h1, h2, h3, h4, fun h0 => ?_⟩
  obtain ⟨b, o, e, hb, hj⟩ := h5 h0
  refine ⟨b, o, e, by omega, fun j hl => ?_⟩
  obtain ⟨B, m, d, e1, e2⟩ := hj j hl
  exact ⟨B, m, d, (hc ⟨b, o + j, none⟩ hb).trans e1, e2.keep hs hc⟩
theorem Ins.keep {w w' : World} {A : Option Addr} {n c : Nat} {L : List Int} (h : Ins w A n c L) (hs : w.heap.size ≤ w'.heap.size) (hc : ∀ q : Addr, q.block < w.heap.size → w'.cell? q = w.cell? q) : Ins w' A n c L := by
  obtain ⟨h1, h2, h3, h4, h5⟩ := h
  refine ⟨h1, h2, h3, h4, fun h0 => ?_⟩
  obtain ⟨b, o, e, hb, hj⟩ := h5 h0
  exact ⟨b, o, e, by omega, fun j hl => (hc ⟨b, o + j, none⟩ hb).trans (hj j hl)⟩
theorem Kys.below {w w' : World} {A : Option Addr} {n c : Nat} {L : List (List UInt8)} (h : Kys w A n c L) (hb : Below w.heap.size w w') : Kys w' A n c L := h.keep hb.size fun _ hp => hb.cell hp
theorem Ins.below {w w' : World} {A : Option Addr} {n c : Nat} {L : List Int} (h : Ins w A n c L) (hb : Below w.heap.size w w') : Ins w' A n c L := h.keep hb.size fun _ hp => hb.cell hp
theorem Kys.at_ {w : World} {A : Option Addr} {n c j : Nat} {L : List (List UInt8)} (h : Kys w A n c L) (hj : j < n) :
    ∃ b o B m d, A = some ⟨b, o, none⟩ ∧ b < w.heap.size ∧ w.cell? ⟨b, o + j, none⟩ = some (.slice B m d) ∧ Byt w B m (kat L j) := by
  obtain ⟨b, o, e, hb, hp⟩ := h.2.2.2.2 (by omega)
  obtain ⟨B, m, d, e1, e2⟩ := hp j hj
  exact ⟨b, o, B, m, d, e, hb, e1, e2⟩
theorem Ins.at_ {w : World} {A : Option Addr} {n c j : Nat} {L : List Int} (h : Ins w A n c L) (hj : j < n) :
    ∃ b o, A = some ⟨b, o, none⟩ ∧ b < w.heap.size ∧ w.cell? ⟨b, o + j, none⟩ = some (.int .i64 (iat L j)) := by
  obtain ⟨b, o, e, hb, hp⟩ := h.2.2.2.2 (by omega)
  exact ⟨b, o, e, hb, hp j hj⟩

/-- A node. -/
structure Nd where
  leaf : Bool
  pairs : List Pr
  keys : List (List UInt8)
  kids : List Int
  next : Int
/-- Where its three slices lie. -/
structure Nh where
  A : Option Addr
  n : Nat
  c : Nat
  B : Option Addr
  m : Nat
  d : Nat
  K : Option Addr
  k : Nat
  e : Nat
def NdR (w : World) (h : Nh) (x : Nd) : Prop := Prs w h.A h.n h.c x.pairs ∧ Kys w h.B h.m h.d x.keys ∧ Ins w h.K h.k h.e x.kids
theorem NdR.below {w w' : World} {h : Nh} {x : Nd} (hr : NdR w h x) (hb : Below w.heap.size w w') : NdR w' h x := ⟨hr.1.below hb, hr.2.1.below hb, hr.2.2.below hb⟩
theorem NdR.alloc {w : World} {h : Nh} {x : Nd} (hr : NdR w h x) (o : Obj) : NdR (w.alloc o) h x := hr.below ((Below.refl _ _).alloc (Nat.le_refl _) _)
def nd0 : Nd := ⟨false, [], [], [], 0⟩
def nh0 : Nh := ⟨none, 0, 0, none, 0, 0, none, 0, 0⟩
theorem nd0_on (C : Nat → Prop) (w : World) : On C w (NdR · nh0 nd0) := fun w' _ => ⟨prs_nil w', kys_nil w', ins_nil w'⟩

/-- No list of it is long. -/
def SmallN (x : Nd) : Prop := x.pairs.length ≤ 1000 ∧ Small x.pairs ∧ x.keys.length ≤ 1000 ∧ (∀ j, j < x.keys.length → (kat x.keys j).length ≤ 1000) ∧ x.kids.length ≤ 1000

theorem Try.infoKey : (Try.prog.info? 60).map (fun i => (i.zero, i.size, i.bytes)) = some (some (.slice none 0 0), 1, 24) := by kernel_rfl
theorem Try.infoInt : (Try.prog.info? 3).map (fun i => (i.zero, i.size, i.bytes)) = some (some (.int .i64 0), 1, 8) := by kernel_rfl

theorem Kys.cells {w : World} {A : Option Addr} {n c : Nat} {L : List (List UInt8)} (h : Kys w A n c L) :
    ∃ xs : List Value, xs.length = n ∧ (∀ j, j < n → ∃ B m d, xs[j]? = some (.slice B m d) ∧ Byt w B m (kat L j)) ∧ ∀ a, A = some a → ∀ j u, xs[j]? = some u → w.cell? (a.add j) = some u := by
  obtain ⟨h1, h2, h3, h4, h5⟩ := h
  rcases Nat.eq_zero_or_pos n with h0 | h0
  · subst h0
    exact ⟨[], rfl, fun j hj => absurd hj (by omega), fun a _ j u hu => by simp at hu⟩
  · obtain ⟨b, o, rfl, hb, hj⟩ := h5 h0
    refine ⟨(List.range n).map fun j => (w.cell? ⟨b, o + j, none⟩).getD (.bool false), by simp, fun j hl => ?_, fun a e j u hu => ?_⟩
    · obtain ⟨B, m, d, e1, e2⟩ := hj j hl
      refine ⟨B, m, d, ?_, e2⟩
      rw [List.getElem?_map, List.getElem?_range hl]
      simp [e1]
    · injection e with e
      subst e
      rw [List.getElem?_map] at hu
      obtain ⟨i, hi, rfl⟩ := Option.map_eq_some_iff.1 hu
      obtain ⟨hi1, hi2⟩ := List.getElem?_eq_some_iff.1 hi
      simp at hi1 hi2
      subst hi2
      rw [add_lit]
      obtain ⟨B, m, d, e1, _⟩ := hj j (by omega)
      rw [e1]
      rfl
def intV (z : Int) : Value := .int .i64 z
theorem Ins.cells {w : World} {A : Option Addr} {n c : Nat} {L : List Int} (h : Ins w A n c L) :
    (L.map intV).length = n ∧ ∀ a, A = some a → ∀ j u, (L.map intV)[j]? = some u → w.cell? (a.add j) = some u := by
  obtain ⟨h1, h2, h3, h4, h5⟩ := h
  refine ⟨by simp [h1], fun a e j u hu => ?_⟩
  subst e
  rw [List.getElem?_map] at hu
  obtain ⟨z, hz, rfl⟩ := Option.map_eq_some_iff.1 hu
  obtain ⟨hj, rfl⟩ := List.getElem?_eq_some_iff.1 hz
  obtain ⟨b, o, e, _, hc⟩ := h5 (by omega)
  injection e with e
  subst e
  rw [add_lit, hc j (by omega), iat_eq hj]
  rfl

/-- What slices.Clone leaves: the same cells, as a row of one's own. -/
def ClonedR (w : World) (E : TypeId) (s n : Nat) (xs : List Value) (e : Ending) (w' : World) : Prop := ∃ v, e = .returned v ∧ w'.ownsRow w.heap.size E s v n xs ∧ Below w.heap.size w w'

theorem own_new {w' : World} {N : Nat} {E : TypeId} {s n : Nat} {v : Value} {xs : List Value} (h : w'.ownsRow N E s v n xs) : ∃ A c, v = .slice A n c ∧ New N A ∧ n ≤ c ∧ c ≤ maxLen ∧ (A = none → n = 0 ∧ c = 0) ∧ (∀ a, A = some a → a.off = 0 ∧ a = ⟨a.block, 0, none⟩) := by
  rcases h.2 with ⟨rfl, rfl⟩ | ⟨g, cap, cur, rfl, hB, hh, h1, h2, _⟩
  · exact ⟨none, 0, rfl, (fun a e => by cases e), Nat.le_refl _, Nat.zero_le _, fun _ => ⟨rfl, rfl⟩, fun a e => by cases e⟩
  · exact ⟨_, _, rfl, (fun a e => by injection e with e; subst e; exact hB), h1, h2, (fun e => by cases e), fun a e => by injection e with e; subst e; exact ⟨rfl, rfl⟩⟩

set_option maxHeartbeats 1000000 in
theorem clonep_any {w : World} {A : Option Addr} {n c : Nat} {xs : List Value} (hl : xs.length = n * 2) (hn : n ≤ 1000) (hA : A = none → n = 0) (hc : ∀ a, A = some a → ∀ j u, xs[j]? = some u → w.cell? (a.add j) = some u) (h1 : ∀ u ∈ xs, u.oneCell' = true) :
    Calls Try.prog 24 #[.slice A n c] w (ClonedR w 66 2 n xs) := by
  obtain ⟨i0, hi, hz0, hz1, hz2⟩ := info_parts Try.infoPair
  have hq : ∀ (w : World) (a : Option Addr) (n c n' c' : Nat), (binOp .eql 32 (.slice a n c) (.slice none n' c')).run Try.prog w = .ok (.bool a.isNone) w := fun w a n c n' c' => Lib.run_eql_slice_nil w _ _ a n c n' c' Try.underlying32
  have HL := Lib.hid hl
  have HC := Lib.hid hc
  have H1 := Lib.hid h1
  clear hl hc h1
  cases A with
  | none =>
    obtain rfl : n = 0 := hA rfl
    obtain rfl : xs = [] := List.eq_nil_of_length_eq_zero (by rw [HL.out])
    go_enter Try.func24, Try.ntmps24
    go_wp2
    go_ret
    exact ⟨_, rfl, World.ownsRow_nil _ _ _ _, Below.refl _ _⟩
  | some a =>
    clear hA
    go_enter Try.func24, Try.ntmps24
    go_wp2_with (at_builtin; refine wpList_append_own _ rfl _ _ 32 rfl w.heap.size 66 i0 (.agg #[.slice none 0 0, .slice none 0 0]) 2 48 Try.underlying32 hi hz0 hz1 hz2 rfl (by decide) _ _ _ rfl (World.ownsRow_made w #[] 0 (Nat.le_refl _) (Nat.zero_le _) rfl) a n c xs rfl HL.out ?q2 H1.out ?q4 ?q5 ?q6 ?_)
    case q2 => exact fun j u hj => (((Below.refl _ w).alloc (Nat.le_refl _) _).cell (World.block_lt_of_cell? w _ (HC.out a rfl j u hj))).trans (HC.out a rfl j u hj)
    case q4 => unfold maxLen; omega
    case q5 => omega
    case q6 => simp
    intro v' w1 hown hgrow hnil
    clear hnil
    have hown := (by simpa using hown : w1.ownsRow w.heap.size _ _ v' n xs)
    go_wp2
    go_ret
    exact ⟨_, rfl, hown, ((Below.refl _ w).alloc (Nat.le_refl _) _).grown hgrow (by simp) (by intro k hk; simp [Value.ownBlock] at hk; omega)⟩

set_option maxHeartbeats 1000000 in
theorem clonek_any {w : World} {A : Option Addr} {n c : Nat} {xs : List Value} (hl : xs.length = n * 1) (hn : n ≤ 1000) (hA : A = none → n = 0) (hc : ∀ a, A = some a → ∀ j u, xs[j]? = some u → w.cell? (a.add j) = some u) (h1 : ∀ u ∈ xs, u.oneCell' = true) :
    Calls Try.prog 26 #[.slice A n c] w (ClonedR w 60 1 n xs) := by
  obtain ⟨i0, hi, hz0, hz1, hz2⟩ := info_parts Try.infoKey
  have hq : ∀ (w : World) (a : Option Addr) (n c n' c' : Nat), (binOp .eql 33 (.slice a n c) (.slice none n' c')).run Try.prog w = .ok (.bool a.isNone) w := fun w a n c n' c' => Lib.run_eql_slice_nil w _ _ a n c n' c' Try.underlying33
  have HL := Lib.hid hl
  have HC := Lib.hid hc
  have H1 := Lib.hid h1
  clear hl hc h1
  cases A with
  | none =>
    obtain rfl : n = 0 := hA rfl
    obtain rfl : xs = [] := List.eq_nil_of_length_eq_zero (by rw [HL.out])
    go_enter Try.func26, Try.ntmps26
    go_wp2
    go_ret
    exact ⟨_, rfl, World.ownsRow_nil _ _ _ _, Below.refl _ _⟩
  | some a =>
    clear hA
    go_enter Try.func26, Try.ntmps26
    go_wp2_with (at_builtin; refine wpList_append_own _ rfl _ _ 33 rfl w.heap.size 60 i0 (.slice none 0 0) 1 24 Try.underlying33 hi hz0 hz1 hz2 rfl (by decide) _ _ _ rfl (World.ownsRow_made w #[] 0 (Nat.le_refl _) (Nat.zero_le _) rfl) a n c xs rfl HL.out ?q2 H1.out ?q4 ?q5 ?q6 ?_)
    case q2 => exact fun j u hj => (((Below.refl _ w).alloc (Nat.le_refl _) _).cell (World.block_lt_of_cell? w _ (HC.out a rfl j u hj))).trans (HC.out a rfl j u hj)
    case q4 => unfold maxLen; omega
    case q5 => omega
    case q6 => simp
    intro v' w1 hown hgrow hnil
    clear hnil
    have hown := (by simpa using hown : w1.ownsRow w.heap.size _ _ v' n xs)
    go_wp2
    go_ret
    exact ⟨_, rfl, hown, ((Below.refl _ w).alloc (Nat.le_refl _) _).grown hgrow (by simp) (by intro k hk; simp [Value.ownBlock] at hk; omega)⟩

set_option maxHeartbeats 1000000 in
theorem clonei_any {w : World} {A : Option Addr} {n c : Nat} {xs : List Value} (hl : xs.length = n * 1) (hn : n ≤ 1000) (hA : A = none → n = 0) (hc : ∀ a, A = some a → ∀ j u, xs[j]? = some u → w.cell? (a.add j) = some u) (h1 : ∀ u ∈ xs, u.oneCell' = true) :
    Calls Try.prog 27 #[.slice A n c] w (ClonedR w 3 1 n xs) := by
  obtain ⟨i0, hi, hz0, hz1, hz2⟩ := info_parts Try.infoInt
  have hq : ∀ (w : World) (a : Option Addr) (n c n' c' : Nat), (binOp .eql 29 (.slice a n c) (.slice none n' c')).run Try.prog w = .ok (.bool a.isNone) w := fun w a n c n' c' => Lib.run_eql_slice_nil w _ _ a n c n' c' Try.underlying29
  have HL := Lib.hid hl
  have HC := Lib.hid hc
  have H1 := Lib.hid h1
  clear hl hc h1
  cases A with
  | none =>
    obtain rfl : n = 0 := hA rfl
    obtain rfl : xs = [] := List.eq_nil_of_length_eq_zero (by rw [HL.out])
    go_enter Try.func27, Try.ntmps27
    go_wp2
    go_ret
    exact ⟨_, rfl, World.ownsRow_nil _ _ _ _, Below.refl _ _⟩
  | some a =>
    clear hA
    go_enter Try.func27, Try.ntmps27
    go_wp2_with (at_builtin; refine wpList_append_own _ rfl _ _ 29 rfl w.heap.size 3 i0 (.int .i64 0) 1 8 Try.underlying29 hi hz0 hz1 hz2 rfl (by decide) _ _ _ rfl (World.ownsRow_made w #[] 0 (Nat.le_refl _) (Nat.zero_le _) rfl) a n c xs rfl HL.out ?q2 H1.out ?q4 ?q5 ?q6 ?_)
    case q2 => exact fun j u hj => (((Below.refl _ w).alloc (Nat.le_refl _) _).cell (World.block_lt_of_cell? w _ (HC.out a rfl j u hj))).trans (HC.out a rfl j u hj)
    case q4 => unfold maxLen; omega
    case q5 => omega
    case q6 => simp
    intro v' w1 hown hgrow hnil
    clear hnil
    have hown := (by simpa using hown : w1.ownsRow w.heap.size _ _ v' n xs)
    go_wp2
    go_ret
    exact ⟨_, rfl, hown, ((Below.refl _ w).alloc (Nat.le_refl _) _).grown hgrow (by simp) (by intro k hk; simp [Value.ownBlock] at hk; omega)⟩
end Go.Proofs.Ytbphjhmmdkaggaa
