/- JournalPlays: both journals in memory side by side, a deed's box, the law's pick and same. Condition: at most 1000 requests that can be read. A list of deeds that came in. No condition. -/
import Derived.Test.YthcchaglloggjaaG2
import Derived.Test.YthcchaglloggjaaJl
import Derived.StillTailTactics
import Derived.Test.YthcchaglloggjaaJn
namespace Go.Proofs.Ythcchaglloggjaa
open Go.RowKit
set_option linter.unusedVariables false
set_option maxRecDepth 100000

/-- What pick takes of a raw number, modulo m. -/
def pk (c m : Int) : Int := (if c < 0 then -(c + 1) else c) % m
theorem pk_lt (c m : Int) (hm : 0 < m) : 0 ≤ pk c m ∧ pk c m < m := by
  unfold pk
  exact ⟨Int.emod_nonneg _ (by omega), Int.emod_lt_of_pos _ hm⟩
set_option maxHeartbeats 400000 in
theorem pick_any (c m r : Int) (w : World) (h1 : -9223372036854775808 ≤ c) (h2 : c ≤ 9223372036854775807) (hm : 1 ≤ m) (hm2 : m ≤ 1000) (hr : pk c m = r) :
    Calls Try.prog 8 #[.int .i64 c, .int .i64 m] w fun e w' => e = .returned (.int .i64 r) ∧ w = w' := by
  subst hr
  by_cases hc : c < 0
  · have hv : -(c + 1).tmod m = pk c m := by
      unfold pk
      rw [if_pos hc, ← Int.neg_tmod, Int.tmod_eq_emod_of_nonneg (by omega)]
    have HV := Lib.hid hv
    clear hv
    go_enter Try.func8, Try.ntmps8
    go_wp2
    go_ret
    exact ⟨ret_int HV.out, rfl⟩
  · have hv : c % m = pk c m := by
      unfold pk
      rw [if_neg hc]
    have HV := Lib.hid hv
    clear hv
    go_enter Try.func8, Try.ntmps8
    go_wp2
    go_ret
    exact ⟨ret_int HV.out, rfl⟩

/-- Neither journal's own blocks. -/
def Fr (p q : Nat) (vt vr vl : Value) (b : Nat) : Prop := Jo p vt vr b ∧ Dq q vl b
/-- Both journals in memory; what the program's leads to lies off the document's, and off the block x0. -/
structure PM (w : World) (p q x0 : Nat) (vt vr vl : Value) (T : List Gr) (R : List Ry) (L : List It) (ap an : Nat) (wx : World) : Prop where
  jm : JM (fun b => Dq q vl b ∧ b ≠ x0) wx w.heap.size p vt vr T R
  dm : DM wx w.heap.size q vl L ap an
  apt : Dq q vl p ∧ (∀ b, vt.ownBlock = some b → Dq q vl b) ∧ (∀ b, vr.ownBlock = some b → Dq q vl b)
  below : Below w.heap.size w wx
  xl : x0 < wx.heap.size
theorem PM.jo {w wx : World} {p q x0 : Nat} {vt vr vl : Value} {T : List Gr} {R : List Ry} {L : List It} {ap an : Nat} (H : PM w p q x0 vt vr vl T R L ap an wx) : Jo p vt vr q ∧ ∀ b, vl.ownBlock = some b → Jo p vt vr b := by
  obtain ⟨a1, a2, a3⟩ := H.apt
  exact ⟨⟨fun e => a1.1 e.symm, fun b hb e => (a2 b hb).1 e.symm, fun b hb e => (a3 b hb).1 e.symm⟩, fun b hb => ⟨fun e => a1.2 b hb e.symm, fun k hk e => (a2 k hk).2 b hb e.symm, fun k hk e => (a3 k hk).2 b hb e.symm⟩⟩
theorem PM.new {w wx : World} {p q x0 : Nat} {vt vr vl : Value} {T : List Gr} {R : List Ry} {L : List It} {ap an : Nat} (H : PM w p q x0 vt vr vl T R L ap an wx) {b : Nat} (hb : wx.heap.size ≤ b) : Fr p q vt vr vl b := ⟨jo_new H.jm hb, H.dm.new hb⟩
theorem PM.low {w wx : World} {p q x0 : Nat} {vt vr vl : Value} {T : List Gr} {R : List Ry} {L : List It} {ap an : Nat} (H : PM w p q x0 vt vr vl T R L ap an wx) {b : Nat} (hb : b < w.heap.size) : Fr p q vt vr vl b := ⟨jo_low H.jm hb, H.dm.low hb⟩
theorem PM.cnew {w wx : World} {p q x0 : Nat} {vt vr vl : Value} {T : List Gr} {R : List Ry} {L : List It} {ap an : Nat} (H : PM w p q x0 vt vr vl T R L ap an wx) : ∀ b, wx.heap.size ≤ b → Dq q vl b ∧ b ≠ x0 := fun b hb => ⟨H.dm.new hb, by have := H.xl; omega⟩
theorem PM.more {w wx wy : World} {p q x0 : Nat} {vt vr vl : Value} {T : List Gr} {R : List Ry} {L : List It} {ap an : Nat} (H : PM w p q x0 vt vr vl T R L ap an wx) (hb : Below wx.heap.size wx wy) : PM w p q x0 vt vr vl T R L ap an wy := ⟨H.jm.below hb, H.dm.below hb, H.apt, H.below.trans (hb.mono H.below.size), Nat.lt_of_lt_of_le H.xl hb.size⟩
theorem PM.prog {w wx wy : World} {p q x0 : Nat} {vt vr vl vt' vr' : Value} {T T' : List Gr} {R R' : List Ry} {L : List It} {ap an : Nat} (H : PM w p q x0 vt vr vl T R L ap an wx) (hm : JM (fun b => Dq q vl b ∧ b ≠ x0) wy w.heap.size p vt' vr' T' R') (hk : Kp (Jo p vt vr) (Jo p vt' vr') wx wy) :
    PM w p q x0 vt' vr' vl T' R' L ap an wy ∧ Kp (Fr p q vt vr vl) (Fr p q vt' vr' vl) wx wy := by
  obtain ⟨j1, j2⟩ := H.jo
  have n1 : Jo p vt' vr' q := hk.next q H.dm.lt j1
  have n2 : ∀ b, vl.ownBlock = some b → Jo p vt' vr' b := fun b hb => hk.next b (H.dm.ltl b hb).2 (j2 b hb)
  exact ⟨⟨hm, H.dm.other hk j1 j2 (fun b hb => jo_low H.jm hb),
    ⟨⟨fun e => n1.1 e.symm, fun k hk e => (n2 k hk).1 e.symm⟩, fun b hb => ⟨fun e => n1.2.1 b hb e.symm, fun k hk e => (n2 k hk).2.1 b hb e.symm⟩, fun b hb => ⟨fun e => n1.2.2 b hb e.symm, fun k hk e => (n2 k hk).2.2 b hb e.symm⟩⟩,
    H.below.trans (hk.below (fun b hb => jo_low H.jm hb) H.below.size), Nat.lt_of_lt_of_le H.xl hk.size⟩,
    ⟨hk.os, hk.tape, hk.output, hk.size, fun k hl hp => hk.block k hl hp.1, fun k hl hp => ⟨hk.next k hl hp.1, hp.2⟩⟩⟩
theorem PM.doc {w wx wy : World} {p q x0 : Nat} {vt vr vl vl' : Value} {T : List Gr} {R : List Ry} {L L' : List It} {ap an ap' an' : Nat} (H : PM w p q x0 vt vr vl T R L ap an wx) (hm : DM wy w.heap.size q vl' L' ap' an') (hk : Kp (Dq q vl) (Dq q vl') wx wy) :
    PM w p q x0 vt vr vl' T R L' ap' an' wy ∧ Kp (Fr p q vt vr vl) (Fr p q vt vr vl') wx wy := by
  obtain ⟨a1, a2, a3⟩ := H.apt
  exact ⟨⟨H.jm.other hk a1 a2 a3 (fun b hb => hb.1) (fun b hb _ hn => ⟨hn, hb.2⟩), hm, ⟨hk.next p H.jm.lt a1, fun b hb => hk.next b (H.jm.ltt b hb).2 (a2 b hb), fun b hb => hk.next b (H.jm.ltr b hb).2 (a3 b hb)⟩,
    H.below.trans (hk.below (fun b hb => H.dm.low hb) H.below.size), Nat.lt_of_lt_of_le H.xl hk.size⟩,
    ⟨hk.os, hk.tape, hk.output, hk.size, fun k hl hp => hk.block k hl hp.2, fun k hl hp => ⟨hp.1, hk.next k hl hp.2⟩⟩⟩
/-- Another block is excluded: one that is new. -/
theorem PM.excl {w wx wy : World} {p q x0 : Nat} {vt vr vl : Value} {T : List Gr} {R : List Ry} {L : List It} {ap an : Nat} (H : PM w p q x0 vt vr vl T R L ap an wx) {ga : Nat} (hg : wx.heap.size ≤ ga) (hb : Below wx.heap.size wx wy) (hl : ga < wy.heap.size) : PM w p q ga vt vr vl T R L ap an wy :=
  ⟨H.jm.other (below_kp (P := fun _ => True) hb) trivial (fun _ _ => trivial) (fun _ _ => trivial) (fun _ _ => trivial) (fun b hb' hlt _ => ⟨hb'.1, by omega⟩), H.dm.below hb, H.apt, H.below.trans (hb.mono H.below.size), hl⟩
/-- The excluded block is written. -/
theorem PM.put {w wx wy : World} {p q ga : Nat} {vt vr vl : Value} {T : List Gr} {R : List Ry} {L : List It} {ap an : Nat} (H : PM w p q ga vt vr vl T R L ap an wx) (hf : Fr p q vt vr vl ga) (hN : w.heap.size ≤ ga) (hk : Kp (· ≠ ga) (· ≠ ga) wx wy) : PM w p q ga vt vr vl T R L ap an wy :=
  ⟨H.jm.other hk (fun e => hf.1.1 e.symm) (fun b hb e => hf.1.2.1 b hb e.symm) (fun b hb e => hf.1.2.2 b hb e.symm) (fun b hb => hb.2) (fun b hb _ _ => hb), H.dm.other hk (fun e => hf.2.1 e.symm) (fun b hb e => hf.2.2 b hb e.symm) (fun b hb e => by omega), H.apt,
    H.below.trans (hk.below (fun b hb e => by omega) H.below.size), Nat.lt_of_lt_of_le H.xl hk.size⟩
/-- Both are new. -/
theorem pm_new {w w1 w2 : World} (hb1 : Below w.heap.size w w1) (hb2 : Below w1.heap.size w1 w2) (hm : JM (fun b => Dq w2.heap.size (.slice none 0 0) b ∧ b ≠ w1.heap.size) w2 w.heap.size w1.heap.size (.slice none 0 0) (.slice none 0 0) [] []) :
    PM w w1.heap.size w2.heap.size w1.heap.size (.slice none 0 0) (.slice none 0 0) (.slice none 0 0) [] [] [] 0 0 (w2.alloc (.cells #[.slice none 0 0, .int .i64 0, .int .i64 0] 29)) := by
  have hal := (Below.refl w2.heap.size w2).alloc (Nat.le_refl _) (.cells #[.slice none 0 0, .int .i64 0, .int .i64 0] 29)
  have hs1 := hb1.size
  have hs2 := hb2.size
  have hp := hm.lt
  exact ⟨hm.below hal, ⟨Deep.blk_alloc_new _ _, by omega, ⟨[], World.ownsRow_nil _ _ _ _, readsI_nil _ _⟩, fun b hb => by cases hb⟩, ⟨⟨by omega, fun b hb => by cases hb⟩, fun b hb => (by cases hb), fun b hb => (by cases hb)⟩, (hb1.trans (hb2.mono hs1)).trans (hal.mono (by omega)), by rw [alloc_sz]; omega⟩

/-- A deed. -/
structure De where
  what : Int
  n : Int
  s : List Int
  l : List Rq
def de0 : De := ⟨0, 0, [], []⟩
def dq (M : List De) (j : Nat) : De := M.getD j de0
def deC (h : Sh) (x : De) : List Value := [.int .i64 x.what, .int .i64 x.n, .slice h.A h.n h.c, .slice h.B h.m h.d]
def DeR (w : World) (h : Sh) (x : De) : Prop := Ils w h.A h.n x.s ∧ Reqs w h.B h.m x.l
def DeW (x : De) : Prop := (-9223372036854775808 ≤ x.what ∧ x.what ≤ 9223372036854775807) ∧ -9223372036854775808 ≤ x.n ∧ x.n ≤ 9223372036854775807
def DeAt (w : World) (b o : Nat) (h : Sh) (x : De) : Prop := w.cell? ⟨b, o, none⟩ = some (.int .i64 x.what) ∧ w.cell? ⟨b, o + 1, none⟩ = some (.int .i64 x.n) ∧ w.cell? ⟨b, o + 2, none⟩ = some (.slice h.A h.n h.c) ∧ w.cell? ⟨b, o + 3, none⟩ = some (.slice h.B h.m h.d)
/-- A slice of deeds that reads as the list M. -/
def Deeds (w : World) (A : Option Addr) (n : Nat) (M : List De) : Prop :=
  M.length = n ∧ n ≤ maxLen ∧ (0 < n → ∃ b o, A = some ⟨b, o, none⟩ ∧ b < w.heap.size ∧ ∀ j, j < n → ∃ h, DeAt w b (o + j * 4) h (dq M j) ∧ DeR w h (dq M j) ∧ DeW (dq M j))
theorem DeAt.below {w w' : World} {b o B : Nat} {h : Sh} {x : De} (hx : DeAt w b o h x) (hb : Below B w w') (hl : b < B) : DeAt w' b o h x := by
  obtain ⟨e0, e1, e2, e3⟩ := hx
  exact ⟨(hb.cell (p := ⟨b, _, none⟩) hl).trans e0, (hb.cell (p := ⟨b, _, none⟩) hl).trans e1, (hb.cell (p := ⟨b, _, none⟩) hl).trans e2, (hb.cell (p := ⟨b, _, none⟩) hl).trans e3⟩
theorem Deeds.at_ {w : World} {A : Option Addr} {n j : Nat} {M : List De} (h : Deeds w A n M) (hj : j < n) : ∃ b o, A = some ⟨b, o, none⟩ ∧ b < w.heap.size ∧ ∃ h, DeAt w b (o + j * 4) h (dq M j) ∧ DeR w h (dq M j) ∧ DeW (dq M j) := by
  obtain ⟨b, o, e, hb, hp⟩ := h.2.2 (by omega)
  exact ⟨b, o, e, hb, hp j hj⟩
theorem der_old {w : World} {h : Sh} {x : De} (hr : DeR w h x) : On (· < w.heap.size) w (DeR · h x) := fun w' ha => ⟨ils_old hr.1 w' ha, reqs_old hr.2 w' ha⟩
/-- A deed's box. -/
def BoxD (w : World) (b : Nat) (h : Sh) (x : De) : Prop := w.heap[b]? = some (.cells (deC h x).toArray 33 (0, 0))
theorem BoxD.lt {w : World} {b : Nat} {h : Sh} {x : De} (hb : BoxD w b h x) : b < w.heap.size := (Array.getElem?_eq_some_iff.1 hb).1
theorem BoxD.at_ {w : World} {b : Nat} {h : Sh} {x : De} (hb : BoxD w b h x) : w.cell? ⟨b, 0, none⟩ = some (.int .i64 x.what) ∧ w.cell? ⟨b, 1, none⟩ = some (.int .i64 x.n) ∧ w.cell? ⟨b, 2, none⟩ = some (.slice h.A h.n h.c) ∧ w.cell? ⟨b, 3, none⟩ = some (.slice h.B h.m h.d) := by
  unfold BoxD at hb
  have hc : ∀ t, w.cell? ⟨b, t, none⟩ = (deC h x)[t]? := fun t => by simp [World.cell?, hb]
  exact ⟨hc 0, hc 1, hc 2, hc 3⟩
theorem box_d (w : World) (h : Sh) (x : De) : ∃ W, W = w.alloc (.cells #[.int .i64 x.what, .int .i64 x.n, .slice h.A h.n h.c, .slice h.B h.m h.d] 33) ∧ Below w.heap.size w W ∧ BoxD W w.heap.size h x ∧ W.heap.size = w.heap.size + 1 :=
  ⟨_, rfl, (Below.refl _ _).alloc (Nat.le_refl _) _, Deep.blk_alloc_new _ _, by simp⟩
/-- Both journals, and a deed in its box. -/
structure RD (w : World) (p q x0 g : Nat) (h : Sh) (x : De) (vt vr vl : Value) (T : List Gr) (R : List Ry) (L : List It) (ap an : Nat) (wx : World) : Prop where
  pm : PM w p q x0 vt vr vl T R L ap an wx
  box : BoxD wx g h x
  fr : Fr p q vt vr vl g
theorem RD.more {w wx wy : World} {p q x0 g : Nat} {h : Sh} {x : De} {vt vr vl : Value} {T : List Gr} {R : List Ry} {L : List It} {ap an : Nat} (H : RD w p q x0 g h x vt vr vl T R L ap an wx) (hb : Below wx.heap.size wx wy) : RD w p q x0 g h x vt vr vl T R L ap an wy :=
  ⟨H.pm.more hb, (hb.block g H.box.lt).trans H.box, H.fr⟩
theorem RD.prog {w wx wy : World} {p q x0 g : Nat} {h : Sh} {x : De} {vt vr vl vt' vr' : Value} {T T' : List Gr} {R R' : List Ry} {L : List It} {ap an : Nat} (H : RD w p q x0 g h x vt vr vl T R L ap an wx) (hm : JM (fun b => Dq q vl b ∧ b ≠ x0) wy w.heap.size p vt' vr' T' R') (hk : Kp (Jo p vt vr) (Jo p vt' vr') wx wy) :
    RD w p q x0 g h x vt' vr' vl T' R' L ap an wy := by
  obtain ⟨a, b⟩ := H.pm.prog hm hk
  exact ⟨a, (b.block g H.box.lt H.fr).trans H.box, b.next g H.box.lt H.fr⟩
/-- Both journals, whatever they hold: the same. -/
def PS (w : World) (p q : Nat) (wx : World) : Prop := ∃ (x0 : Nat) (vt vr vl : Value) (T : List Gr) (R : List Ry) (L : List It) (ap an : Nat), PM w p q x0 vt vr vl T R L ap an wx ∧ DI T R L ap an ∧ OkJ T R
/-- What the switch leaves. -/
def Dun (w : World) (p q : Nat) (c f : Value) (wx : World) : Prop := ∃ kk : Int, c = .int .i64 kk ∧ f = errV kk ∧ 0 ≤ kk ∧ kk ≤ 11 ∧ PS w p q wx
theorem beginK_in (T : List Gr) (R : List Ry) (S : List Int) (M : List Rq) : 0 ≤ beginK T R S M ∧ beginK T R S M ≤ 11 := by
  unfold beginK
  split <;> (try split) <;> (try split) <;> omega
theorem begin_zero {T : List Gr} {R : List Ry} {S : List Int} {M : List Rq} (h : beginK T R S M = 0) : (T = [] ∧ R = []) ∧ S.length = M.length ∧ M.length ≤ 32 := by
  unfold beginK at h
  by_cases ho : openB T R = true
  · rw [if_pos ho] at h; omega
  rw [if_neg ho] at h
  have ho' : ¬ (0 < T.length + R.length) := fun e => ho (decide_eq_true e)
  by_cases hb : batchB S M = true
  · rw [if_neg (by rw [hb]; decide)] at h
    by_cases h2 : 32 < M.length
    · rw [if_pos h2] at h; omega
    · unfold batchB at hb
      simp only [Bool.and_eq_true, decide_eq_true_eq] at hb
      exact ⟨⟨List.length_eq_zero_iff.1 (by omega), List.length_eq_zero_iff.1 (by omega)⟩, hb.2.1, by omega⟩
  · rw [if_pos (by simpa using hb)] at h; omega

/-- The answers that the law makes. -/
def anI (i k : Nat) : An := ⟨((i + k : Nat) : Int), false, [UInt8.ofNat k], [], 0⟩
def ansI (i n : Nat) : List An := (List.range n).map (anI i)
theorem ansI_at {i n k : Nat} (h : k < n) : aq (ansI i n) k = anI i k := by
  unfold aq ansI
  rw [List.getD_eq_getElem?_getD, List.getElem?_map, List.getElem?_range h]
  rfl
theorem ansI_len (i n : Nat) : (ansI i n).length = n := by unfold ansI; simp
theorem ansI_sm (i n : Nat) : ∀ j, j < n → SmA (aq (ansI i n) j) := fun j hj => by
  rw [ansI_at hj]
  exact ⟨by show 1 ≤ 1000; omega, Nat.zero_le _, fun p hp => by cases hp⟩
/-- A row of answers in the block ga, of which the first k are made. -/
def FilA (ga n i k : Nat) (w : World) : Prop :=
  ∃ xs : List Value, w.heap[ga]? = some (.cells xs.toArray 46 (0, 0)) ∧ xs.length = n * 5 ∧ ∀ t, t < k → ∃ kk : Sh, (∀ u, u < 5 → xs[t * 5 + u]? = (anC kk (anI i t))[u]?) ∧ On (fun b => ga < b) w (AnR · kk (anI i t))
theorem FilA.lt {ga n i k : Nat} {w : World} (h : FilA ga n i k w) : ga < w.heap.size := by
  obtain ⟨xs, h1, -⟩ := h
  exact (Array.getElem?_eq_some_iff.1 h1).1
theorem FilA.cell {ga n i k : Nat} {w : World} (h : FilA ga n i k w) {o : Nat} (ho : o < n * 5) : (∃ v, w.cell? ⟨ga, o, none⟩ = some v) ∧ w.frozen? ⟨ga, o, none⟩ = false := by
  obtain ⟨xs, h1, h2, -⟩ := h
  refine ⟨⟨xs[o]'(by omega), ?_⟩, ?_⟩
  · simp [World.cell?, h1, show o < xs.length by omega]
  · simp [World.frozen?, h1]
theorem FilA.anss {ga n i : Nat} {w : World} (h : FilA ga n i n w) (hn : n ≤ 40) : On (ga ≤ ·) w (Anss · (some ⟨ga, 0, none⟩) n (ansI i n)) := fun w' ha => by
  have hl := h.lt
  obtain ⟨xs, h1, h2, h3⟩ := h
  have h1' : w'.heap[ga]? = _ := (ha.2 ga (Nat.le_refl _) hl).trans h1
  refine ⟨ansI_len i n, by unfold maxLen; omega, fun _ => ⟨ga, 0, rfl, Nat.lt_of_lt_of_le hl ha.1, fun j hj => ?_⟩⟩
  obtain ⟨kk, e, hr⟩ := h3 j hj
  rw [ansI_at hj, Nat.zero_add]
  have hc : ∀ u, u < 5 → w'.cell? ⟨ga, j * 5 + u, none⟩ = (anC kk (anI i j))[u]? := fun u hu => by
    rw [← e u hu]
    simp [World.cell?, h1']
  exact ⟨kk, hc 0 (by omega), hc 1 (by omega), hc 2 (by omega), hc 3 (by omega), hc 4 (by omega), hr w' (ha.mono fun b hb => by have hb' : ga < b := hb; show ga ≤ b; omega)⟩
theorem fil_new (w : World) {i n : Nat} (z : Array Value) (hz : z.size = 5) : FilA w.heap.size n i 0 (w.alloc (.cells (madeCells z (n * 5)) 46)) :=
  ⟨(madeCells z (n * 5)).toList, by simpa using Deep.blk_alloc_new w (.cells (madeCells z (n * 5)) 46), by simp [size_madeCells], fun t ht => absurd ht (by omega)⟩
theorem FilA.keep {ga n i k : Nat} {w w' : World} (h : FilA ga n i k w) (ha : Agree (ga ≤ ·) w w') : FilA ga n i k w' := by
  have hl := h.lt
  obtain ⟨xs, h1, h2, h3⟩ := h
  refine ⟨xs, (ha.2 ga (Nat.le_refl _) hl).trans h1, h2, fun t ht => ?_⟩
  obtain ⟨kk, e, hr⟩ := h3 t ht
  exact ⟨kk, e, hr.keep (ha.mono fun b hb => by have hb' : ga < b := hb; show ga ≤ b; omega)⟩
/-- One more is made. -/
theorem FilA.more {ga n i k : Nat} {w : World} (h : FilA ga n i k w) (hk : k < n) (hn : n ≤ 40) :
    FilA ga n i (k + 1) ((stores w ga (k * 5) (anC ⟨some ⟨w.heap.size, 0, none⟩, 1, 1, none, 0, 0⟩ (anI i k))).alloc (.cells #[.int .u8 k] 5)) := by
  have hl := h.lt
  obtain ⟨xs, h1, h2, h3⟩ := h
  have hc := chg_stores ga (anC ⟨some ⟨w.heap.size, 0, none⟩, 1, 1, none, 0, 0⟩ (anI i k)) w (k * 5)
  have h5 : (anC ⟨some ⟨w.heap.size, 0, none⟩, 1, 1, none, 0, 0⟩ (anI i k)).length = 5 := rfl
  have hs : (stores w ga (k * 5) (anC ⟨some ⟨w.heap.size, 0, none⟩, 1, 1, none, 0, 0⟩ (anI i k))).heap.size = w.heap.size := stores_size _ _ _ _
  have hst : (stores w ga (k * 5) (anC ⟨some ⟨w.heap.size, 0, none⟩, 1, 1, none, 0, 0⟩ (anI i k))).heap[ga]? = some (.cells (puts xs (k * 5) (anC ⟨some ⟨w.heap.size, 0, none⟩, 1, 1, none, 0, 0⟩ (anI i k))).toArray 46 (0, 0)) := stores_obj _ _ _ _ h1
  have hal : Below (stores w ga (k * 5) (anC ⟨some ⟨w.heap.size, 0, none⟩, 1, 1, none, 0, 0⟩ (anI i k))).heap.size (stores w ga (k * 5) (anC ⟨some ⟨w.heap.size, 0, none⟩, 1, 1, none, 0, 0⟩ (anI i k))) ((stores w ga (k * 5) (anC ⟨some ⟨w.heap.size, 0, none⟩, 1, 1, none, 0, 0⟩ (anI i k))).alloc (.cells #[.int .u8 k] 5)) := (Below.refl _ _).alloc (Nat.le_refl _) _
  have hag : Agree (fun b => ga < b) w ((stores w ga (k * 5) (anC ⟨some ⟨w.heap.size, 0, none⟩, 1, 1, none, 0, 0⟩ (anI i k))).alloc (.cells #[.int .u8 k] 5)) := (hc.agree (C := fun b => ga < b) (fun e => by have e' : ga < ga := e; omega)).trans (below_all hal)
  refine ⟨_, (hal.block ga (by omega)).trans hst, by rw [puts_len]; exact h2, fun t ht => ?_⟩
  by_cases e : t = k
  · subst e
    refine ⟨⟨some ⟨w.heap.size, 0, none⟩, 1, 1, none, 0, 0⟩, fun u hu => by rw [puts_in _ _ _ _ (by omega) (by omega)], fun w' ha => ⟨⟨rfl, fun _ => ⟨⟨w.heap.size, 0, none⟩, rfl, ?_, fun j hj => ?_⟩⟩, prs_nil w'⟩⟩
    · have := ha.1
      rw [alloc_sz, hs] at this
      show w.heap.size < w'.heap.size
      omega
    · obtain rfl : j = 0 := by have hj' : j < 1 := hj; omega
      have e1 := Deep.blk_alloc_new (stores w ga (t * 5) (anC ⟨some ⟨w.heap.size, 0, none⟩, 1, 1, none, 0, 0⟩ (anI i t))) (.cells #[.int .u8 t] 5)
      rw [hs] at e1
      have e2 := (ha.2 w.heap.size (by show ga < w.heap.size; omega) (by rw [alloc_sz, hs]; omega)).trans e1
      have ht : t % 256 = t := Nat.mod_eq_of_lt (by omega)
      simp [World.cell?, Addr.add, e2, anI, ht]
  · obtain ⟨kk, e1, hr⟩ := h3 t (by omega)
    refine ⟨kk, fun u hu => ?_, hr.keep hag⟩
    rw [puts_out _ _ _ _ (by omega)]
    exact e1 u hu
/-- The excluded block is written, and blocks are made. -/
theorem kp_put {w wx wy : World} {ga : Nat} (hc : Chg ga w wx) (hb : Below wx.heap.size wx wy) : Kp (· ≠ ga) (· ≠ ga) w wy :=
  ⟨hb.os.trans hc.os, hb.tape.trans hc.tape, hb.output.trans hc.output, Nat.le_trans hc.size hb.size, fun k hk hp => (hb.block k (Nat.lt_of_lt_of_le hk hc.size)).trans (hc.block k hk hp), fun k _ hp => hp⟩

set_option maxHeartbeats 2000000 in
/-- The law's own: two lists that read as the same requests. -/
theorem same_any {w : World} {A B : Option Addr} {n : Nat} (c d : Nat) {M : List Rq} (hA : Reqs w A n M) (hB : Reqs w B n M) (hn : n ≤ 1000) :
    Calls Try.prog 22 #[.slice A n c, .slice B n d] w fun e w' => e = .returned (.bool true) ∧ Below w.heap.size w w' := by
  have HA := Lib.hid hA
  have HB := Lib.hid hB
  have hnn : ((n : Int) != (n : Int)) = false := by simp
  clear hA hB
  go_enter Try.func22, Try.ntmps22
  go_wp2
  go_loopw [5] (fun s wr => ∃ i : Nat, i ≤ n ∧ s = .int .i64 i ∧ Below w.heap.size w wr) (fun s _ => n - (intOf s).toNat)
  case atStart => exact ⟨0, Nat.zero_le _, rfl, Below.refl _ _⟩
  case round =>
    obtain ⟨i, hi, rfl, hb⟩ := hrel
    have HBW := Lib.hid hb
    clear hb
    by_cases hlt : i < n
    · have hin : (i : Int) < (n : Int) := by omega
      have hi0 : (0 : Int) ≤ (i : Int) := by omega
      obtain ⟨b, o, rfl, hbl, h1, x0, x1, x2, x3, x4, x5, x6, x7, r1⟩ := (HA.out.below HBW.out).at_ hlt
      obtain ⟨b', o', rfl, hbl', h2, y0, y1, y2, y3, y4, y5, y6, y7, r2⟩ := (HB.out.below HBW.out).at_ hlt
      have D := Lib.hid (asked_any (w := wr.drew) (show RqR wr.drew h1 (gq M i) from r1) (show RqR wr.drew h2 (gq M i) from r2))
      generalize gq M i = r at x0 x1 x2 x3 x4 x5 x6 x7 y0 y1 y2 y3 y4 y5 y6 y7 r1 r2 D
      clear r1 r2
      go_upto_region 6 with fail
      go_still_tail 8, (by kernel_rfl)
      change wpList _ _ _ _ _ wr.drew
      go_wp2_with fail
      refine D.out.mono ?_
      rintro e w4 ⟨rfl, hb4⟩
      have HB4 := Lib.hid (HBW.out.trans ((undrew hb4).mono HBW.out.size))
      clear hb4 D x0 x1 x2 x3 x4 x5 x6 x7 y0 y1 y2 y3 y4 y5 y6 y7
      go_wp2
      go_roundw
      case rel => exact ⟨i + 1, by omega, by go_num, HB4.out⟩
      case measure => simp [intOf]; omega
    · obtain rfl : i = n := by omega
      have hni : ¬ ((i : Int) < (i : Int)) := by omega
      go_wp2
      go_ret
      exact ⟨rfl, HBW.out⟩
end Go.Proofs.Ythcchaglloggjaa

namespace Go.Proofs.Ythcchaglloggjaa
open Go.ChangeShapes Go.WideShapes Go.ChangeAt Go.RowKit Go.Deep
set_option linter.unusedVariables false

theorem four_of {cs : List Value} (h : cs.length = 4) : ∃ a0 a1 a2 a3, cs = [a0, a1, a2, a3] := by
  match cs, h with
  | [a0, a1, a2, a3], _ => exact ⟨a0, a1, a2, a3, rfl⟩
section
variable {H : Type} {enc : TypeId × Value → H} {w : World} {base : Nat} {held : Bool}
/-- A deed's four cells that came in. -/
theorem came_deed {fuel : Nat} {cs : List Value} {x : DataW H × List MemPlace} (h : DataW.trod enc Try.prog w base (fun _ => true) held fuel 33 cs = some x) :
    ∃ h x, cs = deC h x ∧ DeR w h x ∧ DeW x := by
  obtain ⟨ys, n', _, _, hl, hyl, hf⟩ := DataW.trod_struct Try.underlying33 h
  rw [show Try.prog.cellsOf 33 = 4 by kernel_rfl] at hl
  obtain ⟨a0, a1, a2, a3, rfl⟩ := four_of hl
  have ci : Try.prog.cellsOf 3 = 1 := by kernel_rfl
  have cn : Try.prog.cellsOf 30 = 1 := by kernel_rfl
  have cr : Try.prog.cellsOf 31 = 1 := by kernel_rfl
  have hy : ∀ j, j < 4 → ∃ y, ys[j]? = some y := fun j hj => ⟨ys[j]'(by rw [hyl]; exact hj), List.getElem?_eq_getElem _⟩
  obtain ⟨y0, e0⟩ := hy 0 (by omega)
  obtain ⟨y1, e1⟩ := hy 1 (by omega)
  obtain ⟨y2, e2⟩ := hy 2 (by omega)
  obtain ⟨y3, e3⟩ := hy 3 (by omega)
  have h0 : DataW.trod enc Try.prog w base (fun _ => true) held n' 3 (([a0, a1, a2, a3].drop 0).take (Try.prog.cellsOf 3)) = some y0 := (hf 0 _ rfl).trans e0
  rw [ci] at h0
  have h1 : DataW.trod enc Try.prog w base (fun _ => true) held n' 3 (([a0, a1, a2, a3].drop 1).take (Try.prog.cellsOf 3)) = some y1 := (hf 1 _ rfl).trans e1
  rw [ci] at h1
  have h2 : DataW.trod enc Try.prog w base (fun _ => true) held n' 30 (([a0, a1, a2, a3].drop 2).take (Try.prog.cellsOf 30)) = some y2 := (hf 2 _ rfl).trans e2
  rw [cn] at h2
  have h3 : DataW.trod enc Try.prog w base (fun _ => true) held n' 31 (([a0, a1, a2, a3].drop 3).take (Try.prog.cellsOf 31)) = some y3 := (hf 3 _ rfl).trans e3
  rw [cr] at h3
  obtain ⟨z0, q0, _, wf0⟩ := DataW.trod_int Try.underlying3 h0
  obtain ⟨z1, q1, _, wf1⟩ := DataW.trod_int Try.underlying3 h1
  obtain ⟨A, n, c, L, rfl, b2⟩ := came_ints h2
  obtain ⟨B, m, d, M, rfl, b3⟩ := came_reqs h3
  simp at q0 q1
  subst q0 q1
  exact ⟨⟨A, n, c, B, m, d⟩, ⟨z0, z1, L, M⟩, rfl, ⟨b2, b3⟩, ⟨by simpa [Lit.wf, IntKind.min, IntKind.max, IntKind.signed, IntKind.bits] using wf0, by simpa [Lit.wf, IntKind.min, IntKind.max, IntKind.signed, IntKind.bits] using wf1⟩⟩

/-- A list of deeds that came in. -/
theorem came_deeds {fuel : Nat} {v : Value} {x : DataW H × List MemPlace} (h : DataW.trod enc Try.prog w base (fun _ => true) held fuel 22 [v] = some x) :
    ∃ A n c M, v = .slice A n c ∧ Deeds w A n M := by
  rcases open_slice Try.underlying22 h with ⟨hcs, _⟩ | ⟨a, n, c, m, n1, D, Pl, hcs, _, hl, hm, hmm, _, hi⟩
  · simp at hcs
    exact ⟨none, 0, 0, [], hcs, rfl, Nat.zero_le _, fun h => absurd h (by omega)⟩
  · simp at hcs
    rw [show Try.prog.cellsOf 33 = 4 by kernel_rfl] at hi
    obtain ⟨b, o, s⟩ := a
    have hat0 : ∀ j, j < n → ∃ x : De, ∃ (h : Sh), (∀ t u, t < 4 → (deC h x)[t]? = some u → w.cell? ((⟨b, o, s⟩ : Addr).add (j * 4 + t)) = some u) ∧ DeR w h x ∧ DeW x := fun j hj => by
      have him : j < m := by rw [hmm]; split <;> omega
      obtain ⟨cs', hc, ht'⟩ := hi j him
      obtain ⟨_, hcl, hat⟩ := World.cells?_some hc
      obtain ⟨h, x, rfl, hr, ha⟩ := came_deed ht'
      refine ⟨x, h, fun t u ht hu => ?_, hr, ha⟩
      rw [← add_add, hat t ht, hu]
    rcases Nat.eq_zero_or_pos n with h0 | h0
    · subst h0
      exact ⟨_, 0, c, [], hcs, rfl, Nat.zero_le _, fun h => absurd h (by omega)⟩
    · obtain rfl : s = none := by
        obtain ⟨x, h, hu, _⟩ := hat0 0 h0
        simpa [Addr.add] using World.cell?_spot (hu 0 _ (by omega) rfl)
      have hb : b < w.heap.size := by
        obtain ⟨x, h, hu, _⟩ := hat0 0 h0
        have := World.block_lt_of_cell? w _ (hu 0 _ (by omega) rfl)
        rwa [add_block] at this
      obtain ⟨M, h1, h2⟩ := list_of3 (T := De) de0 n hat0
      refine ⟨_, n, c, M, hcs, h1, Nat.le_trans hl hm, fun _ => ⟨b, o, rfl, hb, fun j hj => ?_⟩⟩
      obtain ⟨h, hu, hr, ha⟩ := h2 j hj
      have hc : ∀ t u, t < 4 → (deC h (dq M j))[t]? = some u → w.cell? ⟨b, o + j * 4 + t, none⟩ = some u := fun t u ht e => by
        have := hu t u ht e
        rw [add_lit, ← Nat.add_assoc] at this
        exact this
      exact ⟨h, ⟨hc 0 _ (by omega) rfl, hc 1 _ (by omega) rfl, hc 2 _ (by omega) rfl, hc 3 _ (by omega) rfl⟩, hr, ha⟩
end
end Go.Proofs.Ythcchaglloggjaa
