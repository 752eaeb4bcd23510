/- A journal in memory: groups that aren't applied, answers that aren't told; contracts of package journal's New, Open, Left. Condition: at most 1000 of both. -/
import Derived.Test.YthcchaglloggjaaJc
namespace Go.Proofs.Ythcchaglloggjaa
open Go.RowKit
set_option linter.unusedVariables false
set_option maxRecDepth 100000

/-- What stands outside of P may have turned; what lies in P lies in P' then. -/
structure Kp (P P' : Nat → Prop) (w w' : World) : Prop where
  os : w'.os = w.os
  tape : w'.tape = w.tape
  output : w'.output = w.output
  size : w.heap.size ≤ w'.heap.size
  block : ∀ k, k < w.heap.size → P k → w'.heap[k]? = w.heap[k]?
  next : ∀ k, k < w.heap.size → P k → P' k
theorem Kp.agree {P P' : Nat → Prop} {w w' : World} (h : Kp P P' w w') : Agree P w w' := ⟨h.size, fun k hk hl => h.block k hl hk⟩
theorem Kp.trans {P P' P'' : Nat → Prop} {u v w : World} (h : Kp P P' u v) (k : Kp P' P'' v w) : Kp P P'' u w :=
  ⟨k.os.trans h.os, k.tape.trans h.tape, k.output.trans h.output, Nat.le_trans h.size k.size, fun i hi hp => (k.block i (Nat.lt_of_lt_of_le hi h.size) (h.next i hi hp)).trans (h.block i hi hp), fun i hi hp => k.next i (Nat.lt_of_lt_of_le hi h.size) (h.next i hi hp)⟩
theorem Kp.refl (P : Nat → Prop) (w : World) : Kp P P w w := ⟨rfl, rfl, rfl, Nat.le_refl _, fun _ _ _ => rfl, fun _ _ h => h⟩
theorem below_kp {P : Nat → Prop} {w w' : World} (h : Below w.heap.size w w') : Kp P P w w' := ⟨h.os, h.tape, h.output, h.size, fun k hk _ => h.block k hk, fun _ _ h => h⟩
theorem Kp.below {P P' : Nat → Prop} {B : Nat} {w w' : World} (h : Kp P P' w w') (hP : ∀ k, k < B → P k) (hB : B ≤ w.heap.size) : Below B w w' := ⟨h.os, h.tape, h.output, h.size, fun k hk => h.block k (by omega) (hP k hk)⟩
/-- A reading in what is kept. -/
theorem Kp.on {P P' D D' : Nat → Prop} {w w' : World} {Q : World → Prop} (h : Kp P P' w w') (ho : On D w Q) (hD : ∀ b, D b → P b) (hD' : ∀ b, D b → b < w.heap.size → P' b → D' b) : On D' w' Q :=
  ((ho.now).keep (h.agree.mono fun b hb => hD b hb.1)).mono fun b hb => hD' b hb.1 hb.2 (h.next b hb.2 (hD b hb.1))

abbrev Gr := List (Int × Rq)
abbrev Ry := Int × An
def gp (T : List Gr) (j : Nat) : Gr := T.getD j []
def ry (R : List Ry) (j : Nat) : Ry := R.getD j (0, an0)
def sizeT (T : List Gr) : Nat := (T.map List.length).sum
theorem gp_eq {T : List Gr} {j : Nat} (h : j < T.length) : gp T j = T[j] := by unfold gp; simp [h]
theorem ry_eq {R : List Ry} {j : Nat} (h : j < R.length) : ry R j = R[j] := by unfold ry; simp [h]
theorem gp_left {T K : List Gr} {j : Nat} (h : j < T.length) : gp (T ++ K) j = gp T j := by
  unfold gp
  rw [List.getD_eq_getElem?_getD, List.getD_eq_getElem?_getD, List.getElem?_append_left h]
theorem gp_one (T : List Gr) (g : Gr) : gp (T ++ [g]) T.length = g := by unfold gp; simp
theorem ry_left {R K : List Ry} {j : Nat} (h : j < R.length) : ry (R ++ K) j = ry R j := by
  unfold ry
  rw [List.getD_eq_getElem?_getD, List.getD_eq_getElem?_getD, List.getElem?_append_left h]
theorem ry_one (R : List Ry) (x : Ry) : ry (R ++ [x]) R.length = x := by unfold ry; simp
theorem sizeT_take {T : List Gr} {j : Nat} (h : j < T.length) : sizeT (T.take (j + 1)) = sizeT (T.take j) + (gp T j).length := by
  rw [gp_eq h]
  unfold sizeT
  rw [List.take_add_one, List.getElem?_eq_getElem h, List.map_append, List.sum_append]
  simp
theorem sizeT_le (T : List Gr) (j : Nat) : sizeT (T.take j) ≤ sizeT T := by
  conv => rhs; rw [← List.take_append_drop j T]
  unfold sizeT
  rw [List.map_append, List.sum_append]
  omega

/-- An answer's six cells. -/
def ryC (k : Sh) (x : Ry) : List Value := [.int .i64 x.1, .int .i64 x.2.code, .bool x.2.found, .slice k.A k.n k.c, .slice k.B k.m k.d, .int .u64 x.2.stamp]
def ReadsG (D : Nat → Prop) (w : World) (xs : List Value) (T : List Gr) : Prop :=
  xs.length = T.length * 2 ∧ ∀ j, j < T.length → ∃ A n c B m d, xs[j * 2]? = some (.slice A n c) ∧ xs[j * 2 + 1]? = some (.slice B m d) ∧ On D w (Ils · A n ((gp T j).map Prod.fst)) ∧ On D w (Reqs · B m ((gp T j).map Prod.snd))
def ReadsY (D : Nat → Prop) (w : World) (ys : List Value) (R : List Ry) : Prop :=
  ys.length = R.length * 6 ∧ ∀ j, j < R.length → ∃ k : Sh, (∀ t, t < 6 → ys[j * 6 + t]? = (ryC k (ry R j))[t]?) ∧ On D w (AnR · k (ry R j).2)
theorem readsG_nil (D : Nat → Prop) (w : World) : ReadsG D w [] [] := ⟨rfl, fun j hj => by cases hj⟩
theorem readsY_nil (D : Nat → Prop) (w : World) : ReadsY D w [] [] := ⟨rfl, fun j hj => by cases hj⟩
theorem ReadsG.imp {D D' : Nat → Prop} {w w' : World} {xs : List Value} {T : List Gr} (h : ReadsG D w xs T) (hi : ∀ Q : World → Prop, On D w Q → On D' w' Q) : ReadsG D' w' xs T :=
  ⟨h.1, fun j hj => by
    obtain ⟨A, n, c, B, m, d, e1, e2, r1, r2⟩ := h.2 j hj
    exact ⟨A, n, c, B, m, d, e1, e2, hi _ r1, hi _ r2⟩⟩
theorem ReadsY.imp {D D' : Nat → Prop} {w w' : World} {ys : List Value} {R : List Ry} (h : ReadsY D w ys R) (hi : ∀ Q : World → Prop, On D w Q → On D' w' Q) : ReadsY D' w' ys R :=
  ⟨h.1, fun j hj => by
    obtain ⟨k, e, r⟩ := h.2 j hj
    exact ⟨k, e, hi _ r⟩⟩
theorem ReadsG.more {D : Nat → Prop} {w : World} {xs : List Value} {T : List Gr} {A B : Option Addr} {n c m d : Nat} {g : Gr} (h : ReadsG D w xs T) (h1 : On D w (Ils · A n (g.map Prod.fst))) (h2 : On D w (Reqs · B m (g.map Prod.snd))) : ReadsG D w (xs ++ [.slice A n c, .slice B m d]) (T ++ [g]) := by
  have hx := h.1
  refine ⟨by simp; omega, fun j hj => ?_⟩
  by_cases hl : j < T.length
  · obtain ⟨A, n, c, B, m, d, e1, e2, r1, r2⟩ := h.2 j hl
    refine ⟨A, n, c, B, m, d, ?_, ?_, by rw [gp_left hl]; exact r1, by rw [gp_left hl]; exact r2⟩
    · rw [List.getElem?_append_left (by omega)]; exact e1
    · rw [List.getElem?_append_left (by omega)]; exact e2
  · obtain rfl : j = T.length := by simp at hj; omega
    refine ⟨A, n, c, B, m, d, ?_, ?_, by rw [gp_one]; exact h1, by rw [gp_one]; exact h2⟩
    · rw [List.getElem?_append_right (by omega), show T.length * 2 - xs.length = 0 by omega]; rfl
    · rw [List.getElem?_append_right (by omega), show T.length * 2 + 1 - xs.length = 1 by omega]; rfl
theorem ReadsY.more {D : Nat → Prop} {w : World} {ys : List Value} {R : List Ry} {k : Sh} {x : Ry} (h : ReadsY D w ys R) (hx : On D w (AnR · k x.2)) : ReadsY D w (ys ++ ryC k x) (R ++ [x]) := by
  have hy := h.1
  have h6 : (ryC k x).length = 6 := rfl
  refine ⟨by rw [List.length_append, List.length_append, h6, List.length_singleton]; omega, fun j hj => ?_⟩
  by_cases hl : j < R.length
  · obtain ⟨k, e, r⟩ := h.2 j hl
    refine ⟨k, fun t ht => ?_, by rw [ry_left hl]; exact r⟩
    rw [ry_left hl, List.getElem?_append_left (by omega)]
    exact e t ht
  · obtain rfl : j = R.length := by simp at hj; omega
    refine ⟨k, fun t ht => ?_, by rw [ry_one]; exact hx⟩
    rw [ry_one, List.getElem?_append_right (by omega), show R.length * 6 + t - ys.length = t by omega]
theorem ReadsG.tail {D : Nat → Prop} {w : World} {xs : List Value} {g : Gr} {T : List Gr} (h : ReadsG D w xs (g :: T)) : ReadsG D w (xs.drop 2) T := by
  have hx := h.1
  refine ⟨by simp at hx ⊢; omega, fun j hj => ?_⟩
  obtain ⟨A, n, c, B, m, d, e1, e2, r1, r2⟩ := h.2 (j + 1) (by simp; omega)
  refine ⟨A, n, c, B, m, d, ?_, ?_, r1, r2⟩
  · rw [List.getElem?_drop, show 2 + j * 2 = (j + 1) * 2 by omega]; exact e1
  · rw [List.getElem?_drop, show 2 + (j * 2 + 1) = (j + 1) * 2 + 1 by omega]; exact e2
theorem ReadsY.tail {D : Nat → Prop} {w : World} {ys : List Value} {x : Ry} {R : List Ry} (h : ReadsY D w ys (x :: R)) : ReadsY D w (ys.drop 6) R := by
  have hy := h.1
  refine ⟨by simp at hy ⊢; omega, fun j hj => ?_⟩
  obtain ⟨k, e, r⟩ := h.2 (j + 1) (by simp; omega)
  refine ⟨k, fun t ht => ?_, r⟩
  rw [List.getElem?_drop, show 6 + (j * 6 + t) = (j + 1) * 6 + t by omega]
  exact e t ht

/-- The blocks that a journal doesn't write. -/
def Jo (p : Nat) (vt vr : Value) (b : Nat) : Prop := b ≠ p ∧ Off vt b ∧ Off vr b
/-- A journal in memory; what it leads to lies in blocks that C names. -/
structure JM (C : Nat → Prop) (w : World) (N p : Nat) (vt vr : Value) (T : List Gr) (R : List Ry) : Prop where
  obj : w.heap[p]? = some (.cells #[vt, vr] 66 (0, 0))
  np : N ≤ p
  todo : ∃ xs, w.ownsRow N 72 2 vt T.length xs ∧ ReadsG (fun b => C b ∧ Jo p vt vr b) w xs T
  ready : ∃ ys, w.ownsRow N 78 6 vr R.length ys ∧ ReadsY (fun b => C b ∧ Jo p vt vr b) w ys R
  pt : Off vt p
  pr : Off vr p
  tr : ∀ b, vt.ownBlock = some b → Off vr b
theorem JM.lt {C : Nat → Prop} {w : World} {N p : Nat} {vt vr : Value} {T : List Gr} {R : List Ry} (h : JM C w N p vt vr T R) : p < w.heap.size := (Array.getElem?_eq_some_iff.1 h.obj).1
theorem JM.ltt {C : Nat → Prop} {w : World} {N p : Nat} {vt vr : Value} {T : List Gr} {R : List Ry} (h : JM C w N p vt vr T R) : ∀ b, vt.ownBlock = some b → N ≤ b ∧ b < w.heap.size := by
  obtain ⟨xs, h1, -⟩ := h.todo
  exact fun b hb => h1.lt b hb
theorem JM.ltr {C : Nat → Prop} {w : World} {N p : Nat} {vt vr : Value} {T : List Gr} {R : List Ry} (h : JM C w N p vt vr T R) : ∀ b, vr.ownBlock = some b → N ≤ b ∧ b < w.heap.size := by
  obtain ⟨xs, h1, -⟩ := h.ready
  exact fun b hb => h1.lt b hb
theorem JM.cells {C : Nat → Prop} {w : World} {N p : Nat} {vt vr : Value} {T : List Gr} {R : List Ry} (h : JM C w N p vt vr T R) :
    w.cell? ⟨p, 0, none⟩ = some vt ∧ w.cell? ⟨p, 1, none⟩ = some vr ∧ w.frozen? ⟨p, 0, none⟩ = false ∧ w.frozen? ⟨p, 1, none⟩ = false := by
  have h1 := h.obj
  simp [World.cell?, World.frozen?, h1]
theorem JM.shape {C : Nat → Prop} {w : World} {N p : Nat} {vt vr : Value} {T : List Gr} {R : List Ry} (h : JM C w N p vt vr T R) : ∃ A c B d, vt = .slice A T.length c ∧ vr = .slice B R.length d := by
  obtain ⟨xs, h1, -⟩ := h.todo
  obtain ⟨ys, h2, -⟩ := h.ready
  obtain ⟨A, c, e1, -⟩ := own_new h1
  obtain ⟨B, d, e2, -⟩ := own_new h2
  exact ⟨A, c, B, d, e1, e2⟩
/-- What others do. -/
theorem JM.other {C C' P P' : Nat → Prop} {w w' : World} {N p : Nat} {vt vr : Value} {T : List Gr} {R : List Ry} (h : JM C w N p vt vr T R) (hk : Kp P P' w w') (hp : P p) (ht : ∀ b, vt.ownBlock = some b → P b) (hr : ∀ b, vr.ownBlock = some b → P b)
    (hC : ∀ b, C b → P b) (hC' : ∀ b, C b → b < w.heap.size → P' b → C' b) : JM C' w' N p vt vr T R := by
  obtain ⟨xs, h1, h2⟩ := h.todo
  obtain ⟨ys, h3, h4⟩ := h.ready
  exact ⟨(hk.block p h.lt hp).trans h.obj, h.np, ⟨xs, own_agree h1 hk.agree ht, h2.imp fun Q ho => hk.on ho (fun b hb => hC b hb.1) fun b hb hl hn => ⟨hC' b hb.1 hl hn, hb.2⟩⟩,
    ⟨ys, own_agree h3 hk.agree hr, h4.imp fun Q ho => hk.on ho (fun b hb => hC b hb.1) fun b hb hl hn => ⟨hC' b hb.1 hl hn, hb.2⟩⟩, h.pt, h.pr, h.tr⟩
theorem JM.below {C : Nat → Prop} {w w' : World} {N p : Nat} {vt vr : Value} {T : List Gr} {R : List Ry} (h : JM C w N p vt vr T R) (hb : Below w.heap.size w w') : JM C w' N p vt vr T R :=
  h.other (below_kp (P := fun _ => True) hb) trivial (fun _ _ => trivial) (fun _ _ => trivial) (fun _ _ => trivial) (fun _ hb _ _ => hb)
/-- The first group, the first answer. -/
theorem JM.group {C : Nat → Prop} {w : World} {N p j : Nat} {vt vr : Value} {T : List Gr} {R : List Ry} (h : JM C w N p vt vr T R) (hj : j < T.length) :
    ∃ t cap, vt = .slice (some ⟨t, 0, none⟩) T.length cap ∧ t < w.heap.size ∧ t ≠ p ∧ ∃ A n c B m d, w.cell? ⟨t, j * 2, none⟩ = some (.slice A n c) ∧ w.cell? ⟨t, j * 2 + 1, none⟩ = some (.slice B m d) ∧ On (fun b => C b ∧ Jo p vt vr b) w (Ils · A n ((gp T j).map Prod.fst)) ∧ On (fun b => C b ∧ Jo p vt vr b) w (Reqs · B m ((gp T j).map Prod.snd)) := by
  obtain ⟨xs, h1, h2⟩ := h.todo
  have hpt := h.pt
  obtain ⟨A0, c0, e0, -⟩ := own_new h1
  subst e0
  obtain ⟨g, rfl, -, hg⟩ := own_at h1 (by omega)
  obtain ⟨A, n, c, B, m, d, e1, e2, r1, r2⟩ := h2.2 j hj
  exact ⟨g, c0, rfl, hg, fun e => hpt g rfl e.symm, A, n, c, B, m, d, (h1.cellAt _ (by omega)).trans e1, (h1.cellAt _ (by omega)).trans e2, r1, r2⟩
theorem JM.answer {C : Nat → Prop} {w : World} {N p j : Nat} {vt vr : Value} {T : List Gr} {R : List Ry} (h : JM C w N p vt vr T R) (hj : j < R.length) :
    ∃ t cap, vr = .slice (some ⟨t, 0, none⟩) R.length cap ∧ t < w.heap.size ∧ t ≠ p ∧ ∃ k : Sh, (∀ i, i < 6 → w.cell? ⟨t, j * 6 + i, none⟩ = (ryC k (ry R j))[i]?) ∧ On (fun b => C b ∧ Jo p vt vr b) w (AnR · k (ry R j).2) := by
  obtain ⟨ys, h1, h2⟩ := h.ready
  have hpr := h.pr
  obtain ⟨A0, c0, e0, -⟩ := own_new h1
  subst e0
  obtain ⟨g, rfl, -, hg⟩ := own_at h1 (by omega)
  obtain ⟨k, e, r⟩ := h2.2 j hj
  exact ⟨g, c0, rfl, hg, fun e => hpr g rfl e.symm, k, fun i hi => (h1.cellAt _ (by omega)).trans (e i hi), r⟩

set_option maxHeartbeats 400000 in
theorem jnew_any (C : Nat → Prop) {w : World} {N : Nat} (hN : N ≤ w.heap.size) :
    Calls Try.prog 6 #[] w fun e w' => e = .returned (.pointer (some ⟨w.heap.size, 0, none⟩)) ∧ JM C w' N w.heap.size (.slice none 0 0) (.slice none 0 0) [] [] ∧ Below w.heap.size w w' ∧ w'.heap.size = w.heap.size + 1 := by
  go_enter Try.func6, Try.ntmps6
  go_wp2
  go_ret
  exact ⟨rfl, ⟨Deep.blk_alloc_new w _, hN, ⟨[], World.ownsRow_nil _ _ _ _, readsG_nil _ _⟩, ⟨[], World.ownsRow_nil _ _ _ _, readsY_nil _ _⟩, (fun k hk => by cases hk), (fun k hk => by cases hk), (fun k hk => by cases hk)⟩, (Below.refl _ _).alloc (Nat.le_refl _) _, alloc_sz _ _⟩

def openB (T : List Gr) (R : List Ry) : Bool := decide (0 < T.length + R.length)
set_option maxHeartbeats 1000000 in
theorem open_any {C : Nat → Prop} {w : World} {N p : Nat} {vt vr : Value} {T : List Gr} {R : List Ry} (h : JM C w N p vt vr T R) (hn : T.length + R.length ≤ 1000) :
    Calls Try.prog 21 #[.pointer (some ⟨p, 0, none⟩)] w fun e w' => e = .returned (.bool (openB T R)) ∧ Below w.heap.size w w' := by
  obtain ⟨c0, c1, -, -⟩ := h.cells
  obtain ⟨A, c, B, d, rfl, rfl⟩ := h.shape
  unfold openB
  clear h
  generalize T.length = t at *
  generalize R.length = r at *
  have e1 : decide (((t : Int) + (r : Int)) > 0) = decide (0 < t + r) := by rw [Bool.eq_iff_iff]; simp; omega
  have HE := Lib.hid e1
  clear e1
  go_enter Try.func21, Try.ntmps21
  go_upto_region 1 with fail
  go_quiet (fail)
  go_wp2
  go_ret
  exact ⟨ret_bool HE.out, below_drewN (Below.refl _ _) _⟩

set_option maxHeartbeats 2000000 in
theorem left_any {C : Nat → Prop} {w : World} {N p : Nat} {vt vr : Value} {T : List Gr} {R : List Ry} (h : JM C w N p vt vr T R) (hn : T.length ≤ 1000) (hs : sizeT T + R.length ≤ 1000) :
    Calls Try.prog 16 #[.pointer (some ⟨p, 0, none⟩)] w fun e w' => e = .returned (.tuple #[.int .i64 (sizeT T), .int .i64 ((sizeT T + R.length : Nat) : Int)]) ∧ Below w.heap.size w w' := by
  have H := Lib.hid h
  obtain ⟨c0, c1, -, -⟩ := h.cells
  obtain ⟨A, c, B, d, rfl, rfl⟩ := h.shape
  have hpl := h.lt
  clear h
  have HS := Lib.hid (And.intro hs (fun j => sizeT_le T j))
  obtain ⟨tl, htl⟩ : ∃ tl, tl = T.length := ⟨_, rfl⟩
  obtain ⟨rl, hrl⟩ : ∃ rl, rl = R.length := ⟨_, rfl⟩
  rw [← htl] at c0 hn
  rw [← hrl] at c1 hs ⊢
  have HTL := Lib.hid htl
  have HRL := Lib.hid hrl
  clear htl hrl
  obtain ⟨q0, hq0⟩ : ∃ q0, q0 = sizeT T := ⟨_, rfl⟩
  rw [← hq0] at hs ⊢
  have hs0 : q0 ≤ 1000 := by omega
  have HQ0 := Lib.hid hq0
  have HC := Lib.hid (And.intro c0 c1)
  clear hs hq0
  go_enter Try.func16, Try.ntmps16
  go_wp2
  clear c0 c1
  go_loopw [4, 12] (fun q s wr => ∃ j : Nat, j ≤ tl ∧ q = .int .i64 (sizeT (T.take j)) ∧ s = .int .i64 j ∧ Below w.heap.size w wr) (fun _ s _ => tl - (intOf s).toNat)
  case atStart => exact ⟨0, Nat.zero_le _, rfl, rfl, Below.refl _ _⟩
  case round =>
    obtain ⟨j, hj, rfl, rfl, hb⟩ := hrel
    have HB := Lib.hid hb
    clear hb
    by_cases hlt : j < tl
    · have hlt2 : j < T.length := by rw [← HTL.out]; exact hlt
      obtain ⟨t, cap, ev, htl2, -, A1, n1, c1, B1, m1, d1, k0, k1, r1, r2⟩ := (H.out.below HB.out).group hlt2
      injection ev with ev1 ev2 ev3
      subst ev1
      have hm1 : m1 = (gp T j).length := by have := r2.here.1; simp at this; omega
      have hst := sizeT_take hlt2
      have hle := HS.out.2 (j + 1)
      rw [hst, ← hm1, ← HQ0.out] at hle
      have HST := Lib.hid (show sizeT (T.take (j + 1)) = sizeT (T.take j) + m1 by rw [hst, hm1])
      generalize sizeT (T.take j) = q at hle HST
      clear r1 r2 hm1 hst hlt2 ev2 ev3
      go_wp2
      go_roundw
      case rel => exact ⟨j + 1, by omega, by rw [HST.out]; go_num, by go_num, HB.out.trans ((((Below.refl _ _).alloc (Nat.le_refl _) _)).mono HB.out.size)⟩
      case measure => simp [intOf]; omega
    · obtain rfl : j = tl := by omega
      have c1 := (HB.out.cell (p := ⟨p, 1, none⟩) hpl).trans HC.out.2
      have HT := Lib.hid (show sizeT (T.take j) = q0 by rw [List.take_of_length_le (by rw [← HTL.out]; exact Nat.le_refl _), HQ0.out])
      have HSR := Lib.hid (show q0 + rl ≤ 1000 by rw [HRL.out, HQ0.out]; exact HS.out.1)
      rw [HT.out]
      have hqr : q0 + rl ≤ 1000 := HSR.out
      go_upto_region 7 with fail
      go_quiet (fail)
      go_wp2
      refine bodyPost_ret (v := .tuple #[.int .i64 q0, .int .i64 ((q0 + rl : Nat) : Int)]) (by simp [results, Try.results16, go_sem]) rfl ⟨rfl, below_drewN HB.out _⟩
end Go.Proofs.Ythcchaglloggjaa
