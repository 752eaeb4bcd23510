/- Requests and answers in memory; contracts of package omap's Reads, refused, span, and of the document's own Small and Few. Condition: what came in can be read. -/
import Derived.Test.YthcchaglloggjaaWb
import Derived.Deep.DeepCutAuto
import Derived.Deep.RegionLaw
import Derived.BigQuiet
namespace Go.Proofs.Ythcchaglloggjaa
open Go.RowKit
set_option linter.unusedVariables false
set_option maxRecDepth 100000

/-- Where a request's slices lie. -/
structure Qh where
  A : Option Addr
  n : Nat
  c : Nat
  B : Option Addr
  m : Nat
  d : Nat
  C : Option Addr
  o : Nat
  p : Nat
  D : Option Addr
  q : Nat
  s : Nat
/-- Where an answer's slices lie. -/
structure Sh where
  A : Option Addr
  n : Nat
  c : Nat
  B : Option Addr
  m : Nat
  d : Nat
def rqV (h : Qh) (r : Rq) : Value := .agg #[.int .i64 r.cl, .int .i64 r.sq, .int .i64 r.kind, .slice h.A h.n h.c, .slice h.B h.m h.d, .slice h.C h.o h.p, .slice h.D h.q h.s, .int .i64 r.limit]
def rsV (h : Sh) (s : Rs) : Value := .agg #[.int .i64 s.code, .bool s.found, .slice h.A h.n h.c, .slice h.B h.m h.d, .int .u64 0]
def RqR (w : World) (h : Qh) (r : Rq) : Prop := Byt w h.A h.n r.key ∧ Byt w h.B h.m r.val ∧ Byt w h.C h.o r.old ∧ Byt w h.D h.q r.to_
def RsR (w : World) (h : Sh) (s : Rs) : Prop := Byt w h.A h.n s.val ∧ Prs w h.B h.m h.d s.rows
theorem RqR.below {w w' : World} {h : Qh} {r : Rq} (hr : RqR w h r) (hb : Below w.heap.size w w') : RqR w' h r := ⟨hr.1.below hb, hr.2.1.below hb, hr.2.2.1.below hb, hr.2.2.2.below hb⟩
theorem RsR.below {w w' : World} {h : Sh} {s : Rs} (hr : RsR w h s) (hb : Below w.heap.size w w') : RsR w' h s := ⟨hr.1.below hb, hr.2.below hb⟩

/-- A request's box, an answer's. -/
def BoxQ (w : World) (b : Nat) (h : Qh) (r : Rq) : Prop := w.heap[b]? = some (.cells #[.int .i64 r.cl, .int .i64 r.sq, .int .i64 r.kind, .slice h.A h.n h.c, .slice h.B h.m h.d, .slice h.C h.o h.p, .slice h.D h.q h.s, .int .i64 r.limit] 60 (0, 0))
def BoxS (w : World) (b : Nat) (h : Sh) (s : Rs) : Prop := w.heap[b]? = some (.cells #[.int .i64 s.code, .bool s.found, .slice h.A h.n h.c, .slice h.B h.m h.d, .int .u64 0] 46 (0, 0))
theorem BoxQ.lt {w : World} {b : Nat} {h : Qh} {r : Rq} (hb : BoxQ w b h r) : b < w.heap.size := (Array.getElem?_eq_some_iff.1 hb).1
theorem BoxS.lt {w : World} {b : Nat} {h : Sh} {s : Rs} (hb : BoxS w b h s) : b < w.heap.size := (Array.getElem?_eq_some_iff.1 hb).1
theorem BoxQ.below {w w' : World} {b B : Nat} {h : Qh} {r : Rq} (hx : BoxQ w b h r) (hb : Below B w w') (hB : b < B) : BoxQ w' b h r := (hb.block b hB).trans hx
theorem BoxS.below {w w' : World} {b B : Nat} {h : Sh} {s : Rs} (hx : BoxS w b h s) (hb : Below B w w') (hB : b < B) : BoxS w' b h s := (hb.block b hB).trans hx
theorem BoxQ.cells {w : World} {b : Nat} {h : Qh} {r : Rq} (hb : BoxQ w b h r) :
    w.cell? ⟨b, 0, none⟩ = some (.int .i64 r.cl) ∧ w.cell? ⟨b, 1, none⟩ = some (.int .i64 r.sq) ∧ w.cell? ⟨b, 2, none⟩ = some (.int .i64 r.kind) ∧ w.cell? ⟨b, 3, none⟩ = some (.slice h.A h.n h.c) ∧
      w.cell? ⟨b, 4, none⟩ = some (.slice h.B h.m h.d) ∧ w.cell? ⟨b, 5, none⟩ = some (.slice h.C h.o h.p) ∧ w.cell? ⟨b, 6, none⟩ = some (.slice h.D h.q h.s) ∧ w.cell? ⟨b, 7, none⟩ = some (.int .i64 r.limit) := by
  unfold BoxQ at hb
  simp [World.cell?, hb]
theorem BoxS.cells {w : World} {b : Nat} {h : Sh} {s : Rs} (hb : BoxS w b h s) :
    w.cell? ⟨b, 0, none⟩ = some (.int .i64 s.code) ∧ w.cell? ⟨b, 1, none⟩ = some (.bool s.found) ∧ w.cell? ⟨b, 2, none⟩ = some (.slice h.A h.n h.c) ∧ w.cell? ⟨b, 3, none⟩ = some (.slice h.B h.m h.d) ∧ w.cell? ⟨b, 4, none⟩ = some (.int .u64 0) ∧
      w.frozen? ⟨b, 0, none⟩ = false ∧ w.frozen? ⟨b, 1, none⟩ = false ∧ w.frozen? ⟨b, 2, none⟩ = false ∧ w.frozen? ⟨b, 3, none⟩ = false ∧ w.frozen? ⟨b, 4, none⟩ = false := by
  unfold BoxS at hb
  simp [World.cell?, World.frozen?, hb]
theorem box_q (w : World) (h : Qh) (r : Rq) : ∃ W, W = w.alloc (.cells #[.int .i64 r.cl, .int .i64 r.sq, .int .i64 r.kind, .slice h.A h.n h.c, .slice h.B h.m h.d, .slice h.C h.o h.p, .slice h.D h.q h.s, .int .i64 r.limit] 60) ∧ Below w.heap.size w W ∧ BoxQ W w.heap.size h r ∧ W.heap.size = w.heap.size + 1 :=
  ⟨_, rfl, (Below.refl _ _).alloc (Nat.le_refl _) _, Deep.blk_alloc_new _ _, by simp⟩
theorem five_below {B b : Nat} {a w : World} (h : Below B a w) (hb : B ≤ b) (o : Nat) (u1 u2 u3 u4 u5 : Value) :
    Below B a (((((w.setCell ⟨b, o, none⟩ u1).setCell ⟨b, o + 1, none⟩ u2).setCell ⟨b, o + 2, none⟩ u3).setCell ⟨b, o + 3, none⟩ u4).setCell ⟨b, o + 4, none⟩ u5) :=
  ((((h.setCell hb _).setCell hb _).setCell hb _).setCell hb _).setCell hb _
theorem two_below {B b : Nat} {a w : World} (h : Below B a w) (hb : B ≤ b) (o : Nat) (u1 u2 : Value) :
    Below B a ((w.setCell ⟨b, o, none⟩ u1).setCell ⟨b, o + 1, none⟩ u2) := (h.setCell hb _).setCell hb _
theorem alloc_sz (w : World) (o : Obj) : (w.alloc o).heap.size = w.heap.size + 1 := by simp

set_option maxHeartbeats 1000000 in
theorem qspan_any (w : World) (h : Qh) (r : Rq) : Calls Try.prog 61 #[rqV h r] w fun e w' => e = .returned (.agg #[.slice h.A h.n h.c, .slice h.D h.q h.s]) ∧ Below w.heap.size w w' := by
  unfold rqV
  go_enter Try.func61, Try.ntmps61
  go_wp2
  refine bodyPost_ret (v := .agg #[.slice h.A h.n h.c, .slice h.D h.q h.s]) (by simp [results, Try.results61, go_sem]) rfl ⟨rfl, ?_⟩
  exact ((Below.refl w.heap.size w).alloc (Nat.le_refl _) _).alloc (Nat.le_of_lt (by rw [alloc_sz]; exact Nat.lt_succ_self _)) _

def smallQ (r : Rq) : Bool := decide (r.key.length ≤ 100) && (decide (r.val.length ≤ 100) && (decide (r.old.length ≤ 100) && decide (r.to_.length ≤ 100)))
set_option maxHeartbeats 1000000 in
theorem smallq_any {w : World} {h : Qh} {r : Rq} (hr : RqR w h r) : Calls Try.prog 24 #[rqV h r] w fun e w' => e = .returned (.bool (smallQ r)) ∧ Below w.heap.size w w' := by
  obtain ⟨cl, sq, kind, key, val, old, to_, limit⟩ := r
  obtain ⟨A, n, c, B, m, d, C, o, p, D, q, s⟩ := h
  obtain ⟨h1, h2, h3, h4⟩ := hr
  have hs : smallQ ⟨cl, sq, kind, key, val, old, to_, limit⟩ = (decide (n ≤ 100) && (decide (m ≤ 100) && (decide (o ≤ 100) && decide (q ≤ 100)))) := by
    unfold smallQ
    rw [show key.length = n from h1.1, show val.length = m from h2.1, show old.length = o from h3.1, show to_.length = q from h4.1]
  have HS := Lib.hid hs
  clear hs h1 h2 h3 h4
  unfold rqV
  dsimp only
  by_cases g1 : n ≤ 100
  · by_cases g2 : m ≤ 100
    · by_cases g3 : o ≤ 100
      · by_cases g4 : q ≤ 100
        all_goals
          go_enter Try.func24, Try.ntmps24
          go_wp2
          go_ret
          refine ⟨ret_bool ?_, (Below.refl _ _).alloc (Nat.le_refl _) _⟩
          rw [HS.out]
          simp [g1, g2, g3, g4]
          try omega
      · go_enter Try.func24, Try.ntmps24
        go_wp2
        go_ret
        refine ⟨ret_bool ?_, (Below.refl _ _).alloc (Nat.le_refl _) _⟩
        rw [HS.out]
        simp [g3]
    · go_enter Try.func24, Try.ntmps24
      go_wp2
      go_ret
      refine ⟨ret_bool ?_, (Below.refl _ _).alloc (Nat.le_refl _) _⟩
      rw [HS.out]
      simp [g2]
  · go_enter Try.func24, Try.ntmps24
    go_wp2
    go_ret
    refine ⟨ret_bool ?_, (Below.refl _ _).alloc (Nat.le_refl _) _⟩
    rw [HS.out]
    simp [g1]
end Go.Proofs.Ythcchaglloggjaa
