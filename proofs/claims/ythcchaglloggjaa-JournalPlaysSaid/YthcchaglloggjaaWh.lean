/- The contract of package omap's answer. Condition: a row of no more than 900 pairs; a request whose slices have at most 100 bytes; what came in can be read. -/
import Derived.Test.YthcchaglloggjaaWg
namespace Go.Proofs.Ythcchaglloggjaa
open Go.RowKit
set_option linter.unusedVariables false
set_option maxRecDepth 100000

/-- A request's box, and behind it that of a result. -/
theorem box_qs (w : World) (h : Qh) (r : Rq) : ∃ V, V = (w.alloc (.cells #[.int .i64 r.cl, .int .i64 r.sq, .int .i64 r.kind, .slice h.A h.n h.c, .slice h.B h.m h.d, .slice h.C h.o h.p, .slice h.D h.q h.s, .int .i64 r.limit] 60)).alloc (.cells #[.int .i64 0, .bool false, .slice none 0 0, .slice none 0 0, .int .u64 0] 46) ∧
    Below w.heap.size w V ∧ BoxQ V w.heap.size h r ∧ BoxS V (w.heap.size + 1) sh0 rs0 ∧ V.heap.size = w.heap.size + 1 + 1 := by
  obtain ⟨W, hW, hWB, hWS, hWs⟩ := box_q w h r
  obtain ⟨V, hV, hVB, hVS, hVs⟩ := box_s0 W
  subst hW
  refine ⟨V, hV, hWB.trans (hVB.mono (by omega)), hWS.below hVB (by omega), ?_, by omega⟩
  rw [hWs] at hVS
  exact hVS
theorem may_lit {w : World} {h : Qh} {r : Rq} (hr : RqR w h r) (hs : smallQ r = true) : Calls Try.prog 48 #[.agg #[.int .i64 r.cl, .int .i64 r.sq, .int .i64 r.kind, .slice h.A h.n h.c, .slice h.B h.m h.d, .slice h.C h.o h.p, .slice h.D h.q h.s, .int .i64 r.limit]] w fun e w' => e = .returned (.bool (mayQ r)) ∧ Below w.heap.size w w' := omay_any hr hs
theorem BoxQ.three {w : World} {b : Nat} {h : Qh} {r : Rq} (hb : BoxQ w b h r) : w.cell? ⟨b, 2, none⟩ = some (.int .i64 r.kind) ∧ w.cell? ⟨b, 3, none⟩ = some (.slice h.A h.n h.c) ∧ w.cell? ⟨b, 5, none⟩ = some (.slice h.C h.o h.p) := ⟨hb.cells.2.2.1, hb.cells.2.2.2.1, hb.cells.2.2.2.2.2.1⟩
theorem told_on {w1 w2 : World} {B : Nat} {P : World → Prop} (h : On (w1.heap.size ≤ ·) w2 P) (hB : B ≤ w1.heap.size) : On (B ≤ ·) w2 P := h.mono fun b hb => Nat.le_trans hB hb

theorem box_was (w : World) (h : Sh) (L : List Pr) (k : Ky) (hb : Bool) (hhb : hb = hasB L k) : ∃ W, W = w.alloc (.cells #[.int .i64 0, .bool hb, .slice h.A h.n h.c, .slice h.B h.m h.d, .int .u64 0] 46) ∧ Below w.heap.size w W ∧ W.heap.size = w.heap.size + 1 ∧
    W.cell? ⟨w.heap.size, 0, none⟩ = some (.int .i64 0) ∧ W.cell? ⟨w.heap.size, 1, none⟩ = some (.bool hb) ∧ W.cell? ⟨w.heap.size, 2, none⟩ = some (.slice h.A h.n h.c) ∧ W.cell? ⟨w.heap.size, 3, none⟩ = some (.slice h.B h.m h.d) ∧ W.cell? ⟨w.heap.size, 4, none⟩ = some (.int .u64 0) := by
  subst hhb
  obtain ⟨W, h1, h2, h3, h4⟩ := box_s w h (wasQ L k)
  obtain ⟨x0, x1, x2, x3, x4, -⟩ := h3.cells
  exact ⟨W, h1, h2, h4, x0, x1, x2, x3, x4⟩

end Go.Proofs.Ythcchaglloggjaa
