/- The contract of the document's own Asked (where both read the same: true). Condition: what came in can be read. -/
import Derived.Test.YthcchaglloggjaaZh
namespace Go.Proofs.Ythcchaglloggjaa
open Go.RowKit
set_option linter.unusedVariables false
set_option maxRecDepth 100000

theorem box_qr (w : World) (h h' : Qh) (r r' : Rq) : ∃ V, V = (w.alloc (.cells #[.int .i64 r.cl, .int .i64 r.sq, .int .i64 r.kind, .slice h.A h.n h.c, .slice h.B h.m h.d, .slice h.C h.o h.p, .slice h.D h.q h.s, .int .i64 r.limit] 60)).alloc (.cells #[.int .i64 r'.cl, .int .i64 r'.sq, .int .i64 r'.kind, .slice h'.A h'.n h'.c, .slice h'.B h'.m h'.d, .slice h'.C h'.o h'.p, .slice h'.D h'.q h'.s, .int .i64 r'.limit] 60) ∧
    Below w.heap.size w V ∧ BoxQ V w.heap.size h r ∧ BoxQ V (w.heap.size + 1) h' r' := by
  obtain ⟨W, hW, hWB, hWS, hWs⟩ := box_q w h r
  obtain ⟨V, hV, hVB, hVS, hVs⟩ := box_q W h' r'
  subst hW
  rw [hWs] at hVS
  exact ⟨V, hV, hWB.trans (hVB.mono (by omega)), hWS.below hVB (by omega), hVS⟩

set_option maxHeartbeats 4000000 in
theorem asked_any {w : World} {h h' : Qh} {r : Rq} (hr : RqR w h r) (hr' : RqR w h' r) :
    Calls Try.prog 33 #[.agg #[.int .i64 r.cl, .int .i64 r.sq, .int .i64 r.kind, .slice h.A h.n h.c, .slice h.B h.m h.d, .slice h.C h.o h.p, .slice h.D h.q h.s, .int .i64 r.limit], .agg #[.int .i64 r.cl, .int .i64 r.sq, .int .i64 r.kind, .slice h'.A h'.n h'.c, .slice h'.B h'.m h'.d, .slice h'.C h'.o h'.p, .slice h'.D h'.q h'.s, .int .i64 r.limit]] w fun e w' => e = .returned (.bool true) ∧ Below w.heap.size w w' := by
  obtain ⟨V, hV, hVB, hV1, hV2⟩ := box_qr w h h' r r
  have HB := Lib.hid hVB
  have hVe := Lib.hid hV
  have r1 := run_str (c := h.c) (hr.1.below hVB)
  have r2 := run_str (c := h'.c) (hr'.1.below hVB)
  have r3 := run_str (c := h.d) (hr.2.1.below hVB)
  have r4 := run_str (c := h'.d) (hr'.2.1.below hVB)
  have r5 := run_str (c := h.p) (hr.2.2.1.below hVB)
  have r6 := run_str (c := h'.p) (hr'.2.2.1.below hVB)
  have r7 := run_str (c := h.s) (hr.2.2.2.below hVB)
  have r8 := run_str (c := h'.s) (hr'.2.2.2.below hVB)
  obtain ⟨x0, x1, x2, x3, x4, x5, x6, x7⟩ := hV1.cells
  obtain ⟨y0, y1, y2, y3, y4, y5, y6, y7⟩ := hV2.cells
  have e1 : (r.cl == r.cl) = true := by simp
  have e2 : (r.sq == r.sq) = true := by simp
  have e3 : (r.kind == r.kind) = true := by simp
  have e4 : (r.limit == r.limit) = true := by simp
  clear hr hr' hV hVB hV1 hV2
  go_enter Try.func33, Try.ntmps33
  go_upto_region 1 with fail
  rw [← hVe.out]
  go_wp2
  go_ret
  exact ⟨rfl, HB.out⟩

end Go.Proofs.Ythcchaglloggjaa
