/- The law's head (the document's example): it returns true; nothing that was there is changed. No condition. -/
import Derived.Test.YthcchaglloggjaaWn
import Derived.Lib.SlBytesConst
import Derived.Lib.SmallJoins
namespace Go.Proofs.Ythcchaglloggjaa
open Go.RowKit
set_option linter.unusedVariables false
set_option maxRecDepth 100000

def upQ : Rq := ⟨0, 0, 4, [97], [], [], [], 0⟩
theorem up_facts : (thenQ [] [upQ, upQ] 9 2).length = 1 ∧ (gs (allQ [] [upQ, upQ] 9 2) 0).found = false ∧ (gs (allQ [] [upQ, upQ] 9 2) 1).found = true ∧ mayQ upQ = true ∧ smallQ upQ = true := by decide
theorem fit_nilQ : Fit [] := ⟨List.Pairwise.nil, fun p hp => by cases hp⟩
def upH (b : Nat) : Qh := ⟨some ⟨b, 0, none⟩, 1, 1, none, 0, 0, none, 0, 0, none, 0, 0⟩
theorem byt_lit (w : World) (u : UInt8) (x : Int) (hx : x = (u.toNat : Int)) (fr : Nat × Nat) : Byt (w.alloc (.cells #[.int .u8 x] 5 fr)) (some ⟨w.heap.size, 0, none⟩) 1 [u] := by
  refine ⟨rfl, fun _ => ⟨_, rfl, by simp, fun j hj => ?_⟩⟩
  obtain rfl : j = 0 := by simp at hj; omega
  have := World.cell?_alloc_mark w #[.int .u8 x] 5 fr 0
  simpa [Addr.add, hx] using this
/-- Two requests in a new block. -/
theorem two_reqs {w : World} {h1 h2 : Qh} {r1 r2 : Rq} (y1 : RqR w h1 r1) (y2 : RqR w h2 r2) : ∃ W, W = w.alloc (.cells #[.int .i64 r1.cl, .int .i64 r1.sq, .int .i64 r1.kind, .slice h1.A h1.n h1.c, .slice h1.B h1.m h1.d, .slice h1.C h1.o h1.p, .slice h1.D h1.q h1.s, .int .i64 r1.limit,
      .int .i64 r2.cl, .int .i64 r2.sq, .int .i64 r2.kind, .slice h2.A h2.n h2.c, .slice h2.B h2.m h2.d, .slice h2.C h2.o h2.p, .slice h2.D h2.q h2.s, .int .i64 r2.limit] 60) ∧
    Below w.heap.size w W ∧ Reqs W (some ⟨w.heap.size, 0, none⟩) 2 [r1, r2] ∧ W.heap.size = w.heap.size + 1 := by
  refine ⟨_, rfl, (Below.refl _ _).alloc (Nat.le_refl _) _, ⟨rfl, by unfold maxLen; omega, fun _ => ⟨w.heap.size, 0, rfl, by simp, fun j hj => ?_⟩⟩, by simp⟩
  have hb := (Below.refl w.heap.size w).alloc (Nat.le_refl _) (.cells #[.int .i64 r1.cl, .int .i64 r1.sq, .int .i64 r1.kind, .slice h1.A h1.n h1.c, .slice h1.B h1.m h1.d, .slice h1.C h1.o h1.p, .slice h1.D h1.q h1.s, .int .i64 r1.limit,
      .int .i64 r2.cl, .int .i64 r2.sq, .int .i64 r2.kind, .slice h2.A h2.n h2.c, .slice h2.B h2.m h2.d, .slice h2.C h2.o h2.p, .slice h2.D h2.q h2.s, .int .i64 r2.limit] 60)
  have hc : j = 0 ∨ j = 1 := by omega
  rcases hc with rfl | rfl
  · exact ⟨h1, by simp; rfl, by simp; rfl, by simp; rfl, by simp, by simp, by simp, by simp, by simp; rfl, y1.below hb⟩
  · exact ⟨h2, by simp; rfl, by simp; rfl, by simp; rfl, by simp, by simp, by simp, by simp, by simp; rfl, y2.below hb⟩

theorem smallq_lit {w : World} {h : Qh} {r : Rq} (hr : RqR w h r) : Calls Try.prog 24 #[.agg #[.int .i64 r.cl, .int .i64 r.sq, .int .i64 r.kind, .slice h.A h.n h.c, .slice h.B h.m h.d, .slice h.C h.o h.p, .slice h.D h.q h.s, .int .i64 r.limit]] w fun e w' => e = .returned (.bool (smallQ r)) ∧ Below w.heap.size w w' := smallq_any hr
theorem box_qq (w : World) (h h' : Qh) (r r' : Rq) : ∃ V, V = (w.alloc (.cells #[.int .i64 r.cl, .int .i64 r.sq, .int .i64 r.kind, .slice h.A h.n h.c, .slice h.B h.m h.d, .slice h.C h.o h.p, .slice h.D h.q h.s, .int .i64 r.limit] 60)).alloc (.cells #[.int .i64 r'.cl, .int .i64 r'.sq, .int .i64 r'.kind, .slice h'.A h'.n h'.c, .slice h'.B h'.m h'.d, .slice h'.C h'.o h'.p, .slice h'.D h'.q h'.s, .int .i64 r'.limit] 60) ∧
    Below w.heap.size w V ∧ BoxQ V w.heap.size h r ∧ BoxQ V (w.heap.size + 1) h' r' ∧ V.heap.size = w.heap.size + 1 + 1 := by
  obtain ⟨W, hW, hWB, hWS, hWs⟩ := box_q w h r
  obtain ⟨V, hV, hVB, hVS, hVs⟩ := box_q W h' r'
  subst hW
  refine ⟨V, hV, hWB.trans (hVB.mono (by omega)), hWS.below hVB (by omega), ?_, by omega⟩
  rw [hWs] at hVS
  exact hVS

theorem small_two {a b : Rq} (ha : smallQ a = true) (hb : smallQ b = true) : ∀ j, j < 2 → smallQ (gq [a, b] j) = true := fun j hj => by
  have hc : j = 0 ∨ j = 1 := by omega
  rcases hc with rfl | rfl
  · exact ha
  · exact hb

end Go.Proofs.Ythcchaglloggjaa
