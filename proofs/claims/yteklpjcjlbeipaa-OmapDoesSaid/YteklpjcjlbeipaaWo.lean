/- The law's head (the document's example): it returns true; nothing that was there is changed. No condition. -/
import Derived.Test.YteklpjcjlbeipaaWn
import Derived.Lib.SlBytesConst
import Derived.Lib.SmallJoins
namespace Go.Proofs.Yteklpjcjlbeipaa
open Go.RowKit
set_option linter.unusedVariables false
set_option maxRecDepth 100000

def upQ : Rq := ⟨0, 0, 4, [97], [], [], [], 0⟩
theorem up_facts : (thenQ [] [upQ, upQ] 9 2).length = 1 ∧ (gs (allQ [] [upQ, upQ] 9 2) 0).found = false ∧ (gs (allQ [] [upQ, upQ] 9 2) 1).found = true ∧ mayQ upQ = true ∧ smallQ upQ = true := by decide
theorem fit_nilQ : Fit [] := ⟨List.Pairwise.nil, fun p hp => by cases hp⟩
def upH (b : Nat) : Qh := ⟨some ⟨b, 0, none⟩, 1, 1, none, 0, 0, none, 0, 0, none, 0, 0⟩
theorem byt_lit (w : World) (u : UInt8) (x : Int) (hx : x = (u.toNat : Int)) (fr : Nat × Nat) : Byt (w.alloc (.cells #[.int .u8 x] 5 fr)) (some ⟨w.heap.size, 0, none⟩) 1 [u] := by
  refine ⟨rfl, fun _ => ⟨_, rfl, by simp, fun j hj => ?_⟩⟩
  obtain rfl : j = 0 := by simp at hj; omega
  have := World.cell?_alloc_mark w #[.int .u8 x] 5 fr 0
  simpa [Addr.add, hx] using this
/-- Two requests in a new block. -/
theorem two_reqs {w : World} {h1 h2 : Qh} {r1 r2 : Rq} (y1 : RqR w h1 r1) (y2 : RqR w h2 r2) : ∃ W, W = w.alloc (.cells #[.int .i64 r1.cl, .int .i64 r1.sq, .int .i64 r1.kind, .slice h1.A h1.n h1.c, .slice h1.B h1.m h1.d, .slice h1.C h1.o h1.p, .slice h1.D h1.q h1.s, .int .i64 r1.limit,
      .int .i64 r2.cl, .int .i64 r2.sq, .int .i64 r2.kind, .slice h2.A h2.n h2.c, .slice h2.B h2.m h2.d, .slice h2.C h2.o h2.p, .slice h2.D h2.q h2.s, .int .i64 r2.limit] 36) ∧
    Below w.heap.size w W ∧ Reqs W (some ⟨w.heap.size, 0, none⟩) 2 [r1, r2] ∧ W.heap.size = w.heap.size + 1 := by
  refine ⟨_, rfl, (Below.refl _ _).alloc (Nat.le_refl _) _, ⟨rfl, by unfold maxLen; omega, fun _ => ⟨w.heap.size, 0, rfl, by simp, fun j hj => ?_⟩⟩, by simp⟩
  have hb := (Below.refl w.heap.size w).alloc (Nat.le_refl _) (.cells #[.int .i64 r1.cl, .int .i64 r1.sq, .int .i64 r1.kind, .slice h1.A h1.n h1.c, .slice h1.B h1.m h1.d, .slice h1.C h1.o h1.p, .slice h1.D h1.q h1.s, .int .i64 r1.limit,
      .int .i64 r2.cl, .int .i64 r2.sq, .int .i64 r2.kind, .slice h2.A h2.n h2.c, .slice h2.B h2.m h2.d, .slice h2.C h2.o h2.p, .slice h2.D h2.q h2.s, .int .i64 r2.limit] 36)
  have hc : j = 0 ∨ j = 1 := by omega
  rcases hc with rfl | rfl
  · exact ⟨h1, by simp; rfl, by simp; rfl, by simp; rfl, by simp, by simp, by simp, by simp, by simp; rfl, y1.below hb⟩
  · exact ⟨h2, by simp; rfl, by simp; rfl, by simp; rfl, by simp, by simp, by simp, by simp, by simp; rfl, y2.below hb⟩

set_option maxHeartbeats 4000000 in
theorem up_any (w : World) : Calls Try.prog 6 #[] w fun e w' => e = .returned (.bool true) ∧ Below w.heap.size w w' := by
  have kc := fun (w : World) (C : Array Value) (n c g : Nat) (hg : g = w.heap.size) => Joins.run_convert_bytes_const_at (P := Try.prog) w 34 5 C n c g hg Try.underlying34 Try.underlying5
  have ha := byt_lit w 97 97 rfl (1, 2)
  obtain ⟨W1, hW1, hWB1, hWQ1, hWs1⟩ := box_q (w.alloc (.cells #[.int .u8 97] 5 (1, 2))) (upH w.heap.size) upQ
  have hR : RqR W1 (upH w.heap.size) upQ := ⟨ha.below hWB1, byt_none _, byt_none _, byt_none _⟩
  obtain ⟨W, hW, hWB, hWR, hWs⟩ := two_reqs hR hR
  rw [alloc_sz] at hWs1 hWQ1
  have hsz : W1.heap.size = w.heap.size + 1 + 1 := hWs1
  rw [hsz] at hWR hWs
  have hB0 : Below w.heap.size w W := ((((Below.refl w.heap.size w).alloc (Nat.le_refl _) (.cells #[.int .u8 97] 5 (1, 2))).trans (hWB1.mono (by simp))).trans (hWB.mono (by omega)))
  have HALL := Lib.hid (all_any (prs_nil W) (c := 0) 2 hWR (fun j hj => by
    have hc : j = 0 ∨ j = 1 := by omega
    rcases hc with rfl | rfl
    · exact up_facts.2.2.2.2
    · exact up_facts.2.2.2.2) fit_nilQ (by omega) (by omega) 9)
  have HQ := Lib.hid (hWQ1.below hWB (by omega))
  have HB := Lib.hid hB0
  have HR := Lib.hid (hR.below hWB)
  have hWe := Lib.hid (show W = ((w.alloc (.cells #[.int .u8 97] 5 (1, 2))).alloc (.cells #[.int .i64 0, .int .i64 0, .int .i64 4, .slice (some ⟨w.heap.size, 0, none⟩) 1 1, .slice none 0 0, .slice none 0 0, .slice none 0 0, .int .i64 0] 36)).alloc (.cells #[.int .i64 0, .int .i64 0, .int .i64 4, .slice (some ⟨w.heap.size, 0, none⟩) 1 1, .slice none 0 0, .slice none 0 0, .slice none 0 0, .int .i64 0, .int .i64 0, .int .i64 0, .int .i64 4, .slice (some ⟨w.heap.size, 0, none⟩) 1 1, .slice none 0 0, .slice none 0 0, .slice none 0 0, .int .i64 0] 36) by
    rw [hW, hW1]
    rfl)
  have hwl : w.heap.size + 1 < W.heap.size := by omega
  clear ha hW1 hWB1 hWQ1 hWs1 hR hW hWB hWR hWs hsz hB0
  go_enter Try.func6, Try.ntmps6
  go_wp2_with fail
  rw [← hWe.out]
  refine HALL.out.mono ?_
  rintro e w1 ⟨A1, n1, c1, A2, c2, rfl, hp, hrs, hb1⟩
  have h1 : n1 = 1 := by rw [← hp.len]; exact up_facts.1
  subst h1
  obtain ⟨b, o, rfl, hbl, g1, x0, x1, x2, x3, x4, -⟩ := hrs.at_ (j := 0) (by omega)
  obtain ⟨b', o', e', -, g2, y0, y1, y2, y3, y4, -⟩ := hrs.at_ (j := 1) (by omega)
  injection e' with e'
  injection e' with e1 e2
  subst e1
  subst e2
  rw [up_facts.2.1] at x1
  rw [up_facts.2.2.1] at y1
  have HMAY := Lib.hid (may_lit (h := upH w.heap.size) (HR.out.below hb1) up_facts.2.2.2.2)
  rw [up_facts.2.2.2.1] at HMAY
  obtain ⟨q0, q1, q2, q3, q4, q5, q6, q7⟩ := (HQ.out.below hb1 hwl).cells
  have HB1 := Lib.hid (HB.out.trans (hb1.mono HB.out.size))
  simp only [upQ, upH] at q0 q1 q2 q3 q4 q5 q6 q7 HMAY
  simp only [Nat.zero_mul, Nat.one_mul, Nat.add_zero] at x1 y1
  clear x0 x2 x3 x4 y0 y2 y3 y4 hp hrs hb1 HALL HQ HR hWe HB
  go_wp2_with fail
  refine HMAY.out.mono ?_
  rintro e w2 ⟨rfl, hb2⟩
  have HB2 := Lib.hid (HB1.out.trans (hb2.mono HB1.out.size))
  clear hb2 HMAY
  go_wp2
  go_ret
  exact ⟨rfl, HB2.out⟩
end Go.Proofs.Yteklpjcjlbeipaa
