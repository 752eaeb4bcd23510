/- SlotOnce's walk. Condition: what came in can be read. -/
import Derived.Test.YtojofhmhmcchnaaZn
namespace Go.Proofs.Ytojofhmhmcchnaa
open Go.RowKit
set_option linter.unusedVariables false
set_option maxRecDepth 100000

theorem new_four (w : World) : Calls Try.prog 6 #[.int .i64 4] w fun e w' => e = .returned (.tuple #[.pointer (some ⟨w.heap.size + 1, 0, none⟩), .nilIface]) ∧ SlO (w.heap.size + 1 + 1 ≤ ·) w' (w.heap.size + 1) w.heap.size 4 (oL sl0) ∧ Below w.heap.size w w' := new_yes (w.heap.size + 1 + 1 ≤ ·) w (n := 4) (by omega) (by omega)
/-- What came in, in two boxes. -/
theorem box_ra (w : World) (h : Qh) (r : Rq) (k : Sh) (a : An) : ∃ W, W = (w.alloc (.cells #[.int .i64 r.cl, .int .i64 r.sq, .int .i64 r.kind, .slice h.A h.n h.c, .slice h.B h.m h.d, .slice h.C h.o h.p, .slice h.D h.q h.s, .int .i64 r.limit] 33)).alloc
      (.cells #[.int .i64 a.code, .bool a.found, .slice k.A k.n k.c, .slice k.B k.m k.d, .int .u64 a.stamp] 37) ∧
    Below w.heap.size w W ∧ BoxQ W w.heap.size h r ∧ BoxA W (w.heap.size + 1) k a ∧ W.heap.size = w.heap.size + 1 + 1 := by
  obtain ⟨V, hV, hVB, hVQ, hVs⟩ := box_q w h r
  obtain ⟨W, hW, hWB, hWQ, hWs⟩ := box_a V k a
  subst hV
  rw [hVs] at hWQ hWs
  exact ⟨W, hW, hVB.trans (hWB.mono (by omega)), hVQ.below hWB (by omega), hWQ, hWs⟩
/-- What all of the walk holds on to: the slots, the boxes, what they lead to. -/
structure OnceI (w : World) (h : Qh) (r : Rq) (k : Sh) (a : An) (N : Nat) (L : List Sl) (wx : World) : Prop where
  slots : SlO (N + 1 + 1 ≤ ·) wx (N + 1) N 4 L
  req : BoxQ wx w.heap.size h r
  ans : BoxA wx (w.heap.size + 1) k a
  rq : RqR wx h r
  an : On (fun b => b < w.heap.size) wx (AnR · k a)
  below : Below w.heap.size w wx
  low : w.heap.size + 1 + 1 ≤ N
  size : N + 1 + 1 ≤ wx.heap.size
theorem OnceI.step {w wx wy : World} {h : Qh} {r : Rq} {k : Sh} {a : An} {N : Nat} {L L' : List Sl} (hr : On (fun b => b < w.heap.size) w (RqR · h r)) (H : OnceI w h r k a N L wx) (hs : SlO (N + 1 + 1 ≤ ·) wy (N + 1) N 4 L') (hc : Chg N wx wy) : OnceI w h r k a N L' wy := by
  have hlow := H.low
  have hsz := H.size
  have hw : w.heap.size ≤ wx.heap.size := by omega
  have hb : Below w.heap.size w wy := H.below.trans (hc.below (by omega) hw)
  refine ⟨hs, (hc.block w.heap.size (by omega) (by omega)).trans H.req, (hc.block (w.heap.size + 1) (by omega) (by omega)).trans H.ans, (hr.keep (below_agree hb fun b hb _ => hb)).here, H.an.keep (hc.agree (by omega)), hb, hlow, Nat.le_trans hsz hc.size⟩
theorem OnceI.alloc {w wx : World} {h : Qh} {r : Rq} {k : Sh} {a : An} {N : Nat} {L : List Sl} (hr : On (fun b => b < w.heap.size) w (RqR · h r)) (H : OnceI w h r k a N L wx) (o : Obj) : OnceI w h r k a N L (wx.alloc o) :=
  H.step hr (H.slots.below ((Below.refl _ _).alloc (Nat.le_refl _) _)) (below_chg ((Below.refl _ _).alloc (Nat.le_refl _) _))
theorem OnceI.more {w wx wy : World} {h : Qh} {r : Rq} {k : Sh} {a : An} {N : Nat} {L : List Sl} (hr : On (fun b => b < w.heap.size) w (RqR · h r)) (H : OnceI w h r k a N L wx) (hb : Below wx.heap.size wx wy) : OnceI w h r k a N L wy :=
  H.step hr (H.slots.below hb) (below_chg hb)
theorem off_n (N : Nat) : ¬ ((fun k => N + 1 + 1 ≤ k) N) := by
  show ¬ (N + 1 + 1 ≤ N)
  omega

set_option maxHeartbeats 4000000 in
/-- Behind the head: the calls' own worlds, till the request is posted. -/
theorem once_let {w : World} {h : Qh} {r : Rq} {k : Sh} {a : An} (hr : RqR w h r) (ha : AnR w k a) (c q : Int) (hs : (smallQ r && smallA a) = false) :
    Calls Try.prog 4 #[rqV h r, anV k a, .int .i64 c, .int .i64 q] w fun e w' => e = .returned (.bool true) ∧ Below w.heap.size w w' := by
  obtain ⟨W, hW, hWB, hWQ, hWA, hWs⟩ := box_ra w h r k a
  have HUP := Lib.hid (up_any W)
  have HQ := Lib.hid hWQ
  have HA := Lib.hid hWA
  have HB := Lib.hid hWB
  have hWe := Lib.hid hW
  have HR := Lib.hid hr
  have HAR := Lib.hid ha
  have HW := Lib.hid hWs
  clear hr ha hW hWB hWQ hWA hWs
  unfold rqV anV
  go_enter Try.func4, Try.ntmps4
  go_wp2_with fail
  rw [← hWe.out]
  refine HUP.out.mono ?_
  rintro e w1 ⟨rfl, hb1⟩
  have HB1 := Lib.hid (HB.out.trans (hb1.mono HB.out.size))
  have HQ1 := Lib.hid (HQ.out.below hb1 (by have := HW.out; omega))
  have HA1 := Lib.hid (HA.out.below hb1 (by have := HW.out; omega))
  have HN := Lib.hid (new_four w1)
  clear hb1 HUP HQ HA HB hWe
  go_wp2_with fail
  refine HN.out.mono ?_
  rintro e w2 ⟨rfl, hs2, hb2⟩
  have HB2 := Lib.hid (HB1.out.trans (hb2.mono HB1.out.size))
  have HQ2 := Lib.hid (HQ1.out.below hb2 HQ1.out.lt)
  have HA2 := Lib.hid (HA1.out.below hb2 HA1.out.lt)
  have HSM := Lib.hid (smallq_lit (HR.out.below HB2.out))
  obtain ⟨b0, b1, b2, b3, b4, b5, b6, b7⟩ := HQ2.out.cells
  clear hs2 hb2 HN HB1 HQ1 HA1
  go_wp2_with fail
  refine HSM.out.mono ?_
  rintro e w3 ⟨rfl, hb3⟩
  have HB3 := Lib.hid (HB2.out.trans (hb3.mono HB2.out.size))
  have HA3 := Lib.hid (HA2.out.below hb3 HA2.out.lt)
  have HSA := Lib.hid (lsmall_any (HAR.out.below HB3.out))
  obtain ⟨c0, c1, c2, c3, c4⟩ := HA3.out.cells
  clear b0 b1 b2 b3 b4 b5 b6 b7 hb3 HSM HQ2 HA2 HB2
  go_wp2_with fail
  refine HSA.out.mono ?_
  rintro e w4 ⟨rfl, hb4⟩
  have HB4 := Lib.hid (HB3.out.trans (hb4.mono HB3.out.size))
  clear c0 c1 c2 c3 c4 hb4 HSA HA3 HB3
  generalize smallQ r = sq at hs
  generalize smallA a = sa at hs
  cases sq
  · go_wp2
    go_ret
    exact ⟨rfl, HB4.out⟩
  · cases sa
    · go_wp2
      go_ret
      exact ⟨rfl, HB4.out⟩
    · cases hs
end Go.Proofs.Ytojofhmhmcchnaa
