/- The contract of package omap's Do. Condition: a row of no more than 500 pairs; a request whose slices have at most 100 bytes; what came in can be read. -/
import Derived.Test.YteklpjcjlbeipaaWl
namespace Go.Proofs.Yteklpjcjlbeipaa
open Go.RowKit
set_option linter.unusedVariables false
set_option maxRecDepth 100000

theorem copied_lit {w : World} {A : Option Addr} {n c : Nat} {L : List Pr} (h : Prs w A n c L) (hf : Fit L) (hn : n ≤ 900) : Calls Try.prog 24 #[.slice A n c] w (MadeN w L) := copied_any h (small_fit hf) (by omega)

set_option maxHeartbeats 16000000 in
theorem do_any {w : World} {A : Option Addr} {n c : Nat} {L : List Pr} {h : Qh} {r : Rq} (hp : Prs w A n c L) (hr : RqR w h r) (hs : smallQ r = true) (hfit : Fit L) (hn : n ≤ 900) (most : Int) :
    Calls Try.prog 17 #[.slice A n c, rqV h r, .int .i64 most] w fun e w' => ∃ A1 n1 c1 h1, e = .returned (.tuple #[.slice A1 n1 c1, rsV h1 (ansQ L r most).1]) ∧ Prs w' A1 n1 c1 (nextQ L r most) ∧ RsR w' h1 (ansQ L r most).1 ∧ Below w.heap.size w w' := by
  obtain ⟨V, hV, hVB, hVQ, hVZ, hVs⟩ := box_qs w h r
  have HANS := Lib.hid (ans_lit (hp.below hVB) (hr.below hVB) hs hfit hn most)
  have HFA := Lib.hid (fun (hw : (ansQ L r most).2 = true) => may_fair (ans_writes hw).1 (reads6 (ans_writes hw).2.1).1)
  have HNX := Lib.hid (show nextQ L r most = if (ansQ L r most).2 then writeQ L r else L from rfl)
  have HP := Lib.hid hp
  have HR := Lib.hid hr
  have HSM := Lib.hid hs
  have HF := Lib.hid hfit
  have HB := Lib.hid hVB
  have HQ := Lib.hid hVQ
  have HZ := Lib.hid hVZ
  have hVe := Lib.hid hV
  have hwl : w.heap.size + 1 < V.heap.size := by omega
  obtain ⟨q0, q1, q2, q3, q4, q5, q6, q7⟩ := hVQ.cells
  clear hp hr hs hfit hV hVB hVQ hVZ hVs
  generalize ansQ L r most = res at HANS HFA HNX ⊢
  obtain ⟨s, fl⟩ := res
  dsimp only at HANS HFA HNX ⊢
  unfold rqV
  go_enter Try.func17, Try.ntmps17
  go_wp2_with fail
  rw [← hVe.out]
  refine HANS.out.mono ?_
  rintro e w1 ⟨h9, rfl, ho9, hb1⟩
  have HO1 := Lib.hid (told_on (B := w.heap.size + 1 + 1) (ho9.mono (C' := (V.heap.size ≤ ·)) (fun b hb => by omega)) hwl)
  have HB1 := Lib.hid (HB.out.trans (hb1.mono HB.out.size))
  have HQ1 := Lib.hid (HQ.out.below hb1 (by omega))
  have HZ1 := Lib.hid (HZ.out.below hb1 hwl)
  have hw1 : w.heap.size + 1 < w1.heap.size := HZ1.out.lt
  clear ho9 hb1 HANS HB HQ HZ hVe hwl q0 q1 q2 q3 q4 q5 q6 q7
  go_upto_region 2 with fail
  obtain ⟨w2, hw2, hwb2, hws2, hsz2⟩ := box_s w1 h9 s
  rw [← hw2]
  have HB2 := Lib.hid (HB1.out.trans (hwb2.mono HB1.out.size))
  have HQ2 := Lib.hid (HQ1.out.below hwb2 (by omega))
  have HZ2 := Lib.hid (HZ1.out.below hwb2 hw1)
  have HO2 := Lib.hid (HO1.out.keep (below_all hwb2))
  have HS2 := Lib.hid hws2
  have hw12 : w1.heap.size < w2.heap.size := by omega
  obtain ⟨q0, q1, q2, q3, q4, q5, q6, q7⟩ := HQ2.out.cells
  obtain ⟨x0, x1, x2, x3, x4, -, -, -, -, -⟩ := HS2.out.cells
  have z1 : ¬ (w.heap.size = w.heap.size + 1) := by omega
  have z2 : ¬ (w.heap.size + 1 = w.heap.size) := by omega
  have z3 : ¬ (w1.heap.size = w.heap.size + 1) := by omega
  have z4 : ¬ (w.heap.size + 1 = w1.heap.size) := by omega
  have z5 : ¬ (w1.heap.size = w.heap.size) := by omega
  have z6 : ¬ (w.heap.size = w1.heap.size) := by omega
  clear hw2 hwb2 hws2 hsz2 HB1 HQ1 HZ1 HO1
  cases fl
  · clear q0 q1 q2 q3 q4 q5 q6 q7
    have D := Lib.hid (copied_lit (w := w2.drew) (c := c) (HP.out.below HB2.out.drew) HF.out hn)
    clear HFA
    go_upto_region 4 with fail
    go_region_held3 (fun w' => w'.cell? ⟨w1.heap.size, 0, none⟩ = some (.int .i64 s.code) ∧ w'.cell? ⟨w1.heap.size, 1, none⟩ = some (.bool s.found) ∧ w'.cell? ⟨w1.heap.size, 2, none⟩ = some (.slice h9.A h9.n h9.c) ∧ w'.cell? ⟨w1.heap.size, 3, none⟩ = some (.slice h9.B h9.m h9.d) ∧ w'.cell? ⟨w1.heap.size, 4, none⟩ = some (.int .u64 0)) (go_keep)
      ((go_at_call 24
        (with_reducible refine D.out.mono ?_)
        rintro e w3 ⟨A3, n3, c3, rfl, hp3, hb3⟩
        have hb3 : Below w2.heap.size w2 w3 := undrew hb3
        have HP3 := Lib.hid hp3
        have HB3 := Lib.hid (HB2.out.trans (hb3.mono HB2.out.size))
        have HO3 := Lib.hid (HO2.out.keep (below_all hb3))
        have HS3 := Lib.hid (HS2.out.below hb3 hw12)
        have HQ3 := Lib.hid (HQ2.out.below hb3 (by omega))
        have HZ3 := Lib.hid (HZ2.out.below hb3 (by omega))
        obtain ⟨x0, x1, x2, x3, x4, -, -, -, -, -⟩ := HS3.out.cells
        obtain ⟨t0, t1, t2, t3, t4, f0, f1, f2, f3, f4⟩ := HZ3.out.cells
        clear hp3 hb3))
    clear x0 x1 x2 x3 x4 D
    go_wp2
    refine bodyPost_ret (v := .tuple #[.slice A3 n3 c3, rsV h9 s]) (by simp [results, Try.results17, go_sem, t0, t1, t2, t3, t4, rsV]) rfl ⟨A3, n3, c3, h9, rfl, ?_, ?_, ?_⟩
    · rw [HNX.out]
      exact (HP3.out.keep (five_agree w3 (b := w.heap.size + 1) 0 _ _ _ _ _ (by show ¬ (w2.heap.size ≤ w.heap.size + 1); omega))).here
    · exact (HO3.out.keep (five_agree w3 (b := w.heap.size + 1) 0 _ _ _ _ _ (by omega))).here
    · exact five_below HB3.out (b := w.heap.size + 1) (by omega) 0 _ _ _ _ _
  · have D := Lib.hid (written_lit (w := w2.drew) (c := c) (HP.out.below HB2.out.drew) (HR.out.below HB2.out.drew) HSM.out (HFA.out rfl).2.2.2.2.2 HF.out hn)
    clear HFA
    go_upto_region 3 with fail
    go_region_held3 (fun w' => w'.cell? ⟨w.heap.size, 0, none⟩ = some (.int .i64 r.cl) ∧ w'.cell? ⟨w.heap.size, 1, none⟩ = some (.int .i64 r.sq) ∧ w'.cell? ⟨w.heap.size, 2, none⟩ = some (.int .i64 r.kind) ∧ w'.cell? ⟨w.heap.size, 3, none⟩ = some (.slice h.A h.n h.c) ∧ w'.cell? ⟨w.heap.size, 4, none⟩ = some (.slice h.B h.m h.d) ∧ w'.cell? ⟨w.heap.size, 5, none⟩ = some (.slice h.C h.o h.p) ∧ w'.cell? ⟨w.heap.size, 6, none⟩ = some (.slice h.D h.q h.s) ∧ w'.cell? ⟨w.heap.size, 7, none⟩ = some (.int .i64 r.limit) ∧ w'.cell? ⟨w1.heap.size, 0, none⟩ = some (.int .i64 s.code) ∧ w'.cell? ⟨w1.heap.size, 1, none⟩ = some (.bool s.found) ∧ w'.cell? ⟨w1.heap.size, 2, none⟩ = some (.slice h9.A h9.n h9.c) ∧ w'.cell? ⟨w1.heap.size, 3, none⟩ = some (.slice h9.B h9.m h9.d) ∧ w'.cell? ⟨w1.heap.size, 4, none⟩ = some (.int .u64 0)) (go_keep)
      ((go_at_call 26
        (with_reducible refine D.out.mono ?_)
        rintro e w3 ⟨A3, n3, c3, rfl, hp3, hb3⟩
        have hb3 : Below w2.heap.size w2 w3 := undrew hb3
        have HP3 := Lib.hid hp3
        have HB3 := Lib.hid (HB2.out.trans (hb3.mono HB2.out.size))
        have HO3 := Lib.hid (HO2.out.keep (below_all hb3))
        have HS3 := Lib.hid (HS2.out.below hb3 hw12)
        have HQ3 := Lib.hid (HQ2.out.below hb3 (by omega))
        have HZ3 := Lib.hid (HZ2.out.below hb3 (by omega))
        obtain ⟨q0, q1, q2, q3, q4, q5, q6, q7⟩ := HQ3.out.cells
        obtain ⟨x0, x1, x2, x3, x4, -, -, -, -, -⟩ := HS3.out.cells
        obtain ⟨t0, t1, t2, t3, t4, f0, f1, f2, f3, f4⟩ := HZ3.out.cells
        clear hp3 hb3))
    clear q0 q1 q2 q3 q4 q5 q6 q7 x0 x1 x2 x3 x4 D
    go_wp2
    refine bodyPost_ret (v := .tuple #[.slice A3 n3 c3, rsV h9 s]) (by simp [results, Try.results17, go_sem, t0, t1, t2, t3, t4, rsV]) rfl ⟨A3, n3, c3, h9, rfl, ?_, ?_, ?_⟩
    · rw [HNX.out]
      exact (HP3.out.keep (five_agree w3 (b := w.heap.size + 1) 0 _ _ _ _ _ (by show ¬ (w2.heap.size ≤ w.heap.size + 1); omega))).here
    · exact (HO3.out.keep (five_agree w3 (b := w.heap.size + 1) 0 _ _ _ _ _ (by omega))).here
    · exact five_below HB3.out (b := w.heap.size + 1) (by omega) 0 _ _ _ _ _
end Go.Proofs.Yteklpjcjlbeipaa
