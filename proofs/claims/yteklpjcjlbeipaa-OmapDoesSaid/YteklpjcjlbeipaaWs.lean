/- OmapTurns' walk. Condition: what came in can be read. -/
import Derived.Test.YteklpjcjlbeipaaWp
namespace Go.Proofs.Yteklpjcjlbeipaa
open Go.RowKit
set_option linter.unusedVariables false
set_option maxRecDepth 100000

theorem box_qq (w : World) (h h' : Qh) (r r' : Rq) : ∃ V, V = (w.alloc (.cells #[.int .i64 r.cl, .int .i64 r.sq, .int .i64 r.kind, .slice h.A h.n h.c, .slice h.B h.m h.d, .slice h.C h.o h.p, .slice h.D h.q h.s, .int .i64 r.limit] 36)).alloc (.cells #[.int .i64 r'.cl, .int .i64 r'.sq, .int .i64 r'.kind, .slice h'.A h'.n h'.c, .slice h'.B h'.m h'.d, .slice h'.C h'.o h'.p, .slice h'.D h'.q h'.s, .int .i64 r'.limit] 36) ∧
    Below w.heap.size w V ∧ BoxQ V w.heap.size h r ∧ BoxQ V (w.heap.size + 1) h' r' ∧ V.heap.size = w.heap.size + 1 + 1 := by
  obtain ⟨W, hW, hWB, hWS, hWs⟩ := box_q w h r
  obtain ⟨V, hV, hVB, hVS, hVs⟩ := box_q W h' r'
  subst hW
  refine ⟨V, hV, hWB.trans (hVB.mono (by omega)), hWS.below hVB (by omega), ?_, by omega⟩
  rw [hWs] at hVS
  exact hVS

set_option maxHeartbeats 16000000 in
/-- Where nothing is asked. -/
theorem turns_let {w : World} {A : Option Addr} {n c : Nat} {L : List Pr} {ha hb : Qh} {a b : Rq} (hp : Prs w A n c L) (hra : RqR w ha a) (hrb : RqR w hb b)
    (hl : fewB L 100 = false ∨ (fewB L 100 = true ∧ smallQ a = false) ∨ (fewB L 100 = true ∧ smallQ a = true ∧ smallQ b = false) ∨ (fewB L 100 = true ∧ smallQ a = true ∧ smallQ b = true ∧ (a.kind == 6) = true) ∨
      (fewB L 100 = true ∧ smallQ a = true ∧ smallQ b = true ∧ (a.kind == 6) = false ∧ (b.kind == 6) = true) ∨ (fewB L 100 = true ∧ smallQ a = true ∧ smallQ b = true ∧ (a.kind == 6) = false ∧ (b.kind == 6) = false ∧ (a.key == b.key) = true)) :
    Calls Try.prog 5 #[.slice A n c, rqV ha a, rqV hb b] w fun e w' => e = .returned (.bool true) ∧ Below w.heap.size w w' := by
  obtain ⟨V, hV, hVB, hVA, hVR, hVs⟩ := box_qq w ha hb a b
  have HUP := Lib.hid (up_any V)
  have HFX := Lib.hid (fun (w1 : World) (hb : Below w.heap.size w w1) => few_any (w := w1) 100 (hp.below hb))
  have HSA := Lib.hid (fun (w1 : World) (hb : Below w.heap.size w w1) => smallq_lit (hra.below hb))
  have HSB := Lib.hid (fun (w1 : World) (hb : Below w.heap.size w w1) => smallq_lit (hrb.below hb))
  have HKA := Lib.hid (fun (w1 : World) (hb : Below w.heap.size w w1) => run_str (c := ha.c) (hra.1.below hb))
  have HKB := Lib.hid (fun (w1 : World) (hb1 : Below w.heap.size w w1) => run_str (c := hb.c) (hrb.1.below hb1))
  have HB := Lib.hid hVB
  have HQA := Lib.hid hVA
  have HQB := Lib.hid hVR
  have hVe := Lib.hid hV
  have hwl : w.heap.size + 1 < V.heap.size := by omega
  clear hp hra hrb hV hVB hVA hVR hVs
  unfold rqV
  rcases hl with hf | ⟨hf, hs⟩ | ⟨hf, hs, hs2⟩ | ⟨hf, hs, hs2, k6⟩ | ⟨hf, hs, hs2, k6, j6⟩ | ⟨hf, hs, hs2, k6, j6, hk⟩
  case' inl =>
    generalize smallQ a = sa at HSA
    generalize smallQ b = sb at HSB
  case' inr.inl =>
    rw [hs] at HSA
    generalize smallQ b = sb at HSB
    clear hs
  case' inr.inr.inl =>
    rw [hs] at HSA
    rw [hs2] at HSB
    clear hs hs2
  case' inr.inr.inr.inl =>
    rw [hs] at HSA
    rw [hs2] at HSB
    clear hs hs2
  case' inr.inr.inr.inr.inl =>
    rw [hs] at HSA
    rw [hs2] at HSB
    clear hs hs2
  case' inr.inr.inr.inr.inr =>
    rw [hs] at HSA
    rw [hs2] at HSB
    clear hs hs2
  all_goals
    rw [hf] at HFX
    clear hf
    go_enter Try.func5, Try.ntmps5
    go_wp2_with fail
    rw [← hVe.out]
    refine HUP.out.mono ?_
    rintro e w1 ⟨rfl, hb1⟩
    have HB1 := Lib.hid (HB.out.trans (hb1.mono HB.out.size))
    have HQA1 := Lib.hid (HQA.out.below hb1 (by omega))
    have HQB1 := Lib.hid (HQB.out.below hb1 hwl)
    obtain ⟨q0, q1, q2, q3, q4, q5, q6, q7⟩ := HQA1.out.cells
    obtain ⟨y0, y1, y2, y3, y4, y5, y6, y7⟩ := HQB1.out.cells
    clear HUP hb1 HQA HQB
    go_wp2_with fail
    refine (HFX.out _ HB1.out).mono ?_
    rintro e w2 ⟨rfl, rfl⟩
    clear HFX
    go_wp2_with fail
    refine (HSA.out _ HB1.out).mono ?_
    rintro e w2 ⟨rfl, hb2⟩
    have HB2 := Lib.hid (HB1.out.trans (hb2.mono HB1.out.size))
    have HQA2 := Lib.hid (HQA1.out.below hb2 HQA1.out.lt)
    have HQB2 := Lib.hid (HQB1.out.below hb2 HQB1.out.lt)
    clear HSA hb2 q0 q1 q2 q3 q4 q5 q6 q7 y0 y1 y2 y3 y4 y5 y6 y7 HQA1 HQB1
    obtain ⟨q0, q1, q2, q3, q4, q5, q6, q7⟩ := HQA2.out.cells
    obtain ⟨y0, y1, y2, y3, y4, y5, y6, y7⟩ := HQB2.out.cells
    go_wp2_with fail
    refine (HSB.out _ HB2.out).mono ?_
    rintro e w3 ⟨rfl, hb3⟩
    have HB3 := Lib.hid (HB2.out.trans (hb3.mono HB2.out.size))
    have HQA3 := Lib.hid (HQA2.out.below hb3 HQA2.out.lt)
    have HQB3 := Lib.hid (HQB2.out.below hb3 HQB2.out.lt)
    have r1 := HKA.out w3 HB3.out
    have r2 := HKB.out w3 HB3.out
    clear HSB hb3 q0 q1 q2 q3 q4 q5 q6 q7 y0 y1 y2 y3 y4 y5 y6 y7 HQA2 HQB2
    obtain ⟨-, -, q2, q3, -, -, -, -⟩ := HQA3.out.cells
    obtain ⟨-, -, y2, y3, -, -, -, -⟩ := HQB3.out.cells
    go_wp2
    go_ret
    exact ⟨rfl, HB3.out⟩

/-- What the two orders come to. -/
theorem two_ord {L : List Pr} (hf : Fit L) (hl : L.length ≤ 100) {a b : Rq} (hk : a.key ≠ b.key) (ha : a.kind ≠ 6) (hb : b.kind ≠ 6) :
    thenQ L [a, b] 1000 2 = thenQ L [b, a] 1000 2 ∧ gs (allQ L [a, b] 1000 2) 0 = gs (allQ L [b, a] 1000 2) 1 ∧ gs (allQ L [a, b] 1000 2) 1 = gs (allQ L [b, a] 1000 2) 0 := by
  obtain ⟨h1, h2, h3⟩ := turns_swap hf (by omega) hk ha hb
  refine ⟨h1, ?_, ?_⟩
  · show (ansQ L a 1000).1 = (ansQ (nextQ L b 1000) a 1000).1
    rw [h3]
  · show (ansQ (nextQ L a 1000) b 1000).1 = (ansQ L b 1000).1
    rw [h2]
theorem small_two {a b : Rq} (ha : smallQ a = true) (hb : smallQ b = true) : ∀ j, j < 2 → smallQ (gq [a, b] j) = true := fun j hj => by
  have hc : j = 0 ∨ j = 1 := by omega
  rcases hc with rfl | rfl
  · exact ha
  · exact hb

set_option maxHeartbeats 16000000 in
theorem turns_main {w : World} {A : Option Addr} {n c : Nat} {L : List Pr} {ha hb : Qh} {a b : Rq} (hp : Prs w A n c L) (hra : RqR w ha a) (hrb : RqR w hb b) (hf : fewB L 100 = true) (hs : smallQ a = true) (hs2 : smallQ b = true) (k6 : (a.kind == 6) = false) (j6 : (b.kind == 6) = false) (hk : (a.key == b.key) = false) :
    Calls Try.prog 5 #[.slice A n c, rqV ha a, rqV hb b] w fun e w' => e = .returned (.bool true) ∧ Below w.heap.size w w' := by
  obtain ⟨V, hV, hVB, hVA, hVR, hVs⟩ := box_qq w ha hb a b
  have HUP := Lib.hid (up_any V)
  have HFX := Lib.hid (fun (w1 : World) (hb : Below w.heap.size w w1) => few_any (w := w1) 100 (hp.below hb))
  have HSA := Lib.hid (fun (w1 : World) (hb : Below w.heap.size w w1) => smallq_lit (hra.below hb))
  have HSB := Lib.hid (fun (w1 : World) (hb : Below w.heap.size w w1) => smallq_lit (hrb.below hb))
  rw [hf] at HFX
  rw [hs] at HSA
  rw [hs2] at HSB
  have HKA := Lib.hid (fun (w1 : World) (hb : Below w.heap.size w w1) => run_str (c := ha.c) (hra.1.below hb))
  have HKB := Lib.hid (fun (w1 : World) (hb1 : Below w.heap.size w w1) => run_str (c := hb.c) (hrb.1.below hb1))
  have hrf := row_facts hf
  have HFT := Lib.hid hrf.1
  have HRL := Lib.hid hrf.2
  have HSM := Lib.hid (few_small hf)
  have HSQ := Lib.hid (And.intro (small_two hs hs2) (small_two hs2 hs))
  have HORD := Lib.hid (two_ord hrf.1 hrf.2 (show a.key ≠ b.key by simpa using hk) (show a.kind ≠ 6 by simpa using k6) (show b.kind ≠ 6 by simpa using j6))
  have hn : n ≤ 100 := by rw [← hp.len]; exact (few_small hf).2
  have HP := Lib.hid hp
  have HRA := Lib.hid hra
  have HRB := Lib.hid hrb
  have HB := Lib.hid hVB
  have HQA := Lib.hid hVA
  have HQB := Lib.hid hVR
  have hVe := Lib.hid hV
  have hwl : w.heap.size + 1 < V.heap.size := by omega
  clear hp hra hrb hV hVB hVA hVR hVs hf hs hs2 hrf
  unfold rqV
  go_enter Try.func5, Try.ntmps5
  go_wp2_with fail
  rw [← hVe.out]
  refine HUP.out.mono ?_
  rintro e w1 ⟨rfl, hb1⟩
  have HB1 := Lib.hid (HB.out.trans (hb1.mono HB.out.size))
  have HQA1 := Lib.hid (HQA.out.below hb1 (by omega))
  have HQB1 := Lib.hid (HQB.out.below hb1 hwl)
  obtain ⟨q0, q1, q2, q3, q4, q5, q6, q7⟩ := HQA1.out.cells
  obtain ⟨y0, y1, y2, y3, y4, y5, y6, y7⟩ := HQB1.out.cells
  clear HUP hb1 HQA HQB HB hVe
  go_wp2_with fail
  refine (HFX.out _ HB1.out).mono ?_
  rintro e w2 ⟨rfl, rfl⟩
  clear HFX
  go_wp2_with fail
  refine (HSA.out _ HB1.out).mono ?_
  rintro e w2 ⟨rfl, hb2⟩
  have HB2 := Lib.hid (HB1.out.trans (hb2.mono HB1.out.size))
  have HQA2 := Lib.hid (HQA1.out.below hb2 HQA1.out.lt)
  have HQB2 := Lib.hid (HQB1.out.below hb2 HQB1.out.lt)
  clear HSA hb2 q0 q1 q2 q3 q4 q5 q6 q7 y0 y1 y2 y3 y4 y5 y6 y7 HQA1 HQB1 HB1
  obtain ⟨q0, q1, q2, q3, q4, q5, q6, q7⟩ := HQA2.out.cells
  obtain ⟨y0, y1, y2, y3, y4, y5, y6, y7⟩ := HQB2.out.cells
  go_wp2_with fail
  refine (HSB.out _ HB2.out).mono ?_
  rintro e w3 ⟨rfl, hb3⟩
  have HB3 := Lib.hid (HB2.out.trans (hb3.mono HB2.out.size))
  have HQA3 := Lib.hid (HQA2.out.below hb3 HQA2.out.lt)
  have HQB3 := Lib.hid (HQB2.out.below hb3 HQB2.out.lt)
  have r1 := HKA.out w3 HB3.out
  have r2 := HKB.out w3 HB3.out
  have HRW := Lib.hid (rrow_any (HP.out.below HB3.out) HSM.out.1 (by omega))
  clear HSB hb3 q0 q1 q2 q3 q4 q5 q6 q7 y0 y1 y2 y3 y4 y5 y6 y7 HQA2 HQB2 HB2 HKA HKB
  obtain ⟨q0, q1, q2, q3, q4, q5, q6, q7⟩ := HQA3.out.cells
  obtain ⟨y0, y1, y2, y3, y4, y5, y6, y7⟩ := HQB3.out.cells
  go_wp2_with fail
  refine HRW.out.mono ?_
  rintro e w4 ⟨A4, n4, c4, rfl, hp4, hb4⟩
  have HB4 := Lib.hid (HB3.out.trans (hb4.mono HB3.out.size))
  have HQA4 := Lib.hid (HQA3.out.below hb4 HQA3.out.lt)
  have HQB4 := Lib.hid (HQB3.out.below hb4 HQB3.out.lt)
  have hn4 : n4 ≤ 100 := by rw [← hp4.len]; exact HRL.out
  have HP4 := Lib.hid hp4
  clear HRW hp4 hb4 q0 q1 q2 q3 q4 q5 q6 q7 y0 y1 y2 y3 y4 y5 y6 y7 HQA3 HQB3 HB3 r1 r2 hk k6 j6 hn HRL HP
  obtain ⟨q0, q1, q2, q3, q4, q5, q6, q7⟩ := HQA4.out.cells
  obtain ⟨y0, y1, y2, y3, y4, y5, y6, y7⟩ := HQB4.out.cells
  obtain ⟨W5, hW5, hWB5, hWR5, hWs5⟩ := two_reqs (HRA.out.below HB4.out) (HRB.out.below HB4.out)
  have HA5 := Lib.hid (all_any (HP4.out.below hWB5) 2 hWR5 HSQ.out.1 HFT.out (by omega) (by omega) 1000)
  have HB5 := Lib.hid (HB4.out.trans (hWB5.mono HB4.out.size))
  have HQA5 := Lib.hid (HQA4.out.below hWB5 HQA4.out.lt)
  have HQB5 := Lib.hid (HQB4.out.below hWB5 HQB4.out.lt)
  have HP5 := Lib.hid (HP4.out.below hWB5)
  have hWe5 := Lib.hid hW5
  clear hW5 hWB5 hWR5 hWs5 HQA4 HQB4 HB4 HP4
  go_wp2_with fail
  rw [← hWe5.out]
  refine HA5.out.mono ?_
  rintro e w6 ⟨A6, n6, c6, A7, c7, rfl, hp6, hrs6, hb6⟩
  have HB6 := Lib.hid (HB5.out.trans (hb6.mono HB5.out.size))
  have HQA6 := Lib.hid (HQA5.out.below hb6 HQA5.out.lt)
  have HQB6 := Lib.hid (HQB5.out.below hb6 HQB5.out.lt)
  have HP6 := Lib.hid hp6
  have HRS6 := Lib.hid hrs6
  have HPR6 := Lib.hid (HP5.out.below hb6)
  clear HA5 hWe5 hp6 hrs6 hb6 q0 q1 q2 q3 q4 q5 q6 q7 y0 y1 y2 y3 y4 y5 y6 y7 HB5 HQA5 HQB5 HP5
  obtain ⟨q0, q1, q2, q3, q4, q5, q6, q7⟩ := HQA6.out.cells
  obtain ⟨y0, y1, y2, y3, y4, y5, y6, y7⟩ := HQB6.out.cells
  obtain ⟨W7, hW7, hWB7, hWR7, hWs7⟩ := two_reqs (HRB.out.below HB6.out) (HRA.out.below HB6.out)
  have HA7 := Lib.hid (all_any (HPR6.out.below hWB7) 2 hWR7 HSQ.out.2 HFT.out (by omega) (by omega) 1000)
  have HB7 := Lib.hid (HB6.out.trans (hWB7.mono HB6.out.size))
  have HP7 := Lib.hid (HP6.out.below hWB7)
  have HRS7 := Lib.hid (HRS6.out.below hWB7)
  have hWe7 := Lib.hid hW7
  clear hW7 hWB7 hWR7 hWs7 HQA6 HQB6 HB6 HPR6 HP6 HRS6
  go_wp2_with fail
  rw [← hWe7.out]
  refine HA7.out.mono ?_
  rintro e w8 ⟨A8, n8, c8, A9, c9, rfl, hp8, hrs8, hb8⟩
  have HB8 := Lib.hid (HB7.out.trans (hb8.mono HB7.out.size))
  have HP8 := Lib.hid (HP7.out.below hb8)
  have HP9 := Lib.hid hp8
  have hrs7 := HRS7.out.below hb8
  rw [← HORD.out.1] at HP9
  obtain ⟨b0, o0, rfl, hl0, g0, x0, x1, x2, x3, x4, hr0⟩ := hrs7.at_ (j := 0) (by omega)
  obtain ⟨b1, o1, ee1, -, g1, x5, x6, x7, x8, x9, hr1⟩ := hrs7.at_ (j := 1) (by omega)
  obtain ⟨b2, o2, rfl, hl2, g2, z0, z1, z2, z3, z4, hr2⟩ := hrs8.at_ (j := 0) (by omega)
  obtain ⟨b3, o3, ee3, -, g3, z5, z6, z7, z8, z9, hr3⟩ := hrs8.at_ (j := 1) (by omega)
  injection ee1 with ee1
  injection ee1 with e1 e2
  subst e1
  subst e2
  injection ee3 with ee3
  injection ee3 with e1 e2
  subst e1
  subst e2
  rw [← HORD.out.2.2] at z0 z1 hr2
  rw [← HORD.out.2.1] at z5 z6 hr3
  generalize gs (allQ (rowL L) [a, b] 1000 2) 0 = s0 at x0 x1 hr0 z5 z6 hr3
  generalize gs (allQ (rowL L) [a, b] 1000 2) 1 = s1 at x5 x6 hr1 z0 z1 hr2
  simp only [Nat.zero_mul, Nat.one_mul, Nat.add_zero] at x0 x1 x2 x3 x4 x5 x6 x7 x8 x9 z0 z1 z2 z3 z4 z5 z6 z7 z8 z9
  have HR03 := Lib.hid (fun (w9 : World) (hb : Below w8.heap.size w8 w9) => same12 (hr0.below hb) (hr3.below hb))
  have HR12 := Lib.hid (fun (w9 : World) (hb : Below w8.heap.size w8 w9) => same12 (hr1.below hb) (hr2.below hb))
  have D := Lib.hid (pairs_same (w := w8.drew) (HP8.out.below (Below.refl _ _).drew) (HP9.out.below (Below.refl _ _).drew))
  clear HA7 hWe7 hp8 hrs8 hb8 q0 q1 q2 q3 q4 q5 q6 q7 y0 y1 y2 y3 y4 y5 y6 y7 HB7 HP7 HRS7 hrs7 hr0 hr1 hr2 hr3 HP8 HP9 HORD HRA HRB HSQ HFT HSM
  go_upto_region 12 with fail
  have HX := Lib.hid (show w8.cell? ⟨b0, o0, none⟩ = some (.int .i64 s0.code) ∧ w8.cell? ⟨b0, o0 + 1, none⟩ = some (.bool s0.found) ∧ w8.cell? ⟨b0, o0 + 2, none⟩ = some (.slice g0.A g0.n g0.c) ∧ w8.cell? ⟨b0, o0 + 3, none⟩ = some (.slice g0.B g0.m g0.d) ∧ w8.cell? ⟨b0, o0 + 4, none⟩ = some (.int .u64 0) ∧ w8.cell? ⟨b0, o0 + 5, none⟩ = some (.int .i64 s1.code) ∧ w8.cell? ⟨b0, o0 + 5 + 1, none⟩ = some (.bool s1.found) ∧ w8.cell? ⟨b0, o0 + 5 + 2, none⟩ = some (.slice g1.A g1.n g1.c) ∧ w8.cell? ⟨b0, o0 + 5 + 3, none⟩ = some (.slice g1.B g1.m g1.d) ∧ w8.cell? ⟨b0, o0 + 5 + 4, none⟩ = some (.int .u64 0) ∧ w8.cell? ⟨b2, o2, none⟩ = some (.int .i64 s1.code) ∧ w8.cell? ⟨b2, o2 + 1, none⟩ = some (.bool s1.found) ∧ w8.cell? ⟨b2, o2 + 2, none⟩ = some (.slice g2.A g2.n g2.c) ∧ w8.cell? ⟨b2, o2 + 3, none⟩ = some (.slice g2.B g2.m g2.d) ∧ w8.cell? ⟨b2, o2 + 4, none⟩ = some (.int .u64 0) ∧ w8.cell? ⟨b2, o2 + 5, none⟩ = some (.int .i64 s0.code) ∧ w8.cell? ⟨b2, o2 + 5 + 1, none⟩ = some (.bool s0.found) ∧ w8.cell? ⟨b2, o2 + 5 + 2, none⟩ = some (.slice g3.A g3.n g3.c) ∧ w8.cell? ⟨b2, o2 + 5 + 3, none⟩ = some (.slice g3.B g3.m g3.d) ∧ w8.cell? ⟨b2, o2 + 5 + 4, none⟩ = some (.int .u64 0) from ⟨x0, x1, x2, x3, x4, x5, x6, x7, x8, x9, z0, z1, z2, z3, z4, z5, z6, z7, z8, z9⟩)
  have HXB : Hid (∀ w9, Below w8.heap.size w8 w9 → w9.cell? ⟨b0, o0, none⟩ = some (.int .i64 s0.code) ∧ w9.cell? ⟨b0, o0 + 1, none⟩ = some (.bool s0.found) ∧ w9.cell? ⟨b0, o0 + 2, none⟩ = some (.slice g0.A g0.n g0.c) ∧ w9.cell? ⟨b0, o0 + 3, none⟩ = some (.slice g0.B g0.m g0.d) ∧ w9.cell? ⟨b0, o0 + 4, none⟩ = some (.int .u64 0) ∧ w9.cell? ⟨b0, o0 + 5, none⟩ = some (.int .i64 s1.code) ∧ w9.cell? ⟨b0, o0 + 5 + 1, none⟩ = some (.bool s1.found) ∧ w9.cell? ⟨b0, o0 + 5 + 2, none⟩ = some (.slice g1.A g1.n g1.c) ∧ w9.cell? ⟨b0, o0 + 5 + 3, none⟩ = some (.slice g1.B g1.m g1.d) ∧ w9.cell? ⟨b0, o0 + 5 + 4, none⟩ = some (.int .u64 0) ∧ w9.cell? ⟨b2, o2, none⟩ = some (.int .i64 s1.code) ∧ w9.cell? ⟨b2, o2 + 1, none⟩ = some (.bool s1.found) ∧ w9.cell? ⟨b2, o2 + 2, none⟩ = some (.slice g2.A g2.n g2.c) ∧ w9.cell? ⟨b2, o2 + 3, none⟩ = some (.slice g2.B g2.m g2.d) ∧ w9.cell? ⟨b2, o2 + 4, none⟩ = some (.int .u64 0) ∧ w9.cell? ⟨b2, o2 + 5, none⟩ = some (.int .i64 s0.code) ∧ w9.cell? ⟨b2, o2 + 5 + 1, none⟩ = some (.bool s0.found) ∧ w9.cell? ⟨b2, o2 + 5 + 2, none⟩ = some (.slice g3.A g3.n g3.c) ∧ w9.cell? ⟨b2, o2 + 5 + 3, none⟩ = some (.slice g3.B g3.m g3.d) ∧ w9.cell? ⟨b2, o2 + 5 + 4, none⟩ = some (.int .u64 0)) := Lib.hid fun w9 hb => by
    obtain ⟨x0, x1, x2, x3, x4, x5, x6, x7, x8, x9, z0, z1, z2, z3, z4, z5, z6, z7, z8, z9⟩ := HX.out
    exact ⟨(hb.cell (p := ⟨b0, o0, none⟩) hl0).trans x0, (hb.cell (p := ⟨b0, o0 + 1, none⟩) hl0).trans x1, (hb.cell (p := ⟨b0, o0 + 2, none⟩) hl0).trans x2, (hb.cell (p := ⟨b0, o0 + 3, none⟩) hl0).trans x3, (hb.cell (p := ⟨b0, o0 + 4, none⟩) hl0).trans x4, (hb.cell (p := ⟨b0, o0 + 5, none⟩) hl0).trans x5, (hb.cell (p := ⟨b0, o0 + 5 + 1, none⟩) hl0).trans x6, (hb.cell (p := ⟨b0, o0 + 5 + 2, none⟩) hl0).trans x7, (hb.cell (p := ⟨b0, o0 + 5 + 3, none⟩) hl0).trans x8, (hb.cell (p := ⟨b0, o0 + 5 + 4, none⟩) hl0).trans x9, (hb.cell (p := ⟨b2, o2, none⟩) hl2).trans z0, (hb.cell (p := ⟨b2, o2 + 1, none⟩) hl2).trans z1, (hb.cell (p := ⟨b2, o2 + 2, none⟩) hl2).trans z2, (hb.cell (p := ⟨b2, o2 + 3, none⟩) hl2).trans z3, (hb.cell (p := ⟨b2, o2 + 4, none⟩) hl2).trans z4, (hb.cell (p := ⟨b2, o2 + 5, none⟩) hl2).trans z5, (hb.cell (p := ⟨b2, o2 + 5 + 1, none⟩) hl2).trans z6, (hb.cell (p := ⟨b2, o2 + 5 + 2, none⟩) hl2).trans z7, (hb.cell (p := ⟨b2, o2 + 5 + 3, none⟩) hl2).trans z8, (hb.cell (p := ⟨b2, o2 + 5 + 4, none⟩) hl2).trans z9⟩
  go_region_held3 (fun w' => w'.cell? ⟨b0, o0, none⟩ = some (.int .i64 s0.code) ∧ w'.cell? ⟨b0, o0 + 1, none⟩ = some (.bool s0.found) ∧ w'.cell? ⟨b0, o0 + 2, none⟩ = some (.slice g0.A g0.n g0.c) ∧ w'.cell? ⟨b0, o0 + 3, none⟩ = some (.slice g0.B g0.m g0.d) ∧ w'.cell? ⟨b0, o0 + 4, none⟩ = some (.int .u64 0) ∧ w'.cell? ⟨b0, o0 + 5, none⟩ = some (.int .i64 s1.code) ∧ w'.cell? ⟨b0, o0 + 5 + 1, none⟩ = some (.bool s1.found) ∧ w'.cell? ⟨b0, o0 + 5 + 2, none⟩ = some (.slice g1.A g1.n g1.c) ∧ w'.cell? ⟨b0, o0 + 5 + 3, none⟩ = some (.slice g1.B g1.m g1.d) ∧ w'.cell? ⟨b0, o0 + 5 + 4, none⟩ = some (.int .u64 0) ∧ w'.cell? ⟨b2, o2, none⟩ = some (.int .i64 s1.code) ∧ w'.cell? ⟨b2, o2 + 1, none⟩ = some (.bool s1.found) ∧ w'.cell? ⟨b2, o2 + 2, none⟩ = some (.slice g2.A g2.n g2.c) ∧ w'.cell? ⟨b2, o2 + 3, none⟩ = some (.slice g2.B g2.m g2.d) ∧ w'.cell? ⟨b2, o2 + 4, none⟩ = some (.int .u64 0) ∧ w'.cell? ⟨b2, o2 + 5, none⟩ = some (.int .i64 s0.code) ∧ w'.cell? ⟨b2, o2 + 5 + 1, none⟩ = some (.bool s0.found) ∧ w'.cell? ⟨b2, o2 + 5 + 2, none⟩ = some (.slice g3.A g3.n g3.c) ∧ w'.cell? ⟨b2, o2 + 5 + 3, none⟩ = some (.slice g3.B g3.m g3.d) ∧ w'.cell? ⟨b2, o2 + 5 + 4, none⟩ = some (.int .u64 0)) (go_keep)
    (first
      | (go_at_call 12
         (with_reducible refine D.out.mono ?_)
         rintro e w9 ⟨rfl, hd9⟩
         have hb9 : Below w8.heap.size w8 w9 := undrew (hd9.bel w8.heap.size)
         have HB9 := Lib.hid hb9
         obtain ⟨x0, x1, x2, x3, x4, x5, x6, x7, x8, x9, z0, z1, z2, z3, z4, z5, z6, z7, z8, z9⟩ := HXB.out w9 hb9
         have E := Lib.hid (HR03.out w9 hb9)
         clear hd9 hb9)
      | (go_at_call 19
         (with_reducible refine E.out.mono ?_)
         rintro e w10 ⟨rfl, hb10⟩
         have hb10 : Below w8.heap.size w8 w10 := HB9.out.trans (hb10.mono HB9.out.size)
         have HB10 := Lib.hid hb10
         obtain ⟨x0, x1, x2, x3, x4, x5, x6, x7, x8, x9, z0, z1, z2, z3, z4, z5, z6, z7, z8, z9⟩ := HXB.out w10 hb10
         have F := Lib.hid (HR12.out w10 hb10)
         clear hb10)
      | (go_at_call 19
         (with_reducible refine F.out.mono ?_)
         rintro e w11 ⟨rfl, hb11⟩
         have hb11 : Below w8.heap.size w8 w11 := HB10.out.trans (hb11.mono HB10.out.size)
         have HB11 := Lib.hid hb11
         obtain ⟨x0, x1, x2, x3, x4, x5, x6, x7, x8, x9, z0, z1, z2, z3, z4, z5, z6, z7, z8, z9⟩ := HXB.out w11 hb11
         clear hb11))
  clear HR03 HR12 HX HXB D E F
  go_wp2
  go_ret
  exact ⟨rfl, HB8.out.trans (HB11.out.mono HB8.out.size)⟩

theorem turns_any {w : World} {A : Option Addr} {n c : Nat} {L : List Pr} {ha hb : Qh} {a b : Rq} (hp : Prs w A n c L) (hra : RqR w ha a) (hrb : RqR w hb b) :
    Calls Try.prog 5 #[.slice A n c, rqV ha a, rqV hb b] w fun e w' => e = .returned (.bool true) ∧ Below w.heap.size w w' := by
  cases hf : fewB L 100
  · exact turns_let hp hra hrb (.inl hf)
  cases hs : smallQ a
  · exact turns_let hp hra hrb (.inr (.inl ⟨hf, hs⟩))
  cases hs2 : smallQ b
  · exact turns_let hp hra hrb (.inr (.inr (.inl ⟨hf, hs, hs2⟩)))
  cases k6 : (a.kind == 6)
  · cases j6 : (b.kind == 6)
    · cases hk : (a.key == b.key)
      · exact turns_main hp hra hrb hf hs hs2 k6 j6 hk
      · exact turns_let hp hra hrb (.inr (.inr (.inr (.inr (.inr ⟨hf, hs, hs2, k6, j6, hk⟩)))))
    · exact turns_let hp hra hrb (.inr (.inr (.inr (.inr (.inl ⟨hf, hs, hs2, k6, j6⟩)))))
  · exact turns_let hp hra hrb (.inr (.inr (.inr (.inl ⟨hf, hs, hs2, k6⟩))))
end Go.Proofs.Yteklpjcjlbeipaa
