/- OmapErrs' walk. Condition: what came in can be read. -/
import Derived.Test.YteklpjcjlbeipaaWo
namespace Go.Proofs.Yteklpjcjlbeipaa
open Go.RowKit
set_option linter.unusedVariables false
set_option maxRecDepth 100000

theorem reads_lit (w : World) (h : Qh) (r : Rq) : Calls Try.prog 16 #[.agg #[.int .i64 r.cl, .int .i64 r.sq, .int .i64 r.kind, .slice h.A h.n h.c, .slice h.B h.m h.d, .slice h.C h.o h.p, .slice h.D h.q h.s, .int .i64 r.limit]] w fun e w' => e = .returned (.bool (readsQ r)) ∧ Below w.heap.size w w' := reads_any w h r
theorem smallq_lit {w : World} {h : Qh} {r : Rq} (hr : RqR w h r) : Calls Try.prog 20 #[.agg #[.int .i64 r.cl, .int .i64 r.sq, .int .i64 r.kind, .slice h.A h.n h.c, .slice h.B h.m h.d, .slice h.C h.o h.p, .slice h.D h.q h.s, .int .i64 r.limit]] w fun e w' => e = .returned (.bool (smallQ r)) ∧ Below w.heap.size w w' := smallq_any hr
theorem do_lit {w : World} {A : Option Addr} {n c : Nat} {L : List Pr} {h : Qh} {r : Rq} (hp : Prs w A n c L) (hr : RqR w h r) (hs : smallQ r = true) (hfit : Fit L) (hn : n ≤ 900) (most : Int) :
    Calls Try.prog 17 #[.slice A n c, .agg #[.int .i64 r.cl, .int .i64 r.sq, .int .i64 r.kind, .slice h.A h.n h.c, .slice h.B h.m h.d, .slice h.C h.o h.p, .slice h.D h.q h.s, .int .i64 r.limit], .int .i64 most] w fun e w' => ∃ (A1 : Option Addr) (n1 c1 : Nat) (h1 : Sh), e = .returned (.tuple #[.slice A1 n1 c1, .agg #[.int .i64 (ansQ L r most).1.code, .bool (ansQ L r most).1.found, .slice h1.A h1.n h1.c, .slice h1.B h1.m h1.d, .int .u64 0]]) ∧
      Prs w' A1 n1 c1 (nextQ L r most) ∧ RsR w' h1 (ansQ L r most).1 ∧ Below w.heap.size w w' := do_any hp hr hs hfit hn most
theorem row_facts {L : List Pr} {m : Nat} (h : fewB L m = true) : Fit (rowL L) ∧ (rowL L).length ≤ m := by
  have hf := row_fit L L.length (Nat.le_refl _)
  rw [List.take_length] at hf
  exact ⟨hf.1, Nat.le_trans hf.2 (few_small h).2⟩

set_option maxHeartbeats 8000000 in
/-- Where nothing is asked: too many, or too long. -/
theorem errs_let {w : World} {A : Option Addr} {n c : Nat} {L : List Pr} {h : Qh} {r : Rq} (hp : Prs w A n c L) (hr : RqR w h r) (most : Int) (hl : fewB L 100 = false ∨ (fewB L 100 = true ∧ smallQ r = false)) :
    Calls Try.prog 4 #[.slice A n c, rqV h r, .int .i64 most] w fun e w' => e = .returned (.bool true) ∧ Below w.heap.size w w' := by
  obtain ⟨V, hV, hVB, hVQ, hVs⟩ := box_q w h r
  have HUP := Lib.hid (up_any V)
  have HFX := Lib.hid (fun (w1 : World) (hb : Below w.heap.size w w1) => few_any (w := w1) 100 (hp.below hb))
  have HSX := Lib.hid (fun (w1 : World) (hb : Below w.heap.size w w1) => smallq_lit (hr.below hb))
  have HB := Lib.hid hVB
  have HQ := Lib.hid hVQ
  have hVe := Lib.hid hV
  have hwl : w.heap.size < V.heap.size := by omega
  clear hp hr hV hVB hVQ hVs
  unfold rqV
  rcases hl with hf | ⟨hf, hs⟩
  case' inl => generalize smallQ r = sm at HSX
  case' inr =>
    rw [hs] at HSX
    clear hs
  all_goals
    rw [hf] at HFX
    clear hf
    go_enter Try.func4, Try.ntmps4
    go_wp2_with fail
    rw [← hVe.out]
    refine HUP.out.mono ?_
    rintro e w1 ⟨rfl, hb1⟩
    have HB1 := Lib.hid (HB.out.trans (hb1.mono HB.out.size))
    obtain ⟨q0, q1, q2, q3, q4, q5, q6, q7⟩ := (HQ.out.below hb1 hwl).cells
    clear HUP hb1
    go_wp2_with fail
    refine (HFX.out _ HB1.out).mono ?_
    rintro e w2 ⟨rfl, rfl⟩
    clear HFX
    go_wp2_with fail
    refine (HSX.out _ HB1.out).mono ?_
    rintro e w2 ⟨rfl, hb2⟩
    have HB2 := Lib.hid (HB1.out.trans (hb2.mono HB1.out.size))
    clear HSX hb2 q0 q1 q2 q3 q4 q5 q6 q7
    go_wp2
    go_ret
    exact ⟨rfl, HB2.out⟩

set_option maxHeartbeats 16000000 in
theorem errs_main {w : World} {A : Option Addr} {n c : Nat} {L : List Pr} {h : Qh} {r : Rq} (hp : Prs w A n c L) (hr : RqR w h r) (most : Int) (hf : fewB L 100 = true) (hs : smallQ r = true) :
    Calls Try.prog 4 #[.slice A n c, rqV h r, .int .i64 most] w fun e w' => e = .returned (.bool true) ∧ Below w.heap.size w w' := by
  obtain ⟨V, hV, hVB, hVQ, hVs⟩ := box_q w h r
  have HUP := Lib.hid (up_any V)
  have HFX := Lib.hid (fun (w1 : World) (hb : Below w.heap.size w w1) => few_any (w := w1) 100 (hp.below hb))
  have HSX := Lib.hid (fun (w1 : World) (hb : Below w.heap.size w w1) => smallq_lit (hr.below hb))
  rw [hf] at HFX
  rw [hs] at HSX
  have hrf := row_facts hf
  have HFT := Lib.hid hrf.1
  have HRL := Lib.hid hrf.2
  have HSM := Lib.hid (few_small hf)
  have HSQ := Lib.hid hs
  have hn : n ≤ 100 := by rw [← hp.len]; exact (few_small hf).2
  have HP := Lib.hid hp
  have HR := Lib.hid hr
  have HB := Lib.hid hVB
  have HQ := Lib.hid hVQ
  have hVe := Lib.hid hV
  have hwl : w.heap.size < V.heap.size := by omega
  clear hp hr hV hVB hVQ hVs hf hs hrf
  unfold rqV
  go_enter Try.func4, Try.ntmps4
  go_wp2_with fail
  rw [← hVe.out]
  refine HUP.out.mono ?_
  rintro e w1 ⟨rfl, hb1⟩
  have HB1 := Lib.hid (HB.out.trans (hb1.mono HB.out.size))
  have HQ1 := Lib.hid (HQ.out.below hb1 hwl)
  obtain ⟨q0, q1, q2, q3, q4, q5, q6, q7⟩ := HQ1.out.cells
  clear HUP hb1 HB HQ hVe
  go_wp2_with fail
  refine (HFX.out _ HB1.out).mono ?_
  rintro e w2 ⟨rfl, rfl⟩
  clear HFX
  go_wp2_with fail
  refine (HSX.out _ HB1.out).mono ?_
  rintro e w2 ⟨rfl, hb2⟩
  have HB2 := Lib.hid (HB1.out.trans (hb2.mono HB1.out.size))
  have HQ2 := Lib.hid (HQ1.out.below hb2 HQ1.out.lt)
  have HRW := Lib.hid (rrow_any (HP.out.below HB2.out) HSM.out.1 (by omega))
  clear HSX hb2 q0 q1 q2 q3 q4 q5 q6 q7 HB1 HQ1
  go_wp2_with fail
  refine HRW.out.mono ?_
  rintro e w3 ⟨A3, n3, c3, rfl, hp3, hb3⟩
  have HP3 := Lib.hid hp3
  have HB3 := Lib.hid (HB2.out.trans (hb3.mono HB2.out.size))
  have HQ3 := Lib.hid (HQ2.out.below hb3 HQ2.out.lt)
  have HN3 := Lib.hid hp3.len
  have hn3 : n3 ≤ 100 := by rw [← hp3.len]; exact HRL.out
  have HDO := Lib.hid (do_lit hp3 (HR.out.below HB3.out) HSQ.out HFT.out (by omega) most)
  obtain ⟨q0, q1, q2, q3, q4, q5, q6, q7⟩ := HQ3.out.cells
  clear HRW hp3 hb3 HB2 HQ2
  go_wp2_with fail
  refine HDO.out.mono ?_
  rintro e w4 ⟨A4, n4, c4, h4, rfl, hp4, hs4, hb4⟩
  have HB4 := Lib.hid (HB3.out.trans (hb4.mono HB3.out.size))
  have HQ4 := Lib.hid (HQ3.out.below hb4 HQ3.out.lt)
  have HP4 := Lib.hid hp4
  have HP34 := Lib.hid (HP3.out.below hb4)
  have HSAME := Lib.hid (next_same (L := rowL L) (r := r) (most := most))
  have HROOM := Lib.hid (next_room HFT.out.1 r most)
  have HN4 := Lib.hid hp4.len
  have HFT4 := Lib.hid (next_fit HFT.out r most)
  clear hp4 hs4 hb4 HDO q0 q1 q2 q3 q4 q5 q6 q7 HB3 HQ3 HP3
  generalize ansQ (rowL L) r most = res at HSAME
  rw [HN4.out, HN3.out] at HROOM
  generalize nextQ (rowL L) r most = N at HP4 HSAME HN4 HFT4
  generalize rowL L = R at HP34 HSAME HN3
  go_upto_region 8 with fail
  obtain ⟨w5, hw5, hwb5, hws5, hsz5⟩ := box_s w4 h4 res.1
  rw [← hw5]
  have HB5 := Lib.hid (HB4.out.trans (hwb5.mono HB4.out.size))
  have HQ5 := Lib.hid (HQ4.out.below hwb5 HQ4.out.lt)
  have HP5 := Lib.hid (HP4.out.below hwb5)
  have HP35 := Lib.hid (HP34.out.below hwb5)
  have HIS := ris_any HP5.out (small_fit HFT4.out)
  rw [HFT4.out.is] at HIS
  have HI5 := Lib.hid HIS
  have HS5 := Lib.hid hws5
  clear hw5 hwb5 hws5 hsz5 HIS HB4 HQ4 HP4 HP34
  go_wp2_with fail
  refine HI5.out.mono ?_
  rintro e w6 ⟨rfl, hd⟩
  have hb6 := hd.bel w5.heap.size
  have HB6 := Lib.hid (HB5.out.trans (hb6.mono HB5.out.size))
  have HQ6 := Lib.hid (HQ5.out.below hb6 HQ5.out.lt)
  have HS6 := Lib.hid (HS5.out.below hb6 HS5.out.lt)
  have HP6 := Lib.hid (HP5.out.below hb6)
  have HP36 := Lib.hid (HP35.out.below hb6)
  obtain ⟨x0, x1, x2, x3, x4, -, -, -, -, -⟩ := HS6.out.cells
  obtain ⟨q0, q1, q2, q3, q4, q5, q6, q7⟩ := HQ6.out.cells
  have hroom : decide ((n4 : Int) ≤ most) = true ∨ (decide ((n4 : Int) ≤ most) = false ∧ decide (n4 ≤ n3) = true) := by
    rcases HROOM.out with h | h
    · exact .inl (by simp; omega)
    · by_cases hm : (n4 : Int) ≤ most
      · exact .inl (by simp; omega)
      · exact .inr ⟨by simp; omega, by simp; omega⟩
  have HRM := Lib.hid hroom
  clear hd hb6 HI5 HB5 HQ5 HS5 HP5 HP35 hroom HROOM x1 x2 x3 x4
  by_cases hc : res.1.code = 0
  · rw [hc] at x0
    have HRD := Lib.hid (reads_lit w6 h r)
    cases hrd : readsQ r
    · rw [hrd] at HRD
      clear hrd
      go_wp2_with fail
      refine HRD.out.mono ?_
      rintro e w7 ⟨rfl, hb7⟩
      have HB7 := Lib.hid (HB6.out.trans (hb7.mono HB6.out.size))
      clear hb7 HRD
      rcases HRM.out with hroom | ⟨hroom, hroom2⟩
      all_goals
        go_wp2
        go_ret
        exact ⟨ret_bool (by first | rfl | exact hroom2), HB7.out⟩
    · rw [hrd] at HRD
      have he := HSAME.out (.inr hrd)
      subst he
      clear hrd
      go_wp2_with fail
      refine HRD.out.mono ?_
      rintro e w7 ⟨rfl, hb7⟩
      have HB7 := Lib.hid (HB6.out.trans (hb7.mono HB6.out.size))
      have HPR := Lib.hid (pairs_same (HP6.out.below hb7) (HP36.out.below hb7))
      clear hb7 HRD
      go_wp2_with fail
      refine HPR.out.mono ?_
      rintro e w8 ⟨rfl, hd8⟩
      have HB8 := Lib.hid (HB7.out.trans ((hd8.bel w7.heap.size).mono HB7.out.size))
      clear hd8 HPR
      rcases HRM.out with hroom | ⟨hroom, hroom2⟩
      all_goals
        go_wp2
        go_ret
        exact ⟨ret_bool (by first | rfl | exact hroom2), HB8.out⟩
  · have hc2 : (res.1.code != 0) = true := by simp [hc]
    have he := HSAME.out (.inl hc)
    subst he
    have HPR := Lib.hid (pairs_same HP6.out HP36.out)
    clear hc
    go_wp2_with fail
    refine HPR.out.mono ?_
    rintro e w8 ⟨rfl, hd8⟩
    have HB8 := Lib.hid (HB6.out.trans ((hd8.bel w6.heap.size).mono HB6.out.size))
    clear hd8 HPR
    rcases HRM.out with hroom | ⟨hroom, hroom2⟩
    all_goals
      go_wp2
      go_ret
      exact ⟨ret_bool (by first | rfl | exact hroom2), HB8.out⟩

theorem errs_any {w : World} {A : Option Addr} {n c : Nat} {L : List Pr} {h : Qh} {r : Rq} (hp : Prs w A n c L) (hr : RqR w h r) (most : Int) :
    Calls Try.prog 4 #[.slice A n c, rqV h r, .int .i64 most] w fun e w' => e = .returned (.bool true) ∧ Below w.heap.size w w' := by
  cases hf : fewB L 100
  · exact errs_let hp hr most (.inl hf)
  · cases hs : smallQ r
    · exact errs_let hp hr most (.inr ⟨hf, hs⟩)
    · exact errs_main hp hr most hf hs
end Go.Proofs.Yteklpjcjlbeipaa
