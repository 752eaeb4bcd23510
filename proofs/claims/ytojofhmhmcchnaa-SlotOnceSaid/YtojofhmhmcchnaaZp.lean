/- SlotOnce's walk where what came in is small. Condition: what came in can be read. -/
import Derived.Test.YtojofhmhmcchnaaZo
namespace Go.Proofs.Ytojofhmhmcchnaa
open Go.RowKit
set_option linter.unusedVariables false
set_option maxRecDepth 100000

theorem once_takeA1 (r : Rq) : takeA (oL ⟨1, r, an0⟩) 0 r.cl r.sq = an0 := by unfold takeA; rw [(once_facts r an0).1]; rfl
theorem errV4 : errV 4 = .iface 29 (.int .i64 4) := rfl
theorem errV1 : errV 1 = .iface 29 (.int .i64 1) := rfl
theorem errV3 : errV 3 = .iface 29 (.int .i64 3) := rfl
theorem errV10 : errV 10 = .iface 29 (.int .i64 10) := rfl
/-- A result's box behind what was held. -/
theorem OnceI.boxed {w wx : World} {h : Qh} {r : Rq} {k : Sh} {a : An} {N : Nat} {L : List Sl} (hr : On (fun b => b < w.heap.size) w (RqR · h r)) (H : OnceI w h r k a N L wx) (g : Sh) (x : An) :
    ∃ W, W = wx.alloc (.cells #[.int .i64 x.code, .bool x.found, .slice g.A g.n g.c, .slice g.B g.m g.d, .int .u64 x.stamp] 37) ∧ OnceI w h r k a N L W ∧ BoxA W wx.heap.size g x ∧ Below wx.heap.size wx W :=
  ⟨_, rfl, H.alloc hr _, Deep.blk_alloc_new _ _, (Below.refl _ _).alloc (Nat.le_refl _) _⟩

set_option maxHeartbeats 8000000 in
theorem once_no {w : World} {h : Qh} {r : Rq} {k : Sh} {a : An} (hr : RqR w h r) (ha : AnR w k a) (c q : Int) (hsr : smallQ r = true) (hsa : smallA a = true) (hm : mayQ r = false) :
    Calls Try.prog 4 #[rqV h r, anV k a, .int .i64 c, .int .i64 q] w fun e w' => e = .returned (.bool true) ∧ Below w.heap.size w w' := by
  obtain ⟨W, hW, hWB, hWQ, hWA, hWs⟩ := box_ra w h r k a
  have HUP := Lib.hid (up_any W)
  have HQ := Lib.hid hWQ
  have HA := Lib.hid hWA
  have HB := Lib.hid hWB
  have hWe := Lib.hid hW
  have HR := Lib.hid hr
  have HRO := Lib.hid (rq_old hr)
  have HAR := Lib.hid ha
  have HAO := Lib.hid (an_old ha)
  have HW := Lib.hid hWs
  have HSR := Lib.hid hsr
  have HSAA := Lib.hid (smallA_sm hsa)
  have HSAB := Lib.hid hsa
  have HMM := Lib.hid hm
  clear hr ha hW hWB hWQ hWA hWs hsr hsa hm
  have ee := neq_err
  have eq := eql_err
  unfold rqV anV
  go_enter Try.func4, Try.ntmps4
  go_wp2_with fail
  rw [← hWe.out]
  refine HUP.out.mono ?_
  rintro e w1 ⟨rfl, hb1⟩
  have HB1 := Lib.hid (HB.out.trans (hb1.mono HB.out.size))
  have HQ1 := Lib.hid (HQ.out.below hb1 (by have := HW.out; omega))
  have HA1 := Lib.hid (HA.out.below hb1 (by have := HW.out; omega))
  have HN := Lib.hid (new_four w1)
  clear hb1 HUP HQ HA HB hWe
  go_wp2_with fail
  refine HN.out.mono ?_
  rintro e w2 ⟨rfl, hs2, hb2⟩
  have HI2 := Lib.hid (show OnceI w h r k a w1.heap.size (oL sl0) w2 from ⟨hs2, HQ1.out.below hb2 HQ1.out.lt, HA1.out.below hb2 HA1.out.lt, HR.out.below (HB1.out.trans (hb2.mono HB1.out.size)), HAO.out.keep (below_agree (HB1.out.trans (hb2.mono HB1.out.size)) fun b hb _ => hb), HB1.out.trans (hb2.mono HB1.out.size), by have := HA1.out.lt; omega, by have := hs2.lt; omega⟩)
  have HSM := smallq_lit HI2.out.rq
  rw [HSR.out] at HSM
  have HSM := Lib.hid HSM
  obtain ⟨b0, b1, b2, b3, b4, b5, b6, b7⟩ := HI2.out.req.cells
  generalize w1.heap.size = N at HI2 ⊢
  clear hs2 hb2 HN HB1 HQ1 HA1
  go_wp2_with fail
  refine HSM.out.mono ?_
  rintro e w3 ⟨rfl, hb3⟩
  have HI3 := Lib.hid (HI2.out.more HRO.out hb3)
  have HSA := lsmall_any (HAR.out.below HI3.out.below)
  rw [HSAB.out] at HSA
  have HSA := Lib.hid HSA
  obtain ⟨c0, c1, c2, c3, c4⟩ := HI3.out.ans.cells
  clear b0 b1 b2 b3 b4 b5 b6 b7 hb3 HSM HI2
  go_wp2_with fail
  refine HSA.out.mono ?_
  rintro e w4 ⟨rfl, hb4⟩
  have HI4 := Lib.hid (HI3.out.more HRO.out hb4)
  clear c0 c1 c2 c3 c4 hb4 HSA HI3
  have HP5 := spost_lit HI4.out.slots (off_n N) (fun b hb => Nat.le_trans HI4.out.size hb) HI4.out.rq HSR.out
  unfold PostO at HP5
  rw [o_postL_no HMM.out, o_postK_no HMM.out, errV1] at HP5
  have HPH5 := Lib.hid HP5
  obtain ⟨b0, b1, b2, b3, b4, b5, b6, b7⟩ := HI4.out.req.cells
  clear HP5
  go_wp2_with fail
  refine HPH5.out.mono ?_
  rintro e w5 ⟨rfl, hs5, hc5⟩
  have HI5 := Lib.hid (HI4.out.step HRO.out hs5 hc5)
  clear hs5 hc5 HPH5 HI4 b0 b1 b2 b3 b4 b5 b6 b7
  have HF := Lib.hid (sfirst_any 1 HI5.out.slots)
  rw [o_first] at HF
  go_wp2_with fail
  refine HF.out.mono ?_
  rintro e w6 ⟨rfl, hb6⟩
  have HB6 := Lib.hid (HI5.out.below.trans (hb6.mono HI5.out.below.size))
  clear hb6 HF HI5
  go_wp2
  go_ret
  exact ⟨rfl, HB6.out⟩

set_option maxHeartbeats 8000000 in
theorem once_same {w : World} {h : Qh} {r : Rq} {k : Sh} {a : An} (hr : RqR w h r) (ha : AnR w k a) (c q : Int) (hsr : smallQ r = true) (hsa : smallA a = true) (hm : mayQ r = true) (hc : c = r.cl) (hq : q = r.sq) :
    Calls Try.prog 4 #[rqV h r, anV k a, .int .i64 c, .int .i64 q] w fun e w' => e = .returned (.bool true) ∧ Below w.heap.size w w' := by
  obtain ⟨W, hW, hWB, hWQ, hWA, hWs⟩ := box_ra w h r k a
  have HUP := Lib.hid (up_any W)
  have HQ := Lib.hid hWQ
  have HA := Lib.hid hWA
  have HB := Lib.hid hWB
  have hWe := Lib.hid hW
  have HR := Lib.hid hr
  have HRO := Lib.hid (rq_old hr)
  have HAR := Lib.hid ha
  have HAO := Lib.hid (an_old ha)
  have HW := Lib.hid hWs
  have HSR := Lib.hid hsr
  have HSAA := Lib.hid (smallA_sm hsa)
  have HSAB := Lib.hid hsa
  have HMM := Lib.hid hm
  clear hr ha hW hWB hWQ hWA hWs hsr hsa hm
  have ee := neq_err
  have eq := eql_err
  unfold rqV anV
  go_enter Try.func4, Try.ntmps4
  go_wp2_with fail
  rw [← hWe.out]
  refine HUP.out.mono ?_
  rintro e w1 ⟨rfl, hb1⟩
  have HB1 := Lib.hid (HB.out.trans (hb1.mono HB.out.size))
  have HQ1 := Lib.hid (HQ.out.below hb1 (by have := HW.out; omega))
  have HA1 := Lib.hid (HA.out.below hb1 (by have := HW.out; omega))
  have HN := Lib.hid (new_four w1)
  clear hb1 HUP HQ HA HB hWe
  go_wp2_with fail
  refine HN.out.mono ?_
  rintro e w2 ⟨rfl, hs2, hb2⟩
  have HI2 := Lib.hid (show OnceI w h r k a w1.heap.size (oL sl0) w2 from ⟨hs2, HQ1.out.below hb2 HQ1.out.lt, HA1.out.below hb2 HA1.out.lt, HR.out.below (HB1.out.trans (hb2.mono HB1.out.size)), HAO.out.keep (below_agree (HB1.out.trans (hb2.mono HB1.out.size)) fun b hb _ => hb), HB1.out.trans (hb2.mono HB1.out.size), by have := HA1.out.lt; omega, by have := hs2.lt; omega⟩)
  have HSM := smallq_lit HI2.out.rq
  rw [HSR.out] at HSM
  have HSM := Lib.hid HSM
  obtain ⟨b0, b1, b2, b3, b4, b5, b6, b7⟩ := HI2.out.req.cells
  generalize w1.heap.size = N at HI2 ⊢
  clear hs2 hb2 HN HB1 HQ1 HA1
  go_wp2_with fail
  refine HSM.out.mono ?_
  rintro e w3 ⟨rfl, hb3⟩
  have HI3 := Lib.hid (HI2.out.more HRO.out hb3)
  have HSA := lsmall_any (HAR.out.below HI3.out.below)
  rw [HSAB.out] at HSA
  have HSA := Lib.hid HSA
  obtain ⟨c0, c1, c2, c3, c4⟩ := HI3.out.ans.cells
  clear b0 b1 b2 b3 b4 b5 b6 b7 hb3 HSM HI2
  go_wp2_with fail
  refine HSA.out.mono ?_
  rintro e w4 ⟨rfl, hb4⟩
  have HI4 := Lib.hid (HI3.out.more HRO.out hb4)
  clear c0 c1 c2 c3 c4 hb4 HSA HI3
  subst hc hq
  have e1 : (r.cl != r.cl) = false := by simp
  have e2 : (r.sq != r.sq) = false := by simp
  have HP5 := spost_lit HI4.out.slots (off_n N) (fun b hb => Nat.le_trans HI4.out.size hb) HI4.out.rq HSR.out
  unfold PostO at HP5
  rw [o_postL HMM.out, o_postK HMM.out, o_postI HMM.out, errV_zero] at HP5
  have HPH5 := Lib.hid HP5
  obtain ⟨b0, b1, b2, b3, b4, b5, b6, b7⟩ := HI4.out.req.cells
  clear HP5
  go_wp2_with fail
  refine HPH5.out.mono ?_
  rintro e w5 ⟨rfl, hs5, hc5⟩
  have HI5 := Lib.hid (HI4.out.step HRO.out hs5 hc5)
  clear hs5 hc5 HPH5 HI4 b0 b1 b2 b3 b4 b5 b6 b7
  have HP6 := spost_lit HI5.out.slots (off_n N) (fun b hb => Nat.le_trans HI5.out.size hb) HI5.out.rq HSR.out
  unfold PostO at HP6
  rw [(o_twice HMM.out).1, (o_twice HMM.out).2.1, (o_twice HMM.out).2.2, errV4] at HP6
  have HPH6 := Lib.hid HP6
  obtain ⟨b0, b1, b2, b3, b4, b5, b6, b7⟩ := HI5.out.req.cells
  clear HP6
  go_wp2_with fail
  refine HPH6.out.mono ?_
  rintro e w6 ⟨rfl, hs6, hc6⟩
  have HI6 := Lib.hid (HI5.out.step HRO.out hs6 hc6)
  clear hs6 hc6 HPH6 HI5 b0 b1 b2 b3 b4 b5 b6 b7
  have HP7 := take_lit HI6.out.slots (ok_oL (by show (0 : Int) ≤ 1; omega) (by show (1 : Int) ≤ 4; omega) (fun h => by cases h)) (off_n N) 0 r.cl r.sq
  rw [once_takeA1, (once_facts r a).1, (once_facts r a).2.1, errV10] at HP7
  have HPH7 := Lib.hid HP7
  obtain ⟨b0, b1, -⟩ := HI6.out.req.cells
  clear HP7
  go_wp2_with fail
  refine HPH7.out.mono ?_
  rintro e w7' ⟨g7, rfl, ho7, hs7, hc7⟩
  have HI7' := Lib.hid (HI6.out.step HRO.out hs7 hc7)
  have HX7 := Lib.hid (HI7'.out.boxed HRO.out g7 an0)
  clear ho7 hs7 hc7 HPH7 HI6 b0 b1
  go_upto_region 12 with fail
  obtain ⟨w7, hw7, hi7, hx7, hbx7⟩ := HX7.out
  rw [← hw7]
  have HI7 := Lib.hid hi7
  clear hw7 hi7 hx7 hbx7 HX7 HI7'
  have HP8 := sans_lit HI7.out.slots (ok_oL (by show (0 : Int) ≤ 1; omega) (by show (1 : Int) ≤ 4; omega) (fun h => by cases h)) (off_n N) (fun b hb => Nat.le_trans HI7.out.size hb) 0 (HI7.out.an.mono (fun b hb => by have := HI7.out.low; have hb' : b < w.heap.size := hb; show b ≠ N; omega)) HSAA.out
  unfold AnsO at HP8
  rw [(once_facts r a).2.2.1, (once_facts r a).2.2.2.1, errV10] at HP8
  have HPH8 := Lib.hid HP8
  obtain ⟨c0, c1, c2, c3, c4⟩ := HI7.out.ans.cells
  clear HP8
  go_wp2_with fail
  refine HPH8.out.mono ?_
  rintro e w8 ⟨rfl, hs8, hc8⟩
  have HI8 := Lib.hid (HI7.out.step HRO.out hs8 hc8)
  clear hs8 hc8 HPH8 HI7 c0 c1 c2 c3 c4
  have HP9 := claim_any HI8.out.slots (ok_oL (by show (0 : Int) ≤ 1; omega) (by show (1 : Int) ≤ 4; omega) (fun h => by cases h)) (off_n N) 0
  unfold TurnO at HP9
  rw [(once_facts r a).2.2.2.2.1, (once_facts r a).2.2.2.2.2.1, errV_zero] at HP9
  have HPH9 := Lib.hid HP9
  clear HP9
  go_wp2_with fail
  refine HPH9.out.mono ?_
  rintro e w9 ⟨rfl, hs9, hc9⟩
  have HI9 := Lib.hid (HI8.out.step HRO.out hs9 hc9)
  clear hs9 hc9 HPH9 HI8
  have HP10 := sans_lit HI9.out.slots (ok_oL (by show (0 : Int) ≤ 2; omega) (by show (2 : Int) ≤ 4; omega) (fun h => by cases h)) (off_n N) (fun b hb => Nat.le_trans HI9.out.size hb) 0 (HI9.out.an.mono (fun b hb => by have := HI9.out.low; have hb' : b < w.heap.size := hb; show b ≠ N; omega)) HSAA.out
  unfold AnsO at HP10
  rw [(once_facts r a).2.2.2.2.2.2.1, (once_facts r a).2.2.2.2.2.2.2.1, errV_zero] at HP10
  have HPH10 := Lib.hid HP10
  obtain ⟨c0, c1, c2, c3, c4⟩ := HI9.out.ans.cells
  clear HP10
  go_wp2_with fail
  refine HPH10.out.mono ?_
  rintro e w10 ⟨rfl, hs10, hc10⟩
  have HI10 := Lib.hid (HI9.out.step HRO.out hs10 hc10)
  clear hs10 hc10 HPH10 HI9 c0 c1 c2 c3 c4
  have HP12 := take_lit HI10.out.slots (ok_oL (by show (0 : Int) ≤ 3; omega) (by show (3 : Int) ≤ 4; omega) (fun h => by cases h)) (off_n N) 0 r.cl r.sq
  rw [(once_facts r a).2.2.2.2.2.2.2.2.2.1, (once_facts r a).2.2.2.2.2.2.2.2.1, (once_facts r a).2.2.2.2.2.2.2.2.2.2, errV_zero] at HP12
  have HPH12 := Lib.hid HP12
  obtain ⟨b0, b1, -⟩ := HI10.out.req.cells
  clear HP12
  go_wp2_with fail
  refine HPH12.out.mono ?_
  rintro e w12' ⟨g12, rfl, ho12, hs12, hc12⟩
  have HI12' := Lib.hid (HI10.out.step HRO.out hs12 hc12)
  have HX12 := Lib.hid (HI12'.out.boxed HRO.out g12 a)
  have HON12 := Lib.hid ho12
  have hsz12 : N + 1 + 1 ≤ w12'.heap.size := HI12'.out.size
  clear ho12 hs12 hc12 HPH12 HI10 b0 b1
  go_upto_region 22 with fail
  obtain ⟨w12, hw12, hi12, hx12, hbx12⟩ := HX12.out
  rw [← hw12]
  have HI12 := Lib.hid hi12
  have HZ12 := Lib.hid hx12
  have HOA := Lib.hid (HON12.out.keep (below_all hbx12))
  clear hw12 hi12 hx12 hbx12 HX12 HI12' HON12
  have HP13 := take_lit HI12.out.slots (ok_new 4) (off_n N) 0 r.cl r.sq
  rw [(once_none r.cl r.sq).1, (once_none r.cl r.sq).2.1, (once_none r.cl r.sq).2.2, errV3] at HP13
  have HPH13 := Lib.hid HP13
  obtain ⟨b0, b1, -⟩ := HI12.out.req.cells
  clear HP13
  go_wp2_with fail
  refine HPH13.out.mono ?_
  rintro e w13' ⟨g13, rfl, ho13, hs13, hc13⟩
  have HI13' := Lib.hid (HI12.out.step HRO.out hs13 hc13)
  have HX13 := Lib.hid (HI13'.out.boxed HRO.out g13 an0)
  have HZ13 := Lib.hid (show BoxA w13' w12'.heap.size g12 a from (hc13.block _ HZ12.out.lt (by omega)).trans HZ12.out)
  have HOB := Lib.hid ((HOA.out.keep (hc13.agree (off_n N))).here)
  clear ho13 hs13 hc13 HPH13 HI12 b0 b1
  go_upto_region 23 with fail
  obtain ⟨w13, hw13, hi13, hx13, hbx13⟩ := HX13.out
  rw [← hw13]
  have HI13 := Lib.hid hi13
  have HZZ := Lib.hid (HZ13.out.below hbx13 HZ13.out.lt)
  have HS := Lib.hid (samea_any (HI13.out.an.here) (HOB.out.below hbx13))
  clear hw13 hi13 hx13 hbx13 HX13 HI13' HZ12 HOA HZ13 HOB
  obtain ⟨c0, c1, c2, c3, c4⟩ := HI13.out.ans.cells
  obtain ⟨x0, x1, x2, x3, x4⟩ := HZZ.out.cells
  go_wp2_with fail
  refine HS.out.mono ?_
  rintro e w14 ⟨rfl, hb14⟩
  have HB14 := Lib.hid (HI13.out.below.trans (hb14.mono HI13.out.below.size))
  have HST := state_any (HI13.out.slots.below hb14) 0
  rw [oL_st] at HST
  have HST := Lib.hid (show Calls Try.prog 22 #[.pointer (some ⟨N + 1, 0, none⟩), .int .i64 0] w14 fun e w' => e = .returned (.int .i64 0) ∧ w14 = w' from HST)
  clear c0 c1 c2 c3 c4 x0 x1 x2 x3 x4 hb14 HS HZZ HI13
  go_wp2_with fail
  refine HST.out.mono ?_
  rintro e w15 ⟨rfl, rfl⟩
  go_wp2
  go_ret
  exact ⟨rfl, HB14.out⟩

set_option maxHeartbeats 8000000 in
theorem once_client {w : World} {h : Qh} {r : Rq} {k : Sh} {a : An} (hr : RqR w h r) (ha : AnR w k a) (c q : Int) (hsr : smallQ r = true) (hsa : smallA a = true) (hm : mayQ r = true) (hc : c ≠ r.cl) :
    Calls Try.prog 4 #[rqV h r, anV k a, .int .i64 c, .int .i64 q] w fun e w' => e = .returned (.bool true) ∧ Below w.heap.size w w' := by
  obtain ⟨W, hW, hWB, hWQ, hWA, hWs⟩ := box_ra w h r k a
  have HUP := Lib.hid (up_any W)
  have HQ := Lib.hid hWQ
  have HA := Lib.hid hWA
  have HB := Lib.hid hWB
  have hWe := Lib.hid hW
  have HR := Lib.hid hr
  have HRO := Lib.hid (rq_old hr)
  have HAR := Lib.hid ha
  have HAO := Lib.hid (an_old ha)
  have HW := Lib.hid hWs
  have HSR := Lib.hid hsr
  have HSAA := Lib.hid (smallA_sm hsa)
  have HSAB := Lib.hid hsa
  have HMM := Lib.hid hm
  clear hr ha hW hWB hWQ hWA hWs hsr hsa hm
  have ee := neq_err
  have eq := eql_err
  unfold rqV anV
  go_enter Try.func4, Try.ntmps4
  go_wp2_with fail
  rw [← hWe.out]
  refine HUP.out.mono ?_
  rintro e w1 ⟨rfl, hb1⟩
  have HB1 := Lib.hid (HB.out.trans (hb1.mono HB.out.size))
  have HQ1 := Lib.hid (HQ.out.below hb1 (by have := HW.out; omega))
  have HA1 := Lib.hid (HA.out.below hb1 (by have := HW.out; omega))
  have HN := Lib.hid (new_four w1)
  clear hb1 HUP HQ HA HB hWe
  go_wp2_with fail
  refine HN.out.mono ?_
  rintro e w2 ⟨rfl, hs2, hb2⟩
  have HI2 := Lib.hid (show OnceI w h r k a w1.heap.size (oL sl0) w2 from ⟨hs2, HQ1.out.below hb2 HQ1.out.lt, HA1.out.below hb2 HA1.out.lt, HR.out.below (HB1.out.trans (hb2.mono HB1.out.size)), HAO.out.keep (below_agree (HB1.out.trans (hb2.mono HB1.out.size)) fun b hb _ => hb), HB1.out.trans (hb2.mono HB1.out.size), by have := HA1.out.lt; omega, by have := hs2.lt; omega⟩)
  have HSM := smallq_lit HI2.out.rq
  rw [HSR.out] at HSM
  have HSM := Lib.hid HSM
  obtain ⟨b0, b1, b2, b3, b4, b5, b6, b7⟩ := HI2.out.req.cells
  generalize w1.heap.size = N at HI2 ⊢
  clear hs2 hb2 HN HB1 HQ1 HA1
  go_wp2_with fail
  refine HSM.out.mono ?_
  rintro e w3 ⟨rfl, hb3⟩
  have HI3 := Lib.hid (HI2.out.more HRO.out hb3)
  have HSA := lsmall_any (HAR.out.below HI3.out.below)
  rw [HSAB.out] at HSA
  have HSA := Lib.hid HSA
  obtain ⟨c0, c1, c2, c3, c4⟩ := HI3.out.ans.cells
  clear b0 b1 b2 b3 b4 b5 b6 b7 hb3 HSM HI2
  go_wp2_with fail
  refine HSA.out.mono ?_
  rintro e w4 ⟨rfl, hb4⟩
  have HI4 := Lib.hid (HI3.out.more HRO.out hb4)
  clear c0 c1 c2 c3 c4 hb4 HSA HI3
  have HO := Lib.hid (show c ≠ r.cl ∨ q ≠ r.sq from .inl hc)
  have e1 : (c != r.cl) = true := by simpa using hc
  clear hc
  have HP5 := spost_lit HI4.out.slots (off_n N) (fun b hb => Nat.le_trans HI4.out.size hb) HI4.out.rq HSR.out
  unfold PostO at HP5
  rw [o_postL HMM.out, o_postK HMM.out, o_postI HMM.out, errV_zero] at HP5
  have HPH5 := Lib.hid HP5
  obtain ⟨b0, b1, b2, b3, b4, b5, b6, b7⟩ := HI4.out.req.cells
  clear HP5
  go_wp2_with fail
  refine HPH5.out.mono ?_
  rintro e w5 ⟨rfl, hs5, hc5⟩
  have HI5 := Lib.hid (HI4.out.step HRO.out hs5 hc5)
  clear hs5 hc5 HPH5 HI4 b0 b1 b2 b3 b4 b5 b6 b7
  have HP6 := spost_lit HI5.out.slots (off_n N) (fun b hb => Nat.le_trans HI5.out.size hb) HI5.out.rq HSR.out
  unfold PostO at HP6
  rw [(o_twice HMM.out).1, (o_twice HMM.out).2.1, (o_twice HMM.out).2.2, errV4] at HP6
  have HPH6 := Lib.hid HP6
  obtain ⟨b0, b1, b2, b3, b4, b5, b6, b7⟩ := HI5.out.req.cells
  clear HP6
  go_wp2_with fail
  refine HPH6.out.mono ?_
  rintro e w6 ⟨rfl, hs6, hc6⟩
  have HI6 := Lib.hid (HI5.out.step HRO.out hs6 hc6)
  clear hs6 hc6 HPH6 HI5 b0 b1 b2 b3 b4 b5 b6 b7
  have HP7 := take_lit HI6.out.slots (ok_oL (by show (0 : Int) ≤ 1; omega) (by show (1 : Int) ≤ 4; omega) (fun h => by cases h)) (off_n N) 0 r.cl r.sq
  rw [once_takeA1, (once_facts r a).1, (once_facts r a).2.1, errV10] at HP7
  have HPH7 := Lib.hid HP7
  obtain ⟨b0, b1, -⟩ := HI6.out.req.cells
  clear HP7
  go_wp2_with fail
  refine HPH7.out.mono ?_
  rintro e w7' ⟨g7, rfl, ho7, hs7, hc7⟩
  have HI7' := Lib.hid (HI6.out.step HRO.out hs7 hc7)
  have HX7 := Lib.hid (HI7'.out.boxed HRO.out g7 an0)
  clear ho7 hs7 hc7 HPH7 HI6 b0 b1
  go_upto_region 12 with fail
  obtain ⟨w7, hw7, hi7, hx7, hbx7⟩ := HX7.out
  rw [← hw7]
  have HI7 := Lib.hid hi7
  clear hw7 hi7 hx7 hbx7 HX7 HI7'
  have HP8 := sans_lit HI7.out.slots (ok_oL (by show (0 : Int) ≤ 1; omega) (by show (1 : Int) ≤ 4; omega) (fun h => by cases h)) (off_n N) (fun b hb => Nat.le_trans HI7.out.size hb) 0 (HI7.out.an.mono (fun b hb => by have := HI7.out.low; have hb' : b < w.heap.size := hb; show b ≠ N; omega)) HSAA.out
  unfold AnsO at HP8
  rw [(once_facts r a).2.2.1, (once_facts r a).2.2.2.1, errV10] at HP8
  have HPH8 := Lib.hid HP8
  obtain ⟨c0, c1, c2, c3, c4⟩ := HI7.out.ans.cells
  clear HP8
  go_wp2_with fail
  refine HPH8.out.mono ?_
  rintro e w8 ⟨rfl, hs8, hc8⟩
  have HI8 := Lib.hid (HI7.out.step HRO.out hs8 hc8)
  clear hs8 hc8 HPH8 HI7 c0 c1 c2 c3 c4
  have HP9 := claim_any HI8.out.slots (ok_oL (by show (0 : Int) ≤ 1; omega) (by show (1 : Int) ≤ 4; omega) (fun h => by cases h)) (off_n N) 0
  unfold TurnO at HP9
  rw [(once_facts r a).2.2.2.2.1, (once_facts r a).2.2.2.2.2.1, errV_zero] at HP9
  have HPH9 := Lib.hid HP9
  clear HP9
  go_wp2_with fail
  refine HPH9.out.mono ?_
  rintro e w9 ⟨rfl, hs9, hc9⟩
  have HI9 := Lib.hid (HI8.out.step HRO.out hs9 hc9)
  clear hs9 hc9 HPH9 HI8
  have HP10 := sans_lit HI9.out.slots (ok_oL (by show (0 : Int) ≤ 2; omega) (by show (2 : Int) ≤ 4; omega) (fun h => by cases h)) (off_n N) (fun b hb => Nat.le_trans HI9.out.size hb) 0 (HI9.out.an.mono (fun b hb => by have := HI9.out.low; have hb' : b < w.heap.size := hb; show b ≠ N; omega)) HSAA.out
  unfold AnsO at HP10
  rw [(once_facts r a).2.2.2.2.2.2.1, (once_facts r a).2.2.2.2.2.2.2.1, errV_zero] at HP10
  have HPH10 := Lib.hid HP10
  obtain ⟨c0, c1, c2, c3, c4⟩ := HI9.out.ans.cells
  clear HP10
  go_wp2_with fail
  refine HPH10.out.mono ?_
  rintro e w10 ⟨rfl, hs10, hc10⟩
  have HI10 := Lib.hid (HI9.out.step HRO.out hs10 hc10)
  clear hs10 hc10 HPH10 HI9 c0 c1 c2 c3 c4
  have HP11 := take_lit HI10.out.slots (ok_oL (by show (0 : Int) ≤ 3; omega) (by show (3 : Int) ≤ 4; omega) (fun h => by cases h)) (off_n N) 0 c q
  rw [(once_other r a HO.out).1, (once_other r a HO.out).2.1, (once_other r a HO.out).2.2, errV3] at HP11
  have HPH11 := Lib.hid HP11
  obtain ⟨b0, b1, -⟩ := HI10.out.req.cells
  clear HP11
  go_wp2_with fail
  refine HPH11.out.mono ?_
  rintro e w11' ⟨g11, rfl, ho11, hs11, hc11⟩
  have HI11' := Lib.hid (HI10.out.step HRO.out hs11 hc11)
  have HX11 := Lib.hid (HI11'.out.boxed HRO.out g11 an0)
  clear ho11 hs11 hc11 HPH11 HI10 b0 b1
  go_upto_region 19 with fail
  obtain ⟨w11, hw11, hi11, hx11, hbx11⟩ := HX11.out
  rw [← hw11]
  have HI11 := Lib.hid hi11
  clear hw11 hi11 hx11 hbx11 HX11 HI11'
  have HP12 := take_lit HI11.out.slots (ok_oL (by show (0 : Int) ≤ 3; omega) (by show (3 : Int) ≤ 4; omega) (fun h => by cases h)) (off_n N) 0 r.cl r.sq
  rw [(once_facts r a).2.2.2.2.2.2.2.2.2.1, (once_facts r a).2.2.2.2.2.2.2.2.1, (once_facts r a).2.2.2.2.2.2.2.2.2.2, errV_zero] at HP12
  have HPH12 := Lib.hid HP12
  obtain ⟨b0, b1, -⟩ := HI11.out.req.cells
  clear HP12
  go_wp2_with fail
  refine HPH12.out.mono ?_
  rintro e w12' ⟨g12, rfl, ho12, hs12, hc12⟩
  have HI12' := Lib.hid (HI11.out.step HRO.out hs12 hc12)
  have HX12 := Lib.hid (HI12'.out.boxed HRO.out g12 a)
  have HON12 := Lib.hid ho12
  have hsz12 : N + 1 + 1 ≤ w12'.heap.size := HI12'.out.size
  clear ho12 hs12 hc12 HPH12 HI11 b0 b1
  go_upto_region 22 with fail
  obtain ⟨w12, hw12, hi12, hx12, hbx12⟩ := HX12.out
  rw [← hw12]
  have HI12 := Lib.hid hi12
  have HZ12 := Lib.hid hx12
  have HOA := Lib.hid (HON12.out.keep (below_all hbx12))
  clear hw12 hi12 hx12 hbx12 HX12 HI12' HON12
  have HP13 := take_lit HI12.out.slots (ok_new 4) (off_n N) 0 r.cl r.sq
  rw [(once_none r.cl r.sq).1, (once_none r.cl r.sq).2.1, (once_none r.cl r.sq).2.2, errV3] at HP13
  have HPH13 := Lib.hid HP13
  obtain ⟨b0, b1, -⟩ := HI12.out.req.cells
  clear HP13
  go_wp2_with fail
  refine HPH13.out.mono ?_
  rintro e w13' ⟨g13, rfl, ho13, hs13, hc13⟩
  have HI13' := Lib.hid (HI12.out.step HRO.out hs13 hc13)
  have HX13 := Lib.hid (HI13'.out.boxed HRO.out g13 an0)
  have HZ13 := Lib.hid (show BoxA w13' w12'.heap.size g12 a from (hc13.block _ HZ12.out.lt (by omega)).trans HZ12.out)
  have HOB := Lib.hid ((HOA.out.keep (hc13.agree (off_n N))).here)
  clear ho13 hs13 hc13 HPH13 HI12 b0 b1
  go_upto_region 23 with fail
  obtain ⟨w13, hw13, hi13, hx13, hbx13⟩ := HX13.out
  rw [← hw13]
  have HI13 := Lib.hid hi13
  have HZZ := Lib.hid (HZ13.out.below hbx13 HZ13.out.lt)
  have HS := Lib.hid (samea_any (HI13.out.an.here) (HOB.out.below hbx13))
  clear hw13 hi13 hx13 hbx13 HX13 HI13' HZ12 HOA HZ13 HOB
  obtain ⟨c0, c1, c2, c3, c4⟩ := HI13.out.ans.cells
  obtain ⟨x0, x1, x2, x3, x4⟩ := HZZ.out.cells
  go_wp2_with fail
  refine HS.out.mono ?_
  rintro e w14 ⟨rfl, hb14⟩
  have HB14 := Lib.hid (HI13.out.below.trans (hb14.mono HI13.out.below.size))
  have HST := state_any (HI13.out.slots.below hb14) 0
  rw [oL_st] at HST
  have HST := Lib.hid (show Calls Try.prog 22 #[.pointer (some ⟨N + 1, 0, none⟩), .int .i64 0] w14 fun e w' => e = .returned (.int .i64 0) ∧ w14 = w' from HST)
  clear c0 c1 c2 c3 c4 x0 x1 x2 x3 x4 hb14 HS HZZ HI13
  go_wp2_with fail
  refine HST.out.mono ?_
  rintro e w15 ⟨rfl, rfl⟩
  go_wp2
  go_ret
  exact ⟨rfl, HB14.out⟩

set_option maxHeartbeats 8000000 in
theorem once_number {w : World} {h : Qh} {r : Rq} {k : Sh} {a : An} (hr : RqR w h r) (ha : AnR w k a) (c q : Int) (hsr : smallQ r = true) (hsa : smallA a = true) (hm : mayQ r = true) (hc : c = r.cl) (hq : q ≠ r.sq) :
    Calls Try.prog 4 #[rqV h r, anV k a, .int .i64 c, .int .i64 q] w fun e w' => e = .returned (.bool true) ∧ Below w.heap.size w w' := by
  obtain ⟨W, hW, hWB, hWQ, hWA, hWs⟩ := box_ra w h r k a
  have HUP := Lib.hid (up_any W)
  have HQ := Lib.hid hWQ
  have HA := Lib.hid hWA
  have HB := Lib.hid hWB
  have hWe := Lib.hid hW
  have HR := Lib.hid hr
  have HRO := Lib.hid (rq_old hr)
  have HAR := Lib.hid ha
  have HAO := Lib.hid (an_old ha)
  have HW := Lib.hid hWs
  have HSR := Lib.hid hsr
  have HSAA := Lib.hid (smallA_sm hsa)
  have HSAB := Lib.hid hsa
  have HMM := Lib.hid hm
  clear hr ha hW hWB hWQ hWA hWs hsr hsa hm
  have ee := neq_err
  have eq := eql_err
  unfold rqV anV
  go_enter Try.func4, Try.ntmps4
  go_wp2_with fail
  rw [← hWe.out]
  refine HUP.out.mono ?_
  rintro e w1 ⟨rfl, hb1⟩
  have HB1 := Lib.hid (HB.out.trans (hb1.mono HB.out.size))
  have HQ1 := Lib.hid (HQ.out.below hb1 (by have := HW.out; omega))
  have HA1 := Lib.hid (HA.out.below hb1 (by have := HW.out; omega))
  have HN := Lib.hid (new_four w1)
  clear hb1 HUP HQ HA HB hWe
  go_wp2_with fail
  refine HN.out.mono ?_
  rintro e w2 ⟨rfl, hs2, hb2⟩
  have HI2 := Lib.hid (show OnceI w h r k a w1.heap.size (oL sl0) w2 from ⟨hs2, HQ1.out.below hb2 HQ1.out.lt, HA1.out.below hb2 HA1.out.lt, HR.out.below (HB1.out.trans (hb2.mono HB1.out.size)), HAO.out.keep (below_agree (HB1.out.trans (hb2.mono HB1.out.size)) fun b hb _ => hb), HB1.out.trans (hb2.mono HB1.out.size), by have := HA1.out.lt; omega, by have := hs2.lt; omega⟩)
  have HSM := smallq_lit HI2.out.rq
  rw [HSR.out] at HSM
  have HSM := Lib.hid HSM
  obtain ⟨b0, b1, b2, b3, b4, b5, b6, b7⟩ := HI2.out.req.cells
  generalize w1.heap.size = N at HI2 ⊢
  clear hs2 hb2 HN HB1 HQ1 HA1
  go_wp2_with fail
  refine HSM.out.mono ?_
  rintro e w3 ⟨rfl, hb3⟩
  have HI3 := Lib.hid (HI2.out.more HRO.out hb3)
  have HSA := lsmall_any (HAR.out.below HI3.out.below)
  rw [HSAB.out] at HSA
  have HSA := Lib.hid HSA
  obtain ⟨c0, c1, c2, c3, c4⟩ := HI3.out.ans.cells
  clear b0 b1 b2 b3 b4 b5 b6 b7 hb3 HSM HI2
  go_wp2_with fail
  refine HSA.out.mono ?_
  rintro e w4 ⟨rfl, hb4⟩
  have HI4 := Lib.hid (HI3.out.more HRO.out hb4)
  clear c0 c1 c2 c3 c4 hb4 HSA HI3
  subst hc
  have HO := Lib.hid (show r.cl ≠ r.cl ∨ q ≠ r.sq from .inr hq)
  have e1 : (r.cl != r.cl) = false := by simp
  have e2 : (q != r.sq) = true := by simpa using hq
  clear hq
  have HP5 := spost_lit HI4.out.slots (off_n N) (fun b hb => Nat.le_trans HI4.out.size hb) HI4.out.rq HSR.out
  unfold PostO at HP5
  rw [o_postL HMM.out, o_postK HMM.out, o_postI HMM.out, errV_zero] at HP5
  have HPH5 := Lib.hid HP5
  obtain ⟨b0, b1, b2, b3, b4, b5, b6, b7⟩ := HI4.out.req.cells
  clear HP5
  go_wp2_with fail
  refine HPH5.out.mono ?_
  rintro e w5 ⟨rfl, hs5, hc5⟩
  have HI5 := Lib.hid (HI4.out.step HRO.out hs5 hc5)
  clear hs5 hc5 HPH5 HI4 b0 b1 b2 b3 b4 b5 b6 b7
  have HP6 := spost_lit HI5.out.slots (off_n N) (fun b hb => Nat.le_trans HI5.out.size hb) HI5.out.rq HSR.out
  unfold PostO at HP6
  rw [(o_twice HMM.out).1, (o_twice HMM.out).2.1, (o_twice HMM.out).2.2, errV4] at HP6
  have HPH6 := Lib.hid HP6
  obtain ⟨b0, b1, b2, b3, b4, b5, b6, b7⟩ := HI5.out.req.cells
  clear HP6
  go_wp2_with fail
  refine HPH6.out.mono ?_
  rintro e w6 ⟨rfl, hs6, hc6⟩
  have HI6 := Lib.hid (HI5.out.step HRO.out hs6 hc6)
  clear hs6 hc6 HPH6 HI5 b0 b1 b2 b3 b4 b5 b6 b7
  have HP7 := take_lit HI6.out.slots (ok_oL (by show (0 : Int) ≤ 1; omega) (by show (1 : Int) ≤ 4; omega) (fun h => by cases h)) (off_n N) 0 r.cl r.sq
  rw [once_takeA1, (once_facts r a).1, (once_facts r a).2.1, errV10] at HP7
  have HPH7 := Lib.hid HP7
  obtain ⟨b0, b1, -⟩ := HI6.out.req.cells
  clear HP7
  go_wp2_with fail
  refine HPH7.out.mono ?_
  rintro e w7' ⟨g7, rfl, ho7, hs7, hc7⟩
  have HI7' := Lib.hid (HI6.out.step HRO.out hs7 hc7)
  have HX7 := Lib.hid (HI7'.out.boxed HRO.out g7 an0)
  clear ho7 hs7 hc7 HPH7 HI6 b0 b1
  go_upto_region 12 with fail
  obtain ⟨w7, hw7, hi7, hx7, hbx7⟩ := HX7.out
  rw [← hw7]
  have HI7 := Lib.hid hi7
  clear hw7 hi7 hx7 hbx7 HX7 HI7'
  have HP8 := sans_lit HI7.out.slots (ok_oL (by show (0 : Int) ≤ 1; omega) (by show (1 : Int) ≤ 4; omega) (fun h => by cases h)) (off_n N) (fun b hb => Nat.le_trans HI7.out.size hb) 0 (HI7.out.an.mono (fun b hb => by have := HI7.out.low; have hb' : b < w.heap.size := hb; show b ≠ N; omega)) HSAA.out
  unfold AnsO at HP8
  rw [(once_facts r a).2.2.1, (once_facts r a).2.2.2.1, errV10] at HP8
  have HPH8 := Lib.hid HP8
  obtain ⟨c0, c1, c2, c3, c4⟩ := HI7.out.ans.cells
  clear HP8
  go_wp2_with fail
  refine HPH8.out.mono ?_
  rintro e w8 ⟨rfl, hs8, hc8⟩
  have HI8 := Lib.hid (HI7.out.step HRO.out hs8 hc8)
  clear hs8 hc8 HPH8 HI7 c0 c1 c2 c3 c4
  have HP9 := claim_any HI8.out.slots (ok_oL (by show (0 : Int) ≤ 1; omega) (by show (1 : Int) ≤ 4; omega) (fun h => by cases h)) (off_n N) 0
  unfold TurnO at HP9
  rw [(once_facts r a).2.2.2.2.1, (once_facts r a).2.2.2.2.2.1, errV_zero] at HP9
  have HPH9 := Lib.hid HP9
  clear HP9
  go_wp2_with fail
  refine HPH9.out.mono ?_
  rintro e w9 ⟨rfl, hs9, hc9⟩
  have HI9 := Lib.hid (HI8.out.step HRO.out hs9 hc9)
  clear hs9 hc9 HPH9 HI8
  have HP10 := sans_lit HI9.out.slots (ok_oL (by show (0 : Int) ≤ 2; omega) (by show (2 : Int) ≤ 4; omega) (fun h => by cases h)) (off_n N) (fun b hb => Nat.le_trans HI9.out.size hb) 0 (HI9.out.an.mono (fun b hb => by have := HI9.out.low; have hb' : b < w.heap.size := hb; show b ≠ N; omega)) HSAA.out
  unfold AnsO at HP10
  rw [(once_facts r a).2.2.2.2.2.2.1, (once_facts r a).2.2.2.2.2.2.2.1, errV_zero] at HP10
  have HPH10 := Lib.hid HP10
  obtain ⟨c0, c1, c2, c3, c4⟩ := HI9.out.ans.cells
  clear HP10
  go_wp2_with fail
  refine HPH10.out.mono ?_
  rintro e w10 ⟨rfl, hs10, hc10⟩
  have HI10 := Lib.hid (HI9.out.step HRO.out hs10 hc10)
  clear hs10 hc10 HPH10 HI9 c0 c1 c2 c3 c4
  have HP11 := take_lit HI10.out.slots (ok_oL (by show (0 : Int) ≤ 3; omega) (by show (3 : Int) ≤ 4; omega) (fun h => by cases h)) (off_n N) 0 r.cl q
  rw [(once_other r a HO.out).1, (once_other r a HO.out).2.1, (once_other r a HO.out).2.2, errV3] at HP11
  have HPH11 := Lib.hid HP11
  obtain ⟨b0, b1, -⟩ := HI10.out.req.cells
  clear HP11
  go_wp2_with fail
  refine HPH11.out.mono ?_
  rintro e w11' ⟨g11, rfl, ho11, hs11, hc11⟩
  have HI11' := Lib.hid (HI10.out.step HRO.out hs11 hc11)
  have HX11 := Lib.hid (HI11'.out.boxed HRO.out g11 an0)
  clear ho11 hs11 hc11 HPH11 HI10 b0 b1
  go_upto_region 19 with fail
  obtain ⟨w11, hw11, hi11, hx11, hbx11⟩ := HX11.out
  rw [← hw11]
  have HI11 := Lib.hid hi11
  clear hw11 hi11 hx11 hbx11 HX11 HI11'
  have HP12 := take_lit HI11.out.slots (ok_oL (by show (0 : Int) ≤ 3; omega) (by show (3 : Int) ≤ 4; omega) (fun h => by cases h)) (off_n N) 0 r.cl r.sq
  rw [(once_facts r a).2.2.2.2.2.2.2.2.2.1, (once_facts r a).2.2.2.2.2.2.2.2.1, (once_facts r a).2.2.2.2.2.2.2.2.2.2, errV_zero] at HP12
  have HPH12 := Lib.hid HP12
  obtain ⟨b0, b1, -⟩ := HI11.out.req.cells
  clear HP12
  go_wp2_with fail
  refine HPH12.out.mono ?_
  rintro e w12' ⟨g12, rfl, ho12, hs12, hc12⟩
  have HI12' := Lib.hid (HI11.out.step HRO.out hs12 hc12)
  have HX12 := Lib.hid (HI12'.out.boxed HRO.out g12 a)
  have HON12 := Lib.hid ho12
  have hsz12 : N + 1 + 1 ≤ w12'.heap.size := HI12'.out.size
  clear ho12 hs12 hc12 HPH12 HI11 b0 b1
  go_upto_region 22 with fail
  obtain ⟨w12, hw12, hi12, hx12, hbx12⟩ := HX12.out
  rw [← hw12]
  have HI12 := Lib.hid hi12
  have HZ12 := Lib.hid hx12
  have HOA := Lib.hid (HON12.out.keep (below_all hbx12))
  clear hw12 hi12 hx12 hbx12 HX12 HI12' HON12
  have HP13 := take_lit HI12.out.slots (ok_new 4) (off_n N) 0 r.cl r.sq
  rw [(once_none r.cl r.sq).1, (once_none r.cl r.sq).2.1, (once_none r.cl r.sq).2.2, errV3] at HP13
  have HPH13 := Lib.hid HP13
  obtain ⟨b0, b1, -⟩ := HI12.out.req.cells
  clear HP13
  go_wp2_with fail
  refine HPH13.out.mono ?_
  rintro e w13' ⟨g13, rfl, ho13, hs13, hc13⟩
  have HI13' := Lib.hid (HI12.out.step HRO.out hs13 hc13)
  have HX13 := Lib.hid (HI13'.out.boxed HRO.out g13 an0)
  have HZ13 := Lib.hid (show BoxA w13' w12'.heap.size g12 a from (hc13.block _ HZ12.out.lt (by omega)).trans HZ12.out)
  have HOB := Lib.hid ((HOA.out.keep (hc13.agree (off_n N))).here)
  clear ho13 hs13 hc13 HPH13 HI12 b0 b1
  go_upto_region 23 with fail
  obtain ⟨w13, hw13, hi13, hx13, hbx13⟩ := HX13.out
  rw [← hw13]
  have HI13 := Lib.hid hi13
  have HZZ := Lib.hid (HZ13.out.below hbx13 HZ13.out.lt)
  have HS := Lib.hid (samea_any (HI13.out.an.here) (HOB.out.below hbx13))
  clear hw13 hi13 hx13 hbx13 HX13 HI13' HZ12 HOA HZ13 HOB
  obtain ⟨c0, c1, c2, c3, c4⟩ := HI13.out.ans.cells
  obtain ⟨x0, x1, x2, x3, x4⟩ := HZZ.out.cells
  go_wp2_with fail
  refine HS.out.mono ?_
  rintro e w14 ⟨rfl, hb14⟩
  have HB14 := Lib.hid (HI13.out.below.trans (hb14.mono HI13.out.below.size))
  have HST := state_any (HI13.out.slots.below hb14) 0
  rw [oL_st] at HST
  have HST := Lib.hid (show Calls Try.prog 22 #[.pointer (some ⟨N + 1, 0, none⟩), .int .i64 0] w14 fun e w' => e = .returned (.int .i64 0) ∧ w14 = w' from HST)
  clear c0 c1 c2 c3 c4 x0 x1 x2 x3 x4 hb14 HS HZZ HI13
  go_wp2_with fail
  refine HST.out.mono ?_
  rintro e w15 ⟨rfl, rfl⟩
  go_wp2
  go_ret
  exact ⟨rfl, HB14.out⟩


theorem slot_once_any {w : World} {h : Qh} {r : Rq} {k : Sh} {a : An} (hr : RqR w h r) (ha : AnR w k a) (c q : Int) :
    Calls Try.prog 4 #[rqV h r, anV k a, .int .i64 c, .int .i64 q] w fun e w' => e = .returned (.bool true) ∧ Below w.heap.size w w' := by
  cases hs : smallQ r
  · exact once_let hr ha c q (by rw [hs]; rfl)
  cases ha2 : smallA a
  · exact once_let hr ha c q (by rw [ha2]; simp)
  cases hm : mayQ r
  · exact once_no hr ha c q hs ha2 hm
  by_cases hc : c = r.cl
  · by_cases hq : q = r.sq
    · exact once_same hr ha c q hs ha2 hm hc hq
    · exact once_number hr ha c q hs ha2 hm hc hq
  · exact once_client hr ha c q hs ha2 hm hc
end Go.Proofs.Ytojofhmhmcchnaa
