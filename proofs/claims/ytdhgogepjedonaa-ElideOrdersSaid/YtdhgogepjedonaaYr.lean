/- The contract of package elide's Run where it fits. Condition: no more than 300 requests, whose slices have at most 100 bytes; what came in can be read. -/
import Derived.Test.YtdhgogepjedonaaYq
namespace Go.Proofs.Ytdhgogepjedonaa
open Go.RowKit
set_option linter.unusedVariables false
set_option maxRecDepth 100000

/-- What is read in cells of another kind lies in no result's block. -/
theorem byt_offn {w : World} {cb : Nat} (h : BoxN w cb) {A : Option Addr} {n : Nat} {l : Ky} (hy : Byt w A n l) : On (· ≠ cb) w (Byt · A n l) :=
  byt_on hy fun a h0 e hcb => by
    obtain ⟨a', e', hl, hj⟩ := hy.2 h0
    rw [e] at e'
    injection e' with e'
    subst e'
    have h1 := hj 0 (by rw [hy.1]; exact h0)
    unfold BoxN at h
    have hs := World.cell?_spot h1
    have hb : (a.add 0).block = cb := by rw [add_block]; exact hcb
    generalize a.add 0 = z at h1 hs hb
    obtain ⟨zb, zo, zs⟩ := z
    simp at hs hb
    subst hs
    subst hb
    simp only [World.cell?, h] at h1
    rcases zo with _ | _ | _ | _ | zo <;> simp at h1
theorem prs_offn {w : World} {cb : Nat} (h : BoxN w cb) {A : Option Addr} {n c : Nat} {L : List Pr} (hp : Prs w A n c L) : On (· ≠ cb) w (Prs · A n c L) := fun V ha => by
  obtain ⟨h1, h2, h3, h4, h5⟩ := hp
  refine ⟨h1, h2, h3, h4, fun h0 => ?_⟩
  obtain ⟨b, o, e, hb, hj⟩ := h5 h0
  have hne : b ≠ cb := fun hcb => by
    obtain ⟨A1, n1, c1, B1, m1, d1, e0, e1, -⟩ := hj 0 h0
    unfold BoxN at h
    subst hcb
    simp only [World.cell?, h] at e0 e1
    generalize o + 0 * 2 = oo at e0 e1
    rcases oo with _ | _ | _ | _ | oo <;> simp at e0 e1
  refine ⟨b, o, e, by have := ha.1; omega, fun j hjn => ?_⟩
  obtain ⟨A1, n1, c1, B1, m1, d1, e0, e1, y1, y2⟩ := hj j hjn
  have hbl := ha.2 b hne hb
  exact ⟨A1, n1, c1, B1, m1, d1, (World.cell?_of_block (a := ⟨b, o + j * 2, none⟩) hbl).trans e0, (World.cell?_of_block (a := ⟨b, o + j * 2 + 1, none⟩) hbl).trans e1, byt_offn h y1 V ha, byt_offn h y2 V ha⟩
theorem ress_offn {w : World} {cb : Nat} (h : BoxN w cb) {A : Option Addr} {n : Nat} {R : List Rs} (hp : Ress w A n R) : On (· ≠ cb) w (Ress · A n R) := fun V ha => by
  obtain ⟨h1, h2, h5⟩ := hp
  refine ⟨h1, h2, fun h0 => ?_⟩
  obtain ⟨b, o, e, hb, hj⟩ := h5 h0
  have hne : b ≠ cb := fun hcb => by
    obtain ⟨hh, e0, -⟩ := hj 0 h0
    unfold BoxN at h
    subst hcb
    simp only [World.cell?, h] at e0
    generalize o + 0 * 5 = oo at e0
    rcases oo with _ | _ | _ | _ | oo <;> simp at e0
  refine ⟨b, o, e, by have := ha.1; omega, fun j hjn => ?_⟩
  obtain ⟨hh, k0, k1, k2, k3, k4, hr⟩ := hj j hjn
  have hbl := ha.2 b hne hb
  exact ⟨hh, (World.cell?_of_block (a := ⟨b, o + j * 5, none⟩) hbl).trans k0, (World.cell?_of_block (a := ⟨b, o + j * 5 + 1, none⟩) hbl).trans k1, (World.cell?_of_block (a := ⟨b, o + j * 5 + 2, none⟩) hbl).trans k2,
    (World.cell?_of_block (a := ⟨b, o + j * 5 + 3, none⟩) hbl).trans k3, (World.cell?_of_block (a := ⟨b, o + j * 5 + 4, none⟩) hbl).trans k4, byt_offn h hr.1 V ha, prs_offn h hr.2 V ha⟩

set_option maxHeartbeats 8000000 in
theorem run_yes_no {w : World} {V A : Option Addr} {nv cv n c : Nat} {room : Bool} {val : Ky} {M : List Rq} (hv : Byt w V nv val) (h : Reqs w A n M) (hs : ∀ j, j < n → smallQ (gq M j) = true) (hn : n ≤ 300) (hf : fitR false val M n = true) :
    Calls Try.prog 12 #[.bool false, .slice V nv cv, .bool room, .slice A n c] w (RunO w false val room M n) := by
  obtain ⟨W, hW, hWB, hWN, hWs⟩ := box_n w
  have HG := Lib.hid (isgroup_any c (h.below hWB) hs (by omega))
  have HWN := Lib.hid hWN
  have HB := Lib.hid hWB
  have hWe := Lib.hid hW
  have hwl : w.heap.size < W.heap.size := by omega
  have HFR := Lib.hid (fitr (room := room) hf)
  have HV := Lib.hid hv
  have hg : isGrp M n = true := by
    unfold fitR at hf
    simpa using hf
  rw [hg] at HG
  have HALL := Lib.hid (fun (w1 : World) (hb : Below W.heap.size W w1) => all_any (prs_nil w1) (c := 0) c ((h.below hWB).below hb) hs (show Fit [] from HFR.out.fit) (by omega) hn (mostR false room))
  clear h hs hf hv hW hWB hWN hWs hg
  cases room
  all_goals
    go_enter Try.func12, Try.ntmps12
    go_upto_region 1 with fail
    rw [← hWe.out]
    go_wp2_with fail
    refine HG.out.mono ?_
    rintro e w1 ⟨rfl, hb1⟩
    have HB1 := Lib.hid (HB.out.trans (hb1.mono HB.out.size))
    have HWB := Lib.hid hb1
    have HA1 := Lib.hid (HALL.out w1 hb1)
    clear hb1
    go_wp2_with fail
    refine HA1.out.mono ?_
    rintro e w2 ⟨A3, n3, c3, A4, c4, rfl, hp3, hr3, hb3⟩
    have hn3 : n3 ≤ 1 := by
      rw [← hp3.len]
      exact HFR.out.top
    have HN := Lib.hid (net_any (V := V) (W0 := none) (n0 := 0) (m := n) (A2 := A4) cv 0 c3 c4 (HV.out.below (HB1.out.trans (hb3.mono HB1.out.size))) hp3 (by omega) (by omega))
    have HP3 := Lib.hid hp3
    have HR3 := Lib.hid hr3
    have HB3 := Lib.hid (HB1.out.trans (hb3.mono HB1.out.size))
    have HWB3 := Lib.hid (HWB.out.trans (hb3.mono HWB.out.size))
    clear hp3 hr3 hb3 HA1
    go_wp2_with fail
    refine HN.out.mono ?_
    rintro e w4 ⟨B5, m5, d5, rfl, hy5, hb5⟩
    have HY5 := Lib.hid hy5
    have HB5 := Lib.hid (HB3.out.trans (hb5.mono HB3.out.size))
    have HWN5 := Lib.hid (HWN.out.below (HWB3.out.trans (hb5.mono HWB3.out.size)) hwl)
    have HR5 := Lib.hid (HR3.out.below hb5)
    obtain ⟨t0, t1, t2, t3, f0, f1, f2, f3⟩ := HWN5.out.cells
    have HL := Lib.hid HP3.out.len
    clear hy5 hb5 HN
    go_wp2
    refine bodyPost_ret (v := .tuple #[.agg #[.slice A4 n c4, .bool (decide (0 < n3)), .slice B5 m5 d5, .bool (chgQ 0 _ val)], .nilIface]) (by simp [results, Try.results12, go_sem, t0, t1, t2, t3]; rfl) rfl ?_
    refine ⟨A4, c4, B5, m5, d5, ?_, ?_, ?_, ?_⟩
    · rw [← HL.out]
      rfl
    · exact ((ress_offn HWN5.out HR5.out).keep (four_agree w4 _ _ _ _)).here
    · exact ((byt_offn HWN5.out HY5.out).keep (four_agree w4 _ _ _ _)).here
    · exact four_below HB5.out (b := w.heap.size) (Nat.le_refl _) _ _ _ _

set_option maxHeartbeats 8000000 in
theorem run_yes_has {w : World} {V A : Option Addr} {nv cv n c : Nat} {room : Bool} {val : Ky} {M : List Rq} (hv : Byt w V nv val) (h : Reqs w A n M) (hs : ∀ j, j < n → smallQ (gq M j) = true) (hn : n ≤ 300) (hf : fitR true val M n = true) :
    Calls Try.prog 12 #[.bool true, .slice V nv cv, .bool room, .slice A n c] w (RunO w true val room M n) := by
  obtain ⟨W, hW, hWB, hWN, hWs⟩ := box_n w
  have HG := Lib.hid (isgroup_any c (h.below hWB) hs (by omega))
  have HWN := Lib.hid hWN
  have HB := Lib.hid hWB
  have hWe := Lib.hid hW
  have hwl : w.heap.size < W.heap.size := by omega
  have HFR := Lib.hid (fitr (room := room) hf)
  have HV := Lib.hid hv
  have H := Lib.hid h
  have HS := Lib.hid hs
  have hg : isGrp M n = true ∧ decide (val.length ≤ 32) = true := by
    unfold fitR at hf
    simpa using hf
  have hn0 : 0 < n := (isgrp_yes hg.1).1
  rw [hg.1] at HG
  have HFV := Lib.hid (fun (w1 : World) (hb : Below W.heap.size W w1) => kfair_any (w := w1) cv ((hv.below hWB).below hb))
  rw [hg.2] at HFV
  clear h hs hf hv hW hWB hWN hWs hg
  have b0 : (0 : Int) < (n : Int) := by omega
  go_enter Try.func12, Try.ntmps12
  go_upto_region 1 with fail
  rw [← hWe.out]
  go_wp2_with fail
  refine HG.out.mono ?_
  rintro e w1 ⟨rfl, hb1⟩
  have HB1 := Lib.hid (HB.out.trans (hb1.mono HB.out.size))
  have HWB := Lib.hid hb1
  have HF1 := Lib.hid (HFV.out w1 hb1)
  clear hb1
  go_wp2_with fail
  refine HF1.out.mono ?_
  rintro e w2 ⟨rfl, rfl⟩
  clear HF1
  obtain ⟨b, o, rfl, hbl, h0, -, -, -, k3, -, -, -, -, hr0⟩ := (H.out.below HB1.out).at_ hn0
  simp only [Nat.zero_mul, Nat.add_zero] at k3
  have HK := Lib.hid hr0.1
  have HL0 := Lib.hid (show rowR true (gq M 0).key val = [((gq M 0).key, val)] from rfl)
  clear hr0
  go_upto_region 6 with fail
  obtain ⟨w3, hw3⟩ : ∃ w3, w3 = w1.alloc (.cells #[.slice h0.A h0.n h0.c, .slice V nv cv] 45) := ⟨_, rfl⟩
  rw [← hw3]
  have hb3 : Below w1.heap.size w1 w3 := by rw [hw3]; exact (Below.refl _ _).alloc (Nat.le_refl _) _
  have hp3 : Prs w3 (some ⟨w1.heap.size, 0, none⟩) 1 1 [((gq M 0).key, val)] := by rw [hw3]; exact sq_one h0.c cv HK.out (HV.out.below HB1.out)
  have HP3 := Lib.hid hp3
  have HB3 := Lib.hid (HB1.out.trans (hb3.mono HB1.out.size))
  have HWB3 := Lib.hid (HWB.out.trans (hb3.mono HWB.out.size))
  have HALL := Lib.hid (all_any (c := 1) hp3 c (H.out.below HB3.out) HS.out (show Fit [((gq M 0).key, val)] from HFR.out.fit) (by omega) hn (mostR true room))
  have HM := Lib.hid (show mostR true room = 1 from rfl)
  clear hw3 hb3 hp3 k3
  go_wp2_with fail
  refine HALL.out.mono ?_
  rintro e w4 ⟨A3, n3, c3, A4, c4, rfl, hp4, hr4, hb4⟩
  have hn3 : n3 ≤ 1 := by
    rw [← hp4.len]
    exact HFR.out.top
  have HN := Lib.hid (net_any (V := V) (W0 := some ⟨w1.heap.size, 0, none⟩) (n0 := 1) (m := n) (A2 := A4) cv 1 c3 c4 (HV.out.below (HB3.out.trans (hb4.mono HB3.out.size))) hp4 (by omega) (by omega))
  have HP4 := Lib.hid hp4
  have HR4 := Lib.hid hr4
  have HB4 := Lib.hid (HB3.out.trans (hb4.mono HB3.out.size))
  have HWB4 := Lib.hid (HWB3.out.trans (hb4.mono HWB3.out.size))
  clear hp4 hr4 hb4 HALL
  go_wp2_with fail
  refine HN.out.mono ?_
  rintro e w5 ⟨B5, m5, d5, rfl, hy5, hb5⟩
  have HY5 := Lib.hid hy5
  have HB5 := Lib.hid (HB4.out.trans (hb5.mono HB4.out.size))
  have HWN5 := Lib.hid (HWN.out.below (HWB4.out.trans (hb5.mono HWB4.out.size)) hwl)
  have HR5 := Lib.hid (HR4.out.below hb5)
  obtain ⟨t0, t1, t2, t3, f0, f1, f2, f3⟩ := HWN5.out.cells
  have HL := Lib.hid HP4.out.len
  clear hy5 hb5 HN
  go_wp2
  refine bodyPost_ret (v := .tuple #[.agg #[.slice A4 n c4, .bool (decide (0 < n3)), .slice B5 m5 d5, .bool (chgQ 1 _ val)], .nilIface]) (by simp [results, Try.results12, go_sem, t0, t1, t2, t3]; rfl) rfl ?_
  refine ⟨A4, c4, B5, m5, d5, ?_, ?_, ?_, ?_⟩
  · rw [← HL.out]
    rfl
  · exact ((ress_offn HWN5.out HR5.out).keep (four_agree w5 _ _ _ _)).here
  · exact ((byt_offn HWN5.out HY5.out).keep (four_agree w5 _ _ _ _)).here
  · exact four_below HB5.out (b := w.heap.size) (Nat.le_refl _) _ _ _ _
end Go.Proofs.Ytdhgogepjedonaa
