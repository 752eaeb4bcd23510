/- Contracts of package omap's May, found, put, swap. Condition: what came in can be read; requests' slices of at most 100 bytes; a row. -/
import Derived.Test.YthcchaglloggjaaWc
namespace Go.Proofs.Ythcchaglloggjaa
open Go.RowKit
set_option linter.unusedVariables false
set_option maxRecDepth 100000

theorem small_lens {r : Rq} (h : smallQ r = true) : r.key.length ≤ 100 ∧ r.val.length ≤ 100 ∧ r.old.length ≤ 100 ∧ r.to_.length ≤ 100 := by
  unfold smallQ at h
  simpa using h

set_option maxHeartbeats 4000000 in
theorem omay_any {w : World} {h : Qh} {r : Rq} (hr : RqR w h r) (hs : smallQ r = true) : Calls Try.prog 48 #[rqV h r] w fun e w' => e = .returned (.bool (mayQ r)) ∧ Below w.heap.size w w' := by
  obtain ⟨l1, l2, l3, l4⟩ := small_lens hs
  obtain ⟨W, hW, hWB, hWQ, hWs⟩ := box_q w h r
  have hmax : 100 ≤ maxLen := by unfold maxLen; omega
  have HSP := Lib.hid (qspan_any W h r)
  have HSO := Lib.hid (fun (w1 : World) (hb : Below W.heap.size W w1) => ksound_any (w := w1) h.c h.s ((hr.1.below hWB).below hb) ((hr.2.2.2.below hWB).below hb) (by rw [← hr.1.1]; omega) (by rw [← hr.2.2.2.1]; omega))
  have HFV := Lib.hid (kfair_any (w := W) h.d (hr.2.1.below hWB))
  have HFO := Lib.hid (kfair_any (w := W) h.p (hr.2.2.1.below hWB))
  have HKM := Lib.hid (may_any (w := W) h.c (hr.1.below hWB))
  have HR := Lib.hid (show mayQ r = ((decide (0 ≤ r.cl) && (decide (0 ≤ r.sq) && (decide (r.val.length ≤ 32) && decide (r.old.length ≤ 32)))) && (if r.kind = 6 then soundB r.key r.to_ && (decide (1 ≤ r.limit) && decide (r.limit ≤ 100)) else decide (1 ≤ r.kind) && (decide (r.kind ≤ 6) && mayB r.key))) from rfl)
  generalize mayQ r = res at HR ⊢
  have hwl : w.heap.size < W.heap.size := by omega
  have HQ := Lib.hid hWQ
  have HB := Lib.hid hWB
  have hWe := Lib.hid hW
  clear hW hWB hWQ hWs hr hs l1 l2 l3 l4 hmax
  obtain ⟨cl, sq, kind, key, val, old, to_, limit⟩ := r
  obtain ⟨A, n, c, B, m, d, C, o, p, D, q, s⟩ := h
  unfold rqV
  dsimp only at *
  generalize decide (val.length ≤ 32) = fv at HFV HR
  generalize decide (old.length ≤ 32) = fo at HFO HR
  generalize mayB key = km at HKM HR
  generalize soundB key to_ = ks at HSO HR
  by_cases hcl : cl < 0
  · have HN := Lib.hid (show res = false by rw [HR.out, show decide (0 ≤ cl) = false by simp; omega]; rfl)
    clear HFV HFO HKM HSO HSP HQ hWe HB HR
    go_enter Try.func48, Try.ntmps48
    go_wp2
    go_ret
    exact ⟨ret_bool HN.out.symm, (Below.refl _ _).alloc (Nat.le_refl _) _⟩
  by_cases hsq : sq < 0
  · have HN := Lib.hid (show res = false by rw [HR.out, show decide (0 ≤ sq) = false by simp; omega]; simp)
    clear HFV HFO HKM HSO HSP HQ hWe HB HR
    go_enter Try.func48, Try.ntmps48
    go_wp2
    go_ret
    exact ⟨ret_bool HN.out.symm, (Below.refl _ _).alloc (Nat.le_refl _) _⟩
  cases fv
  · have HN := Lib.hid (show res = false by rw [HR.out]; simp)
    clear HFO HKM HSO HSP HQ HR
    go_enter Try.func48, Try.ntmps48
    go_wp2_with fail
    rw [← hWe.out]
    refine HFV.out.mono ?_
    rintro e w' ⟨rfl, rfl⟩
    go_wp2
    go_ret
    exact ⟨ret_bool HN.out.symm, HB.out⟩
  cases fo
  · have HN := Lib.hid (show res = false by rw [HR.out]; simp)
    obtain ⟨c0, c1, c2, c3, c4, c5, c6, c7⟩ := HQ.out.cells
    clear HKM HSO HSP HQ HR c0 c1 c2 c3 c4 c6 c7
    go_enter Try.func48, Try.ntmps48
    go_wp2_with fail
    rw [← hWe.out]
    refine HFV.out.mono ?_
    rintro e w' ⟨rfl, rfl⟩
    go_wp2_with fail
    refine HFO.out.mono ?_
    rintro e w' ⟨rfl, rfl⟩
    go_wp2
    go_ret
    exact ⟨ret_bool HN.out.symm, HB.out⟩
  have HR1 := Lib.hid (show res = (if kind = 6 then ks && (decide (1 ≤ limit) && decide (limit ≤ 100)) else decide (1 ≤ kind) && (decide (kind ≤ 6) && km)) by
    rw [HR.out, show decide (0 ≤ cl) = true by simp; omega, show decide (0 ≤ sq) = true by simp; omega]
    rfl)
  clear HR
  obtain ⟨c0, c1, c2, c3, c4, c5, c6, c7⟩ := HQ.out.cells
  have HC7 := Lib.hid c7
  clear c0 c1 c4 c7
  by_cases h6 : kind = 6
  · subst h6
    have HR := Lib.hid (show res = (ks && (decide (1 ≤ limit) && decide (limit ≤ 100))) by rw [HR1.out]; rfl)
    obtain ⟨c0, c1, c2, c3, c4, c5, c6, c7⟩ := HQ.out.cells
    clear HR1 HKM
    go_enter Try.func48, Try.ntmps48
    go_wp2_with fail
    rw [← hWe.out]
    refine HFV.out.mono ?_
    rintro e w' ⟨rfl, rfl⟩
    go_wp2_with fail
    refine HFO.out.mono ?_
    rintro e w' ⟨rfl, rfl⟩
    go_wp2_with fail
    refine HSP.out.mono ?_
    rintro e w1 ⟨rfl, hb1⟩
    have HB1 := Lib.hid hb1
    clear hb1 c0 c1 c2 c3 c4 c5 c6 c7
    go_wp2_with fail
    refine (HSO.out w1 HB1.out).mono ?_
    rintro e w2 ⟨rfl, hb2⟩
    have HB2 := Lib.hid (HB1.out.trans (hb2.mono HB1.out.size))
    have c7 := (HB2.out.cell (p := ⟨w.heap.size, 7, none⟩) hwl).trans HC7.out
    clear hb2
    cases ks
    · go_wp2
      go_ret
      exact ⟨ret_bool HR.out.symm, HB.out.trans (HB2.out.mono HB.out.size)⟩
    · by_cases g1 : 1 ≤ limit
      · by_cases g2 : limit ≤ 100
        all_goals
          go_wp2
          go_ret
          refine ⟨ret_bool ?_, HB.out.trans (HB2.out.mono HB.out.size)⟩
          rw [HR.out, Bool.eq_iff_iff]
          first | (simp; done) | (simp; omega)
      · go_wp2
        go_ret
        refine ⟨ret_bool ?_, HB.out.trans (HB2.out.mono HB.out.size)⟩
        rw [HR.out, Bool.eq_iff_iff]
        first | (simp; done) | (simp; omega)
  have h15 : (kind = 1 ∨ kind = 2 ∨ kind = 3 ∨ kind = 4 ∨ kind = 5) ∨ (kind < 1 ∨ 6 < kind) := by omega
  rcases h15 with h15 | h15
  · have HR := Lib.hid (show res = km by
      rw [HR1.out, if_neg h6, show decide (1 ≤ kind) = true by simp; omega, show decide (kind ≤ 6) = true by simp; omega]
      rfl)
    clear HR1 HSO HSP h6
    rcases h15 with rfl | rfl | rfl | rfl | rfl
    all_goals
      go_enter Try.func48, Try.ntmps48
      go_wp2_with fail
      rw [← hWe.out]
      refine HFV.out.mono ?_
      rintro e w' ⟨rfl, rfl⟩
      go_wp2_with fail
      refine HFO.out.mono ?_
      rintro e w' ⟨rfl, rfl⟩
      go_wp2_with fail
      refine HKM.out.mono ?_
      rintro e w' ⟨rfl, rfl⟩
      go_wp2
      go_ret
      exact ⟨ret_bool HR.out.symm, HB.out⟩
  · have HR := Lib.hid (show res = false by
      rw [HR1.out, if_neg h6]
      rcases h15 with h | h
      · rw [show decide (1 ≤ kind) = false by simp; omega]
        rfl
      · rw [show decide (kind ≤ 6) = false by simp; omega]
        simp)
    have k1 : (kind == 1) = false := by simp; omega
    have k2 : (kind == 2) = false := by simp; omega
    have k3 : (kind == 3) = false := by simp; omega
    have k4 : (kind == 4) = false := by simp; omega
    have k5 : (kind == 5) = false := by simp; omega
    have k6 : (kind == 6) = false := by simp; omega
    clear HR1 HSO HSP h6 h15 HKM
    go_enter Try.func48, Try.ntmps48
    go_wp2_with fail
    rw [← hWe.out]
    refine HFV.out.mono ?_
    rintro e w' ⟨rfl, rfl⟩
    go_wp2_with fail
    refine HFO.out.mono ?_
    rintro e w' ⟨rfl, rfl⟩
    go_wp2
    go_ret
    exact ⟨ret_bool HR.out.symm, HB.out⟩
end Go.Proofs.Ythcchaglloggjaa
