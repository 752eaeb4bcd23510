/- Contracts of the document's own Few, May (of requests), Get and Slice: in what blocks lies what they tell. Condition: what came in can be read; requests' slices of at most 100 bytes; a row of no more than 1000 pairs. -/
import Derived.Test.YthcchaglloggjaaWo
namespace Go.Proofs.Ythcchaglloggjaa
open Go.RowKit
set_option linter.unusedVariables false
set_option maxRecDepth 100000

def fewQ (M : List Rq) (m : Nat) : Bool := M.all smallQ && decide (M.length ≤ m)
theorem fewQ_all {M : List Rq} {m : Nat} (h : fewQ M m = true) : (∀ j, j < M.length → smallQ (gq M j) = true) ∧ M.length ≤ m := by
  unfold fewQ at h
  simp only [Bool.and_eq_true, decide_eq_true_eq] at h
  exact ⟨fun j hj => by rw [gq_eq hj]; exact List.all_eq_true.1 h.1 _ (List.getElem_mem hj), h.2⟩

set_option maxHeartbeats 4000000 in
theorem fewq_any {w : World} {A : Option Addr} {n : Nat} (c m : Nat) {M : List Rq} (h : Reqs w A n M) :
    Calls Try.prog 7 #[.slice A n c, .int .i64 m] w fun e w' => e = .returned (.bool (fewQ M m)) ∧ Below w.heap.size w w' := by
  have hn := h.2.1
  unfold maxLen at hn
  have HL := Lib.hid h.1
  have H := Lib.hid h
  clear h
  go_enter Try.func7, Try.ntmps7
  go_wp2
  go_loopw [5] (fun i wr => ∃ k : Nat, k ≤ n ∧ i = .int .i64 k ∧ Hid (∀ j, j < k → smallQ (gq M j) = true) ∧ Below w.heap.size w wr) (fun i _ => n - (intOf i).toNat)
  case atStart => exact ⟨0, Nat.zero_le _, rfl, Lib.hid (fun j hj => absurd hj (by omega)), Below.refl _ _⟩
  case round =>
    obtain ⟨k, hk, rfl, HI, hb⟩ := hrel
    have HB := Lib.hid hb
    clear hb
    by_cases hlt : k < n
    · obtain ⟨b, oo, rfl, hbl, h1, x0, x1, x2, x3, x4, x5, x6, x7, hr⟩ := (H.out.below HB.out).at_ hlt
      have HSM := smallq_lit hr
      have hsn : smallQ (gq M k) = false → fewQ M m = false := fun hs => by
        unfold fewQ
        rw [List.all_eq_false.2 ⟨gq M k, by rw [gq_eq (by rw [HL.out]; exact hlt)]; exact List.getElem_mem _, by simp [hs]⟩]
        rfl
      have HSN := Lib.hid hsn
      clear hsn hr
      cases hs : smallQ (gq M k)
      · have HSZ := Lib.hid (HSN.out hs)
        rw [hs] at HSM
        clear hs
        go_wp2_with fail
        refine HSM.mono ?_
        rintro e w2 ⟨rfl, hb2⟩
        have HB2 := Lib.hid (HB.out.trans (hb2.mono HB.out.size))
        clear HSM hb2
        go_wp2
        go_ret
        exact ⟨ret_bool HSZ.out.symm, HB2.out⟩
      · have HSZ := Lib.hid hs
        rw [hs] at HSM
        clear hs
        go_wp2_with fail
        refine HSM.mono ?_
        rintro e w2 ⟨rfl, hb2⟩
        have HB2 := Lib.hid (HB.out.trans (hb2.mono HB.out.size))
        clear HSM hb2 x0 x1 x2 x3 x4 x5 x6 x7
        go_wp2
        go_roundw
        case rel => exact ⟨k + 1, by omega, by go_num, Lib.hid (fun j hj => by
          rcases Nat.lt_succ_iff_lt_or_eq.1 hj with hj | rfl
          · exact HI.out j hj
          · exact HSZ.out), HB2.out⟩
        case measure => simp [intOf]; omega
    · go_wp2
      go_ret
      refine ⟨ret_bool ?_, HB.out⟩
      have hl := HL.out
      unfold fewQ
      rw [List.all_eq_true.2 (fun r hr => by
        obtain ⟨j, hj, rfl⟩ := List.getElem_of_mem hr
        rw [← gq_eq hj]
        exact HI.out j (by omega)), hl, Bool.eq_iff_iff]
      simp

set_option maxHeartbeats 4000000 in
theorem dmay_any {w : World} {h : Qh} {r : Rq} (hr : RqR w h r) (hs : smallQ r = true) : Calls Try.prog 28 #[rqV h r] w fun e w' => e = .returned (.bool (mayQ r)) ∧ Below w.heap.size w w' := by
  obtain ⟨l1, l2, l3, l4⟩ := small_lens hs
  obtain ⟨W, hW, hWB, hWQ, hWs⟩ := box_q w h r
  have hmax : 100 ≤ maxLen := by unfold maxLen; omega
  have HSO := Lib.hid (rsound_any h.c h.s (hr.1.below hWB) (hr.2.2.2.below hWB) (by rw [← hr.1.1]; omega) (by rw [← hr.2.2.2.1]; omega))
  have HKM := Lib.hid (rmay_any (w := W) h.c (hr.1.below hWB))
  have HR := Lib.hid (show mayQ r = ((decide (0 ≤ r.cl) && (decide (0 ≤ r.sq) && (decide (r.val.length ≤ 32) && decide (r.old.length ≤ 32)))) && (if r.kind = 6 then soundB r.key r.to_ && (decide (1 ≤ r.limit) && decide (r.limit ≤ 100)) else decide (1 ≤ r.kind) && (decide (r.kind ≤ 6) && mayB r.key))) from rfl)
  rw [show r.val.length = h.m from hr.2.1.1, show r.old.length = h.o from hr.2.2.1.1] at HR
  generalize mayQ r = res at HR ⊢
  have hwl : w.heap.size < W.heap.size := by omega
  have hm100 : h.m ≤ 100 := by rw [← hr.2.1.1]; exact l2
  have ho100 : h.o ≤ 100 := by rw [← hr.2.2.1.1]; exact l3
  have HQ := Lib.hid hWQ
  have HB := Lib.hid hWB
  have hWe := Lib.hid hW
  clear hW hWB hWQ hWs hr hs l1 l2 l3 l4 hmax
  obtain ⟨cl, sq, kind, key, val, old, to_, limit⟩ := r
  obtain ⟨A, n, c, B, m, d, C, o, p, D, q, s⟩ := h
  unfold rqV
  dsimp only at *
  generalize mayB key = km at HKM HR
  generalize soundB key to_ = ks at HSO HR
  have hno : (cl < 0 ∨ (¬ cl < 0 ∧ sq < 0) ∨ (¬ cl < 0 ∧ ¬ sq < 0 ∧ 32 < m) ∨ (¬ cl < 0 ∧ ¬ sq < 0 ∧ ¬ 32 < m ∧ 32 < o) ∨ (¬ cl < 0 ∧ ¬ sq < 0 ∧ ¬ 32 < m ∧ ¬ 32 < o ∧ kind < 1) ∨ (¬ cl < 0 ∧ ¬ sq < 0 ∧ ¬ 32 < m ∧ ¬ 32 < o ∧ ¬ kind < 1 ∧ 6 < kind)) ∨
      (¬ cl < 0 ∧ ¬ sq < 0 ∧ ¬ 32 < m ∧ ¬ 32 < o ∧ ¬ kind < 1 ∧ ¬ 6 < kind) := by omega
  rcases hno with hno | ⟨g1, g2, g3, g4, g5, g6⟩
  · have HN := Lib.hid (show res = false by
      rw [HR.out]
      by_cases h6 : kind = 6
      · rw [if_pos h6, Bool.eq_false_iff]
        simp
        omega
      · rw [if_neg h6, Bool.eq_false_iff]
        simp
        omega)
    clear HKM HSO HQ hWe HB HR
    rcases hno with g | ⟨g, g'⟩ | ⟨g, g', g2⟩ | ⟨g, g', g2, g3⟩ | ⟨g, g', g2, g3, g4⟩ | ⟨g, g', g2, g3, g4, g5⟩
    all_goals
      go_enter Try.func28, Try.ntmps28
      go_wp2
      go_ret
      exact ⟨ret_bool HN.out.symm, (Below.refl _ _).alloc (Nat.le_refl _) _⟩
  · have HR1 := Lib.hid (show res = (if kind = 6 then ks && (decide (1 ≤ limit) && decide (limit ≤ 100)) else km) by
      rw [HR.out, show decide (0 ≤ cl) = true by simp; omega, show decide (0 ≤ sq) = true by simp; omega, show decide (m ≤ 32) = true by simp; omega, show decide (o ≤ 32) = true by simp; omega]
      by_cases h6 : kind = 6
      · rw [if_pos h6, if_pos h6]; rfl
      · rw [if_neg h6, if_neg h6, show decide (1 ≤ kind) = true by simp; omega, show decide (kind ≤ 6) = true by simp; omega]; rfl)
    clear HR
    obtain ⟨c0, c1, c2, c3, c4, c5, c6, c7⟩ := HQ.out.cells
    have HC7 := Lib.hid c7
    clear c0 c1 c4 c5 c7
    by_cases h6 : kind = 6
    · subst h6
      have HR := Lib.hid (show res = (ks && (decide (1 ≤ limit) && decide (limit ≤ 100))) by rw [HR1.out]; rfl)
      clear HR1 HKM
      go_enter Try.func28, Try.ntmps28
      go_wp2_with fail
      rw [← hWe.out]
      refine HSO.out.mono ?_
      rintro e w1 ⟨rfl, hb1⟩
      have HB1 := Lib.hid hb1
      have c7 := (hb1.cell (p := ⟨w.heap.size, 7, none⟩) hwl).trans HC7.out
      clear hb1
      cases ks
      · go_wp2
        go_ret
        exact ⟨ret_bool HR.out.symm, HB.out.trans (HB1.out.mono HB.out.size)⟩
      · by_cases k1 : 1 ≤ limit
        · by_cases k2 : limit ≤ 100
          all_goals
            go_wp2
            go_ret
            refine ⟨ret_bool ?_, HB.out.trans (HB1.out.mono HB.out.size)⟩
            rw [HR.out, Bool.eq_iff_iff]
            first | (simp; done) | (simp; omega)
        · go_wp2
          go_ret
          refine ⟨ret_bool ?_, HB.out.trans (HB1.out.mono HB.out.size)⟩
          rw [HR.out, Bool.eq_iff_iff]
          first | (simp; done) | (simp; omega)
    · have k6 : (kind == 6) = false := by simpa using h6
      have HR := Lib.hid (show res = km by rw [HR1.out, if_neg h6])
      clear HR1 HSO h6
      go_enter Try.func28, Try.ntmps28
      go_wp2_with fail
      rw [← hWe.out]
      refine HKM.out.mono ?_
      rintro e w' ⟨rfl, rfl⟩
      go_wp2
      go_ret
      exact ⟨ret_bool HR.out.symm, HB.out⟩

end Go.Proofs.Ythcchaglloggjaa
