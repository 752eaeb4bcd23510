/- Contracts of the document's own Few, May (of requests), Get and Slice: in what blocks lies what they tell. Condition: what came in can be read; requests' slices of at most 100 bytes; a row of no more than 1000 pairs. -/
import Derived.Test.YtojofhmhmcchnaaWd
namespace Go.Proofs.Ytojofhmhmcchnaa
open Go.RowKit
set_option linter.unusedVariables false
set_option maxRecDepth 100000

def fewQ (M : List Rq) (m : Nat) : Bool := M.all smallQ && decide (M.length ≤ m)
theorem fewQ_all {M : List Rq} {m : Nat} (h : fewQ M m = true) : (∀ j, j < M.length → smallQ (gq M j) = true) ∧ M.length ≤ m := by
  unfold fewQ at h
  simp only [Bool.and_eq_true, decide_eq_true_eq] at h
  exact ⟨fun j hj => by rw [gq_eq hj]; exact List.all_eq_true.1 h.1 _ (List.getElem_mem hj), h.2⟩

set_option maxHeartbeats 4000000 in
theorem dmay_any {w : World} {h : Qh} {r : Rq} (hr : RqR w h r) (hs : smallQ r = true) : Calls Try.prog 30 #[rqV h r] w fun e w' => e = .returned (.bool (mayQ r)) ∧ Below w.heap.size w w' := by
  obtain ⟨l1, l2, l3, l4⟩ := small_lens hs
  obtain ⟨W, hW, hWB, hWQ, hWs⟩ := box_q w h r
  have hmax : 100 ≤ maxLen := by unfold maxLen; omega
  have HSO := Lib.hid (rsound_any h.c h.s (hr.1.below hWB) (hr.2.2.2.below hWB) (by rw [← hr.1.1]; omega) (by rw [← hr.2.2.2.1]; omega))
  have HKM := Lib.hid (rmay_any (w := W) h.c (hr.1.below hWB))
  have HR := Lib.hid (show mayQ r = ((decide (0 ≤ r.cl) && (decide (0 ≤ r.sq) && (decide (r.val.length ≤ 32) && decide (r.old.length ≤ 32)))) && (if r.kind = 6 then soundB r.key r.to_ && (decide (1 ≤ r.limit) && decide (r.limit ≤ 100)) else decide (1 ≤ r.kind) && (decide (r.kind ≤ 6) && mayB r.key))) from rfl)
  rw [show r.val.length = h.m from hr.2.1.1, show r.old.length = h.o from hr.2.2.1.1] at HR
  generalize mayQ r = res at HR ⊢
  have hwl : w.heap.size < W.heap.size := by omega
  have hm100 : h.m ≤ 100 := by rw [← hr.2.1.1]; exact l2
  have ho100 : h.o ≤ 100 := by rw [← hr.2.2.1.1]; exact l3
  have HQ := Lib.hid hWQ
  have HB := Lib.hid hWB
  have hWe := Lib.hid hW
  clear hW hWB hWQ hWs hr hs l1 l2 l3 l4 hmax
  obtain ⟨cl, sq, kind, key, val, old, to_, limit⟩ := r
  obtain ⟨A, n, c, B, m, d, C, o, p, D, q, s⟩ := h
  unfold rqV
  dsimp only at *
  generalize mayB key = km at HKM HR
  generalize soundB key to_ = ks at HSO HR
  have hno : (cl < 0 ∨ (¬ cl < 0 ∧ sq < 0) ∨ (¬ cl < 0 ∧ ¬ sq < 0 ∧ 32 < m) ∨ (¬ cl < 0 ∧ ¬ sq < 0 ∧ ¬ 32 < m ∧ 32 < o) ∨ (¬ cl < 0 ∧ ¬ sq < 0 ∧ ¬ 32 < m ∧ ¬ 32 < o ∧ kind < 1) ∨ (¬ cl < 0 ∧ ¬ sq < 0 ∧ ¬ 32 < m ∧ ¬ 32 < o ∧ ¬ kind < 1 ∧ 6 < kind)) ∨
      (¬ cl < 0 ∧ ¬ sq < 0 ∧ ¬ 32 < m ∧ ¬ 32 < o ∧ ¬ kind < 1 ∧ ¬ 6 < kind) := by omega
  rcases hno with hno | ⟨g1, g2, g3, g4, g5, g6⟩
  · have HN := Lib.hid (show res = false by
      rw [HR.out]
      by_cases h6 : kind = 6
      · rw [if_pos h6, Bool.eq_false_iff]
        simp
        omega
      · rw [if_neg h6, Bool.eq_false_iff]
        simp
        omega)
    clear HKM HSO HQ hWe HB HR
    rcases hno with g | ⟨g, g'⟩ | ⟨g, g', g2⟩ | ⟨g, g', g2, g3⟩ | ⟨g, g', g2, g3, g4⟩ | ⟨g, g', g2, g3, g4, g5⟩
    all_goals
      go_enter Try.func30, Try.ntmps30
      go_wp2
      go_ret
      exact ⟨ret_bool HN.out.symm, (Below.refl _ _).alloc (Nat.le_refl _) _⟩
  · have HR1 := Lib.hid (show res = (if kind = 6 then ks && (decide (1 ≤ limit) && decide (limit ≤ 100)) else km) by
      rw [HR.out, show decide (0 ≤ cl) = true by simp; omega, show decide (0 ≤ sq) = true by simp; omega, show decide (m ≤ 32) = true by simp; omega, show decide (o ≤ 32) = true by simp; omega]
      by_cases h6 : kind = 6
      · rw [if_pos h6, if_pos h6]; rfl
      · rw [if_neg h6, if_neg h6, show decide (1 ≤ kind) = true by simp; omega, show decide (kind ≤ 6) = true by simp; omega]; rfl)
    clear HR
    obtain ⟨c0, c1, c2, c3, c4, c5, c6, c7⟩ := HQ.out.cells
    have HC7 := Lib.hid c7
    clear c0 c1 c4 c5 c7
    by_cases h6 : kind = 6
    · subst h6
      have HR := Lib.hid (show res = (ks && (decide (1 ≤ limit) && decide (limit ≤ 100))) by rw [HR1.out]; rfl)
      clear HR1 HKM
      go_enter Try.func30, Try.ntmps30
      go_wp2_with fail
      rw [← hWe.out]
      refine HSO.out.mono ?_
      rintro e w1 ⟨rfl, hb1⟩
      have HB1 := Lib.hid hb1
      have c7 := (hb1.cell (p := ⟨w.heap.size, 7, none⟩) hwl).trans HC7.out
      clear hb1
      cases ks
      · go_wp2
        go_ret
        exact ⟨ret_bool HR.out.symm, HB.out.trans (HB1.out.mono HB.out.size)⟩
      · by_cases k1 : 1 ≤ limit
        · by_cases k2 : limit ≤ 100
          all_goals
            go_wp2
            go_ret
            refine ⟨ret_bool ?_, HB.out.trans (HB1.out.mono HB.out.size)⟩
            rw [HR.out, Bool.eq_iff_iff]
            first | (simp; done) | (simp; omega)
        · go_wp2
          go_ret
          refine ⟨ret_bool ?_, HB.out.trans (HB1.out.mono HB.out.size)⟩
          rw [HR.out, Bool.eq_iff_iff]
          first | (simp; done) | (simp; omega)
    · have k6 : (kind == 6) = false := by simpa using h6
      have HR := Lib.hid (show res = km by rw [HR1.out, if_neg h6])
      clear HR1 HSO h6
      go_enter Try.func30, Try.ntmps30
      go_wp2_with fail
      rw [← hWe.out]
      refine HKM.out.mono ?_
      rintro e w' ⟨rfl, rfl⟩
      go_wp2
      go_ret
      exact ⟨ret_bool HR.out.symm, HB.out⟩

theorem smallq_lit {w : World} {h : Qh} {r : Rq} (hr : RqR w h r) : Calls Try.prog 7 #[.agg #[.int .i64 r.cl, .int .i64 r.sq, .int .i64 r.kind, .slice h.A h.n h.c, .slice h.B h.m h.d, .slice h.C h.o h.p, .slice h.D h.q h.s, .int .i64 r.limit]] w fun e w' => e = .returned (.bool (smallQ r)) ∧ Below w.heap.size w w' := smallq_any hr
end Go.Proofs.Ytojofhmhmcchnaa
