/- SlotOnce: what its calls come to, as plain facts; its walk. Condition: what came in can be read. -/
import Derived.Test.YtojofhmhmcchnaaZm
namespace Go.Proofs.Ytojofhmhmcchnaa
open Go.RowKit
set_option linter.unusedVariables false
set_option maxRecDepth 100000

def oL (x : Sl) : List Sl := [x, sl0, sl0, sl0]
theorem oL_st (x : Sl) : stOf (oL x) 0 = x.st := stOf_in (L := oL x) (j := 0) (by show 0 < 4; omega)
theorem oL_turnK (x : Sl) (a b : Int) : turnK (oL x) 0 a b = if x.st = -1 then 6 else if x.st = a ∨ x.st = b then 0 else 10 := by
  unfold turnK
  rw [oL_st]
theorem oL_takeK (x : Sl) (c q : Int) : takeK (oL x) 0 c q = if x.st = -1 then 6 else if x.st = 0 ∨ x.r.cl ≠ c ∨ x.r.sq ≠ q then 3 else if x.st < 3 then 10 else if x.st = 4 then 8 else 0 := by
  unfold takeK
  rw [oL_st]
  rfl
theorem o_served (c : Int) : servesB (oL sl0) c = false := by
  unfold servesB
  rw [fst_no (fun k hk => ?_)]
  · rfl
  · have hk' : k < 4 := hk
    have : k = 0 ∨ k = 1 ∨ k = 2 ∨ k = 3 := by omega
    rcases this with rfl | rfl | rfl | rfl <;> rfl
theorem o_postK {r : Rq} (hm : mayQ r = true) : postK (oL sl0) r = 0 := by
  unfold postK
  rw [hm, o_served]
  rfl
theorem o_postK_no {r : Rq} (hm : mayQ r = false) : postK (oL sl0) r = 1 := by
  unfold postK
  rw [hm]
  rfl
theorem o_postI {r : Rq} (hm : mayQ r = true) : postI (oL sl0) r = 0 := by
  unfold postI
  rw [o_postK hm]
  rfl
theorem o_postL {r : Rq} (hm : mayQ r = true) : postL (oL sl0) r = oL ⟨1, r, an0⟩ := by
  unfold postL
  rw [o_postK hm]
  rfl
theorem o_postL_no {r : Rq} (hm : mayQ r = false) : postL (oL sl0) r = oL sl0 := by
  unfold postL
  rw [o_postK_no hm]
  rfl
theorem o_twice {r : Rq} (hm : mayQ r = true) : postK (oL ⟨1, r, an0⟩) r = 4 ∧ postI (oL ⟨1, r, an0⟩) r = 0 ∧ postL (oL ⟨1, r, an0⟩) r = oL ⟨1, r, an0⟩ := by
  have hs : servesB (oL ⟨1, r, an0⟩) r.cl = true := by
    unfold servesB
    rw [fst_at (i := 0) (by simp [sl, oL]) (fun k hk => absurd hk (by omega)) (by show 0 < 4; omega)]
    rfl
  have hk : postK (oL ⟨1, r, an0⟩) r = 4 := by unfold postK; rw [hm, hs]; rfl
  refine ⟨hk, ?_, ?_⟩
  · unfold postI; rw [hk]; rfl
  · unfold postL; rw [hk]; rfl
/-- What each call comes to. -/
theorem once_facts (r : Rq) (a : An) :
    takeK (oL ⟨1, r, an0⟩) 0 r.cl r.sq = 10 ∧ takeL (oL ⟨1, r, an0⟩) 0 r.cl r.sq = oL ⟨1, r, an0⟩ ∧ turnK (oL ⟨1, r, an0⟩) 0 2 2 = 10 ∧ ansL (oL ⟨1, r, an0⟩) 0 a = oL ⟨1, r, an0⟩ ∧ turnK (oL ⟨1, r, an0⟩) 0 1 1 = 0 ∧ turnL (oL ⟨1, r, an0⟩) 0 2 1 1 = oL ⟨2, r, an0⟩ ∧
      turnK (oL ⟨2, r, an0⟩) 0 2 2 = 0 ∧ ansL (oL ⟨2, r, an0⟩) 0 a = oL ⟨3, r, a⟩ ∧ takeK (oL ⟨3, r, a⟩) 0 r.cl r.sq = 0 ∧ takeA (oL ⟨3, r, a⟩) 0 r.cl r.sq = a ∧ takeL (oL ⟨3, r, a⟩) 0 r.cl r.sq = oL sl0 := by
  have k1 : takeK (oL ⟨1, r, an0⟩) 0 r.cl r.sq = 10 := by
    rw [oL_takeK, if_neg (show ¬ (1 : Int) = -1 by omega), if_neg (show ¬ ((1 : Int) = 0 ∨ r.cl ≠ r.cl ∨ r.sq ≠ r.sq) by simp), if_pos (show (1 : Int) < 3 by omega)]
  have k2 : turnK (oL ⟨1, r, an0⟩) 0 2 2 = 10 := by rw [oL_turnK]; rfl
  have k3 : turnK (oL ⟨1, r, an0⟩) 0 1 1 = 0 := by rw [oL_turnK]; rfl
  have k4 : turnK (oL ⟨2, r, an0⟩) 0 2 2 = 0 := by rw [oL_turnK]; rfl
  have k5 : takeK (oL ⟨3, r, a⟩) 0 r.cl r.sq = 0 := by
    rw [oL_takeK, if_neg (show ¬ (3 : Int) = -1 by omega), if_neg (show ¬ ((3 : Int) = 0 ∨ r.cl ≠ r.cl ∨ r.sq ≠ r.sq) by simp), if_neg (show ¬ (3 : Int) < 3 by omega), if_neg (show ¬ (3 : Int) = 4 by omega)]
  refine ⟨k1, ?_, k2, ?_, k3, ?_, k4, ?_, k5, ?_, ?_⟩
  · unfold takeL; rw [k1]; rfl
  · unfold ansL; rw [k2]; rfl
  · unfold turnL; rw [k3]; rfl
  · unfold ansL; rw [k4]; rfl
  · unfold takeA; rw [k5]; rfl
  · unfold takeL; rw [k5]; rfl
theorem once_other (r : Rq) (a : An) {c q : Int} (h : c ≠ r.cl ∨ q ≠ r.sq) : takeK (oL ⟨3, r, a⟩) 0 c q = 3 ∧ takeL (oL ⟨3, r, a⟩) 0 c q = oL ⟨3, r, a⟩ ∧ takeA (oL ⟨3, r, a⟩) 0 c q = an0 := by
  have k : takeK (oL ⟨3, r, a⟩) 0 c q = 3 := by
    rw [oL_takeK, if_neg (show ¬ (3 : Int) = -1 by omega), if_pos (.inr (h.imp (fun e => Ne.symm e) (fun e => Ne.symm e)))]
  exact ⟨k, by unfold takeL; rw [k]; rfl, by unfold takeA; rw [k]; rfl⟩
theorem once_none (c q : Int) : takeK (oL sl0) 0 c q = 3 ∧ takeL (oL sl0) 0 c q = oL sl0 ∧ takeA (oL sl0) 0 c q = an0 := by
  have k : takeK (oL sl0) 0 c q = 3 := by
    rw [oL_takeK, if_neg (show ¬ sl0.st = -1 by decide), if_pos (.inl rfl)]
  exact ⟨k, by unfold takeL; rw [k]; rfl, by unfold takeA; rw [k]; rfl⟩
theorem ok_oL {x : Sl} (h0 : 0 ≤ x.st) (h4 : x.st ≤ 4) (hz : x.st = 0 → x = sl0) : OkL (oL x) := by
  have h := (ok_new 4).set (i := 0) (by simp) h0 h4 hz
  exact h
theorem o_first : firstS (oL sl0) 1 = -1 := by decide

/-- What came in stays where it lies. -/
theorem an_old {w : World} {h : Sh} {a : An} (hr : AnR w h a) : On (· < w.heap.size) w (AnR · h a) := fun w' hv => ⟨byt_old hr.1 w' hv, prs_old hr.2 w' hv⟩
theorem rq_old {w : World} {h : Qh} {r : Rq} (hr : RqR w h r) : On (· < w.heap.size) w (RqR · h r) := fun w' hv => ⟨byt_old hr.1 w' hv, byt_old hr.2.1 w' hv, byt_old hr.2.2.1 w' hv, byt_old hr.2.2.2 w' hv⟩
end Go.Proofs.Ytojofhmhmcchnaa
