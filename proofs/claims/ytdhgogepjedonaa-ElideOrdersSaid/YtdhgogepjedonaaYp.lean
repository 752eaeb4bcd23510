/- The contract of package elide's net. Condition: what came in can be read. -/
import Derived.Test.YtdhgogepjedonaaYo
namespace Go.Proofs.Ytdhgogepjedonaa
open Go.RowKit
set_option linter.unusedVariables false
set_option maxRecDepth 100000

/-- The value that stands in a row of one key. -/
def topV (N : List Pr) : Ky := if N.length = 0 then [] else (gt N 0).2
def chgQ (n0 : Nat) (N : List Pr) (val : Ky) : Bool := if N.length = 0 then decide (0 < n0) else (decide (n0 = 0) || !sameB (topV N) val)
/-- The result's own block. -/
def BoxN (w : World) (b : Nat) : Prop := w.heap[b]? = some (.cells #[.slice none 0 0, .bool false, .slice none 0 0, .bool false] 34 (0, 0))
theorem BoxN.lt {w : World} {b : Nat} (hb : BoxN w b) : b < w.heap.size := (Array.getElem?_eq_some_iff.1 hb).1
theorem BoxN.below {w w' : World} {b B : Nat} (hx : BoxN w b) (hb : Below B w w') (hB : b < B) : BoxN w' b := (hb.block b hB).trans hx
theorem BoxN.cells {w : World} {b : Nat} (hb : BoxN w b) :
    w.cell? ⟨b, 0, none⟩ = some (.slice none 0 0) ∧ w.cell? ⟨b, 1, none⟩ = some (.bool false) ∧ w.cell? ⟨b, 2, none⟩ = some (.slice none 0 0) ∧ w.cell? ⟨b, 3, none⟩ = some (.bool false) ∧
      w.frozen? ⟨b, 0, none⟩ = false ∧ w.frozen? ⟨b, 1, none⟩ = false ∧ w.frozen? ⟨b, 2, none⟩ = false ∧ w.frozen? ⟨b, 3, none⟩ = false := by
  unfold BoxN at hb
  simp [World.cell?, World.frozen?, hb]
theorem box_n (w : World) : ∃ W, W = w.alloc (.cells #[.slice none 0 0, .bool false, .slice none 0 0, .bool false] 34) ∧ Below w.heap.size w W ∧ BoxN W w.heap.size ∧ W.heap.size = w.heap.size + 1 :=
  ⟨_, rfl, (Below.refl _ _).alloc (Nat.le_refl _) _, Deep.blk_alloc_new _ _, by simp⟩
theorem four_below {B b : Nat} {a w : World} (h : Below B a w) (hb : B ≤ b) (u1 u2 u3 u4 : Value) :
    Below B a ((((w.setCell ⟨b, 0, none⟩ u1).setCell ⟨b, 1, none⟩ u2).setCell ⟨b, 2, none⟩ u3).setCell ⟨b, 3, none⟩ u4) :=
  (((h.setCell hb _).setCell hb _).setCell hb _).setCell hb _
theorem four_agree (w : World) {b : Nat} (u1 u2 u3 u4 : Value) : Agree (· ≠ b) w ((((w.setCell ⟨b, 0, none⟩ u1).setCell ⟨b, 1, none⟩ u2).setCell ⟨b, 2, none⟩ u3).setCell ⟨b, 3, none⟩ u4) :=
  (((agree_set _ _ _ (by simp)).trans (agree_set _ _ _ (by simp))).trans (agree_set _ _ _ (by simp))).trans (agree_set _ _ _ (by simp))
/-- What the result's own block can't be. -/
theorem byt_ne {w : World} {A : Option Addr} {n b : Nat} {l : Ky} (h : Byt w A n l) (hb : w.heap.size ≤ b) : On (· ≠ b) w (Byt · A n l) := (byt_old h).mono fun i hi => by omega

/-- What net tells. -/
def NetO (w : World) (A2 : Option Addr) (m c2 : Nat) (is ch : Bool) (tv : Ky) (e : Ending) (w' : World) : Prop := ∃ (B : Option Addr) (mb db : Nat), e = .returned (.agg #[.slice A2 m c2, .bool is, .slice B mb db, .bool ch]) ∧ Byt w' B mb tv ∧ Below w.heap.size w w'

set_option maxHeartbeats 4000000 in
theorem net_any {w : World} {V W0 A1 A2 : Option Addr} {nv n0 n1 m : Nat} (cv c0 c1 c2 : Nat) {val : Ky} {N : List Pr} (hv : Byt w V nv val) (hp : Prs w A1 n1 c1 N) (h0 : n0 ≤ 1000) (hn : n1 ≤ 1000) :
    Calls Try.prog 25 #[.slice V nv cv, .slice W0 n0 c0, .slice A1 n1 c1, .slice A2 m c2] w (NetO w A2 m c2 (decide (0 < n1)) (chgQ n0 N val) (topV N)) := by
  obtain ⟨W, hW, hWB, hWN, hWs⟩ := box_n w
  obtain ⟨t0, t1, t2, t3, f0, f1, f2, f3⟩ := hWN.cells
  have HWN := Lib.hid hWN
  have HB := Lib.hid hWB
  have hWe := Lib.hid hW
  have hl := hp.len
  rcases Nat.eq_zero_or_pos n1 with h1 | h1
  · have HT := Lib.hid (show topV N = [] ∧ chgQ n0 N val = decide (0 < n0) by
      unfold chgQ topV
      rw [if_pos (by omega), if_pos (by omega)]
      exact ⟨rfl, rfl⟩)
    generalize chgQ n0 N val = ch at HT ⊢
    generalize topV N = tv at HT ⊢
    subst h1
    clear hv hp hW hWB hWN hWs hl
    by_cases hz : 0 < n0
    all_goals
      go_enter Try.func25, Try.ntmps25
      go_upto_region 1 with fail
      rw [← hWe.out]
      go_wp2
      refine bodyPost_ret (v := .agg #[.slice A2 m c2, .bool false, .slice none 0 0, .bool (decide (0 < n0))]) (by simp [results, Try.results25, go_sem, t0, t1, t2, t3, hz]) rfl ⟨none, 0, 0, by rw [HT.out.2]; simp, ?_, ?_⟩
      · rw [HT.out.1]
        exact byt_none _
      · exact four_below HB.out (b := w.heap.size) (Nat.le_refl _) _ _ _ _
  · obtain ⟨b, o, rfl, hbl, Ak, nk, ck, Bv, mv, dv, k0, k1, y0, y1⟩ := hp.at_ h1
    have k0 := (hWB.cell (p := ⟨b, o + 0 * 2, none⟩) hbl).trans k0
    have k1 := (hWB.cell (p := ⟨b, o + 0 * 2 + 1, none⟩) hbl).trans k1
    have HT := Lib.hid (show topV N = (gt N 0).2 ∧ chgQ n0 N val = (decide (n0 = 0) || !sameB (topV N) val) by
      unfold chgQ topV
      rw [if_neg (by omega), if_neg (by omega)]
      exact ⟨rfl, rfl⟩)
    have HY := Lib.hid ((byt_old y1).keep (below_all hWB))
    have HE := Lib.hid (run_eqb (w := W) dv cv (y1.below hWB) (hv.below hWB))
    generalize chgQ n0 N val = ch at HT ⊢
    have HTV := Lib.hid HT.out.1
    have HTC := Lib.hid HT.out.2
    rw [HTV.out] at HTC
    generalize topV N = tv at HTV ⊢
    have h1' : decide (0 < n1) = true := by simpa using h1
    simp only [Nat.zero_mul, Nat.add_zero] at k0 k1
    clear hv hp hW hWB hWs hl y0 y1 hWN HT
    generalize (gt N 0).2 = vv at HY HE HTV HTC
    generalize sameB vv val = sb at HE HTC
    by_cases hz : n0 = 0
    · subst hz
      go_enter Try.func25, Try.ntmps25
      go_upto_region 1 with fail
      rw [← hWe.out]
      go_wp2
      refine bodyPost_ret (v := .agg #[.slice A2 m c2, .bool true, .slice Bv mv dv, .bool true]) (by simp [results, Try.results25, go_sem, t0, t1, t2, t3]) rfl ⟨Bv, mv, dv, by rw [HTC.out]; simp, ?_, ?_⟩
      · rw [HTV.out]
        exact (HY.out.mono (C' := (· ≠ w.heap.size)) (fun i hi => by omega)).keep (four_agree W _ _ _ _) |>.here
      · exact four_below HB.out (b := w.heap.size) (Nat.le_refl _) _ _ _ _
    · have hz2 : ((n0 : Int) == 0) = false := by simp; omega
      cases sb
      · go_enter Try.func25, Try.ntmps25
        go_upto_region 1 with fail
        rw [← hWe.out]
        go_wp2_with fail
        refine HE.out.mono ?_
        rintro e w1 ⟨rfl, rfl⟩
        go_wp2
        refine bodyPost_ret (v := .agg #[.slice A2 m c2, .bool true, .slice Bv mv dv, .bool true]) (by simp [results, Try.results25, go_sem, t0, t1, t2, t3]) rfl ⟨Bv, mv, dv, by rw [HTC.out]; simp [hz]; omega, ?_, ?_⟩
        · rw [HTV.out]
          exact (HY.out.mono (C' := (· ≠ w.heap.size)) (fun i hi => by omega)).keep (four_agree W _ _ _ _) |>.here
        · exact four_below HB.out (b := w.heap.size) (Nat.le_refl _) _ _ _ _
      · go_enter Try.func25, Try.ntmps25
        go_upto_region 1 with fail
        rw [← hWe.out]
        go_wp2_with fail
        refine HE.out.mono ?_
        rintro e w1 ⟨rfl, rfl⟩
        go_wp2
        refine bodyPost_ret (v := .agg #[.slice A2 m c2, .bool true, .slice Bv mv dv, .bool false]) (by simp [results, Try.results25, go_sem, t0, t1, t2, t3]) rfl ⟨Bv, mv, dv, by rw [HTC.out]; simp [hz]; omega, ?_, ?_⟩
        · rw [HTV.out]
          exact (HY.out.mono (C' := (· ≠ w.heap.size)) (fun i hi => by omega)).keep (four_agree W _ _ _ _) |>.here
        · exact four_below HB.out (b := w.heap.size) (Nat.le_refl _) _ _ _ _
end Go.Proofs.Ytdhgogepjedonaa
