/- The contract of package elide's Order: the places, rising by the order. Condition: no more than 1000 requests; what came in can be read. -/
import Derived.Test.YthcchaglloggjaaYh
namespace Go.Proofs.Ythcchaglloggjaa
open Go.RowKit
set_option linter.unusedVariables false
set_option maxRecDepth 100000

theorem Try.infoInt : (Try.prog.info? 3).map (fun i => (i.zero, i.size, i.bytes)) = some (some (.int .i64 0), 1, 8) := by kernel_rfl
/-- A slice of numbers that reads as the function g. -/
def Nts (w : World) (A : Option Addr) (n : Nat) (g : Nat → Nat) : Prop := n ≤ maxLen ∧ (0 < n → ∃ b o, A = some ⟨b, o, none⟩ ∧ b < w.heap.size ∧ ∀ k, k < n → w.cell? ⟨b, o + k, none⟩ = some (.int .i64 (g k)))
theorem Nts.below {w w' : World} {A : Option Addr} {n : Nat} {g : Nat → Nat} (h : Nts w A n g) (hb : Below w.heap.size w w') : Nts w' A n g :=
  ⟨h.1, fun h0 => by
    obtain ⟨b, o, e, hl, hj⟩ := h.2 h0
    exact ⟨b, o, e, Nat.lt_of_lt_of_le hl hb.size, fun j hjn => (hb.cell (p := ⟨b, o + j, none⟩) hl).trans (hj j hjn)⟩⟩
theorem Nts.at_ {w : World} {A : Option Addr} {n j : Nat} {g : Nat → Nat} (h : Nts w A n g) (hj : j < n) : ∃ b o, A = some ⟨b, o, none⟩ ∧ b < w.heap.size ∧ w.cell? ⟨b, o + j, none⟩ = some (.int .i64 (g j)) := by
  obtain ⟨b, o, e, hb, hp⟩ := h.2 (by omega)
  exact ⟨b, o, e, hb, hp j hj⟩
theorem RowG.nts {w : World} {B n : Nat} {g : Nat → Nat} (h : RowG w B n g) (hn : n ≤ maxLen) : Nts w (some ⟨B, 0, none⟩) n g :=
  ⟨hn, fun _ => ⟨B, 0, rfl, h.1, fun k hk => by rw [Nat.zero_add]; exact h.at_ hk⟩⟩
theorem RowG.put {w : World} {B n j : Nat} {g : Nat → Nat} (h : RowG w B n g) (hj : j < n) (v : Nat) : RowG (w.setCell ⟨B, j, none⟩ (.int .i64 v)) B n (fun k => if k = j then v else g k) := by
  refine ⟨by simpa [World.setCell] using h.1, fun k hk => ⟨?_, ?_⟩⟩
  · dsimp only
    by_cases e : k = j
    · subst e
      rw [if_pos rfl]
      exact World.cell?_setCell_same _ _ _ (h.at_ hk)
    · rw [if_neg e, World.cell?_setCell_other _ _ _ _ (by intro e'; simp only [Addr.mk.injEq] at e'; omega)]
      exact h.at_ hk
  · rw [World.frozen?_setCell]
    exact h.fr hk
theorem RowG.congr {w : World} {B n : Nat} {g g' : Nat → Nat} (h : RowG w B n g) (he : ∀ k, k < n → g' k = g k) : RowG w B n g' := ⟨h.1, fun k hk => by rw [he k hk]; exact h.2 k hk⟩
theorem made_row0 (w : World) (n : Nat) (t : TypeId) : RowG (w.alloc (.cells (madeCells #[.int .i64 0] n) t)) w.heap.size n (fun _ => 0) := by
  have h := World.rowIs_made w (.int .i64 0) n t
  exact ⟨by simp, fun k hk => ⟨h.cell hk, h.frozen k⟩⟩
/-- The places, each once, rising by the order of the requests. -/
structure OrdI (M : List Rq) (n : Nat) (g : Nat → Nat) : Prop where
  rise : Rise (ordT M) g 0 n
  lt : ∀ k, k < n → g k < n
  onto : ∀ v, v < n → ∃ k, k < n ∧ v = g k
theorem OrdI.of {M : List Rq} {n : Nat} {g : Nat → Nat} (hr : Rise (ordT M) g 0 n) (hm : Mix 0 n (fun k => k) g) : OrdI M n g :=
  ⟨hr, fun k hk => by
    obtain ⟨j, -, j2, e⟩ := hm.to k (Nat.zero_le _) hk
    rw [e]
    exact j2, fun v hv => by
    obtain ⟨j, -, j2, e⟩ := hm.of v (Nat.zero_le _) hv
    exact ⟨j, j2, e⟩⟩
theorem ord_same {M : List Rq} {n : Nat} {g g' : Nat → Nat} (h : OrdI M n g) (h' : OrdI M n g') : ∀ k, k < n → g k = g' k :=
  rise_same (ordT_sto M) h.rise h'.rise (fun k hk => h'.onto _ (h.lt k hk)) (fun k hk => h.onto _ (h'.lt k hk))

set_option maxHeartbeats 4000000 in
theorem order_any {w : World} {A : Option Addr} {n : Nat} (c : Nat) {M : List Rq} (h : Reqs w A n M) (hn : n ≤ 1000) :
    Calls Try.prog 38 #[.slice A n c] w fun e w' => ∃ (B : Option Addr) (c' : Nat) (g : Nat → Nat), e = .returned (.slice B n c') ∧ Nts w' B n g ∧ OrdI M n g ∧ Below w.heap.size w w' := by
  have hmk := fun W : World => run_make_row' (P := Try.prog) 30 3 (.int .i64 0) 8 Try.underlying30 Try.infoInt rfl .i64 .i64 n (by omega) (by omega) W
  obtain ⟨w1, hw1⟩ : ∃ w1, w1 = w.alloc (.cells #[.slice A n c] 31) := ⟨_, rfl⟩
  have hb1 : Below w.heap.size w w1 := by rw [hw1]; exact (Below.refl _ _).alloc (Nat.le_refl _) _
  have hs1 : w1.heap.size = w.heap.size + 1 := by rw [hw1]; simp
  have hc1 : w1.cell? ⟨w.heap.size, 0, none⟩ = some (.slice A n c) := by rw [hw1]; simp
  obtain ⟨w2, hw2⟩ : ∃ w2, w2 = w1.alloc (.cells (madeCells #[.int .i64 0] n) 3) := ⟨_, rfl⟩
  have hb2 : Below w1.heap.size w1 w2 := by rw [hw2]; exact (Below.refl _ _).alloc (Nat.le_refl _) _
  have hg2 : RowG w2 w1.heap.size n (fun _ => 0) := by rw [hw2]; exact made_row0 _ _ _
  have hc2 : w2.cell? ⟨w.heap.size, 0, none⟩ = some (.slice A n c) := (hb2.cell (p := ⟨w.heap.size, 0, none⟩) (by show w.heap.size < w1.heap.size; omega)).trans hc1
  have HC2 := Lib.hid hc2
  rw [hs1] at hg2
  have HG := Lib.hid hg2
  have HB := Lib.hid (hb1.trans (hb2.mono (by omega)))
  have hsz : w.heap.size < w2.heap.size := Nat.lt_of_lt_of_le (by omega) hb2.size
  have HE := Lib.hid (show w2 = (w.alloc (.cells #[.slice A n c] 31)).alloc (.cells (madeCells #[.int .i64 0] n) 3) by rw [hw2, hw1])
  have H := Lib.hid h
  clear hw1 hb1 hs1 hc1 hw2 hb2 hg2 h hc2
  go_enter Try.func38, Try.ntmps38
  go_upto_region 1 with fail
  have hc0 : (w.alloc (.cells #[.slice A n c] 31)).cell? ⟨w.heap.size, 0, none⟩ = some (.slice A n c) := by simp
  go_upto_region 2 with fail
  rw [← HE.out]
  clear hmk hc0 HE
  go_wp2
  go_loopw [10] (fun s wr => ∃ j : Nat, j ≤ n ∧ s = .int .i64 j ∧ RowG wr (w.heap.size + 1) n (fun k => if k < j then k else 0) ∧ Below (w.heap.size + 1) w2 wr) (fun s _ => n - (intOf s).toNat)
  case atStart => exact ⟨0, Nat.zero_le _, rfl, HG.out.congr (fun k hk => by simp), Below.refl _ _⟩
  case round =>
    clear HG
    obtain ⟨j, hj, rfl, hg, hb⟩ := hrel
    have HG := Lib.hid hg
    have HW := Lib.hid hb
    clear hg hb
    by_cases hlt : j < n
    · have cj := HG.out.at_ hlt
      have fj := HG.out.fr hlt
      have HS := Lib.hid (show RowG (wr.setCell ⟨w.heap.size + 1, j, none⟩ (.int .i64 j)) (w.heap.size + 1) n (fun k => if k < j + 1 then k else 0) ∧ Below (w.heap.size + 1) w2 (wr.setCell ⟨w.heap.size + 1, j, none⟩ (.int .i64 j)) from
        ⟨(HG.out.put hlt j).congr (fun k hk => by
          by_cases e : k = j
          · rw [if_pos e, if_pos (by omega), e]
          · rw [if_neg e]
            by_cases e2 : k < j
            · rw [if_pos e2, if_pos (by omega)]
            · rw [if_neg e2, if_neg (by omega)]), HW.out.setCell (Nat.le_refl _) _⟩)
      go_wp2
      go_roundw
      case rel => exact ⟨j + 1, by omega, by go_num, HS.out.1, HS.out.2⟩
      case measure => simp [intOf]; omega
    · obtain rfl : j = n := by omega
      have HG2 := Lib.hid (HG.out.congr (g' := fun k => k) (fun k hk => by rw [if_pos hk]))
      have HSO := Lib.hid (ssort_any (c := j) (ordT_sto M) (ordU_T M) HG2.out (Nat.le_refl _) hn (fun k hk => rfl) (show CmpH (w.heap.size + 1) j wr (ordU M) w.heap.size from fun w' hb a b ha hb' =>
        order1_any (c := c) (H.out.below (HB.out.trans ((HW.out.trans hb).mono (Nat.le_succ _)))) (((HW.out.trans hb).cell (p := ⟨w.heap.size, 0, none⟩) (Nat.lt_succ_self _)).trans HC2.out) ha hb'))
      clear HG
      go_wp2_with fail
      refine HSO.out.mono ?_
      rintro e w3 ⟨g', ⟨rfl, hg3, hb3⟩, hm3, hr3⟩
      have HX := Lib.hid (And.intro hg3 (And.intro (HW.out.trans hb3) (OrdI.of hr3 hm3)))
      clear hg3 hb3 hm3 hr3 HSO HG2
      go_wp2
      go_ret
      exact ⟨_, _, g', rfl, HX.out.1.nts (by unfold maxLen; omega), HX.out.2.2, HB.out.trans (HX.out.2.1.mono (by omega))⟩
end Go.Proofs.Ythcchaglloggjaa
