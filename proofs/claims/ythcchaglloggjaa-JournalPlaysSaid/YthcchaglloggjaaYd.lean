/- The contract of slices.symMergeCmpFunc at numbers where one of the two parts is a single number. Condition: the row lies in a block of its own, no longer than 1000. -/
import Derived.Test.YthcchaglloggjaaYc
namespace Go.Proofs.Ythcchaglloggjaa
open Go.RowKit
set_option linter.unusedVariables false
set_option maxRecDepth 100000

/-- Of the right part's numbers against the left part's the closure tells T. -/
def Cross (T U : Nat → Nat → Bool) (g : Nat → Nat) (a m b : Nat) : Prop := ∀ i j, a ≤ i → i < m → m ≤ j → j < b → U (g j) (g i) = T (g j) (g i) ∧ g j ≠ g i
/-- What merging leaves. -/
def MergeC (T U : Nat → Nat → Bool) (N B n c lb a m b : Nat) : Prop := ∀ (w : World) (g : Nat → Nat), RowG w B n g → Vin n g → CmpH N n w U lb → Rise T g a m → Rise T g m b → Cross T U g a m b →
  Calls Try.prog 77 #[.slice (some ⟨B, 0, none⟩) n c, .int .i64 a, .int .i64 m, .int .i64 b, cmpV lb] w fun e w' => ∃ g', SortO N B n w g' e w' ∧ Mix a b g g' ∧ Rise T g' a b
theorem no_less {T : Nat → Nat → Bool} (hT : Sto T) {x y : Nat} (hn : y ≠ x) (h : T y x = false) : T x y = true := by
  rcases hT.tot x y (Ne.symm hn) with h1 | h1
  · exact h1
  · rw [h1] at h; cases h

set_option maxHeartbeats 8000000 in
theorem smerge_one {T U : Nat → Nat → Bool} (hT : Sto T) {N B n c a m b lb : Nat} (hN : N ≤ B) (hn : n ≤ 1000) (hm : m = a + 1) (hab : m < b) (hb : b ≤ n) : MergeC T U N B n c lb a m b := by
  intro w g h hv hc h1 h2 hx
  have HM0 := Lib.hid hm
  have ham : a < m := by omega
  rw [hm] at h2 hx
  have H := Lib.hid h
  have HN := Lib.hid hN
  have HC := Lib.hid hc
  have HV := Lib.hid hv
  have HT := Lib.hid hT
  have H2 := Lib.hid h2
  have HX := Lib.hid hx
  have e1 : ((m : Int) - (a : Int) == 1) = true := by simp; omega
  clear h hN hc hv hT h1 h2 hx hm
  unfold cmpV
  go_enter Try.func77, Try.ntmps77
  go_wp2
  go_loopw [10, 11, 12] (fun s t _ wr => ∃ i j : Nat, s = .int .i64 i ∧ t = .int .i64 j ∧ m ≤ i ∧ i ≤ j ∧ j ≤ b ∧ RowG wr B n g ∧ Below N w wr ∧ Hid ((∀ q, a + 1 ≤ q → q < i → T (g q) (g a) = true) ∧ (∀ q, j ≤ q → q < b → T (g a) (g q) = true))) (fun s t _ _ => (intOf t).toNat - (intOf s).toNat)
  case atStart => exact ⟨m, b, rfl, rfl, by omega, by omega, by omega, H.out, Below.refl _ _, Lib.hid ⟨fun q h1 h2 => by have := HM0.out; omega, fun q h1 h2 => by omega⟩⟩
  case round =>
    clear e1
    obtain ⟨i, j, rfl, rfl, hmi, hij, hjb, hf, hbl, HI⟩ := hrel
    have hai : a + 1 ≤ i := by have := HM0.out; omega
    have HF := Lib.hid hf
    have HB := Lib.hid hbl
    clear hf hbl
    by_cases hlt : i < j
    · obtain ⟨q, hq⟩ : ∃ q : Nat, q = (i + j) / 2 := ⟨_, rfl⟩
      have eq : ((i : Int) + (j : Int)) / 2 = (q : Int) := by omega
      have hqn : q < n := by omega
      have han : a < n := by omega
      have hqi : i ≤ q := by omega
      have hqj : q < j := by omega
      have HQ := Lib.hid hq
      clear hq
      have cq := HF.out.at_ hqn
      have ca := HF.out.at_ han
      have HXQ := Lib.hid (HX.out a q (Nat.le_refl _) (by omega) (by omega) (by omega))
      have HCJ := Lib.hid (HC.out wr.drew HB.out.drew (g q) (g a) (HV.out q hqn) (HV.out a han))
      have HR := Lib.hid (fun (p : Nat) (h1 : q < p) (h2 : p < b) => H2.out q p (by omega) h1 h2)
      have HL := Lib.hid (fun (p : Nat) (h1 : a + 1 ≤ p) (h2 : p < q) => H2.out p q h1 h2 (by omega))
      cases hu : U (g q) (g a)
      case' false =>
        have HNX := Lib.hid (show ∀ p, q ≤ p → p < b → T (g a) (g p) = true from fun p p1 p2 => by
          have h0 : T (g a) (g q) = true := no_less HT.out HXQ.out.2 (by rw [← HXQ.out.1]; exact hu)
          by_cases pq : p = q
          · rw [pq]; exact h0
          · exact HT.out.trans _ _ _ h0 (HR.out p (by omega) p2))
      case' true =>
        have HNX := Lib.hid (show ∀ p, a + 1 ≤ p → p < q + 1 → T (g p) (g a) = true from fun p p1 p2 => by
          have h0 : T (g q) (g a) = true := by rw [← HXQ.out.1]; exact hu
          by_cases pq : p = q
          · rw [pq]; exact h0
          · exact HT.out.trans _ _ _ (HL.out p p1 (by omega)) h0)
      all_goals
        rw [hu] at HCJ
        clear hu HXQ HR HL
        obtain ⟨x, hx⟩ : ∃ x, x = g q := ⟨_, rfl⟩
        obtain ⟨y, hy⟩ : ∃ y, y = g a := ⟨_, rfl⟩
        rw [← hx] at cq HCJ
        rw [← hy] at ca HCJ
        clear hx hy
        go_upto_region 5 with fail
        go_region_held3 (fun w' => w'.cell? ⟨B, q, none⟩ = some (.int .i64 x) ∧ w'.cell? ⟨B, a, none⟩ = some (.int .i64 y)) (go_keep)
          ((go_at_call 50
            (with_reducible refine HCJ.out.mono ?_)
            rintro e w3 ⟨z, rfl, hz, hb3⟩
            have hb3 : Below wr.heap.size wr w3 := undrew hb3
            have HB3 := Lib.hid (HB.out.trans (hb3.mono (by have := HF.out.1; have := HN.out; omega)))
            have HF3 := Lib.hid (HF.out.below hb3)
            have cq := (hb3.cell (p := ⟨B, q, none⟩) HF.out.1).trans cq
            have ca := (hb3.cell (p := ⟨B, a, none⟩) HF.out.1).trans ca
            clear hb3))
        clear HCJ cq ca HF HB
      · go_wp2
        go_roundw
        case rel => exact ⟨q + 1, j, by go_num, rfl, by omega, by omega, hjb, HF3.out, HB3.out, Lib.hid ⟨HNX.out, HI.out.2⟩⟩
        case measure => simp [intOf]; omega
      · go_wp2
        go_roundw
        case rel => exact ⟨i, q, rfl, rfl, hmi, hqi, by omega, HF3.out, HB3.out, Lib.hid ⟨HI.out.1, HNX.out⟩⟩
        case measure => simp [intOf]; omega
    · obtain rfl : j = i := by omega
      obtain ⟨p, rfl⟩ : ∃ p, j = p + 1 := ⟨j - 1, by omega⟩
      have HG := Lib.hid (merge_one HT.out H2.out hai hjb HI.out.1 HI.out.2)
      have HM := Lib.hid ((mix_rot g (Nat.le_succ a) hai).wide (Nat.le_refl a) hjb)
      clear HI
      go_wp2
      go_loopw [13] (fun s wr => ∃ k : Nat, s = .int .i64 k ∧ a ≤ k ∧ k ≤ p ∧ RowG wr B n (rotF g a (a + 1) (k + 1)) ∧ Below N w wr) (fun s _ => p - (intOf s).toNat)
      case atStart => exact ⟨a, rfl, Nat.le_refl _, by omega, by rw [rot_none]; exact HF.out, HB.out⟩
      case round =>
        clear HF HB
        obtain ⟨k, rfl, hak, hkp, hf, hbl⟩ := hrel
        have HF := Lib.hid hf
        have HB := Lib.hid hbl
        clear hf hbl
        by_cases hlt : k < p
        · have hkn : k < n := by omega
          have hk1 : k + 1 < n := by omega
          have cx := HF.out.at_ hkn
          have cy := HF.out.at_ hk1
          have fx := HF.out.fr hkn
          have fy := HF.out.fr hk1
          have cz := HF.out.second (i := k) hk1 (by omega) (.int .i64 (rotF g a (a + 1) (k + 1) (k + 1)))
          have HS := Lib.hid (And.intro ((HF.out.swap hkn hk1).below (Below.refl _ _).drew) ((swp_below HB.out HN.out k (k + 1) (.int .i64 (rotF g a (a + 1) (k + 1) (k + 1))) (.int .i64 (rotF g a (a + 1) (k + 1) k))).drew))
          rw [step_up hak] at HS
          obtain ⟨x, hx⟩ : ∃ x, x = rotF g a (a + 1) (k + 1) k := ⟨_, rfl⟩
          obtain ⟨y, hy⟩ : ∃ y, y = rotF g a (a + 1) (k + 1) (k + 1) := ⟨_, rfl⟩
          rw [← hx] at cx HS
          rw [← hy] at cy cz HS
          clear hx hy HF HB
          go_wp2_with fail
          go_region
          clear cx cy fx fy cz
          generalize ((wr.setCell ⟨B, k, none⟩ (.int .i64 y)).setCell ⟨B, k + 1, none⟩ (.int .i64 x)).drew = w4 at HS ⊢
          go_wp2
          go_roundw
          case rel => exact ⟨k + 1, by go_num, by omega, by omega, HS.out.1, HS.out.2⟩
          case measure => simp [intOf]; omega
        · obtain rfl : k = p := by omega
          go_wp2
          (try simp only [Exit.inBlock, Exit.then])
          refine bodyPost_ret (results_none rfl _ _ _) rfl ?_
          exact ⟨_, ⟨rfl, HF.out, HB.out⟩, HM.out, HG.out⟩
end Go.Proofs.Ythcchaglloggjaa
