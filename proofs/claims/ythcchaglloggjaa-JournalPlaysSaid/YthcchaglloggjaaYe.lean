/- The contract of slices.symMergeCmpFunc at numbers where the right part is a single number. Condition: the row lies in a block of its own, no longer than 1000. -/
import Derived.Test.YthcchaglloggjaaYd
namespace Go.Proofs.Ythcchaglloggjaa
open Go.RowKit
set_option linter.unusedVariables false
set_option maxRecDepth 100000

set_option maxHeartbeats 8000000 in
theorem smerge_last {T U : Nat → Nat → Bool} (hT : Sto T) {N B n c a m b lb : Nat} (hN : N ≤ B) (hn : n ≤ 1000) (ham : a + 1 < m) (hm : b = m + 1) (hb : b ≤ n) : MergeC T U N B n c lb a m b := by
  intro w g h hv hc h1 h2 hx
  have HM0 := Lib.hid hm
  have hmn : m < n := by omega
  have H := Lib.hid h
  have HN := Lib.hid hN
  have HC := Lib.hid hc
  have HV := Lib.hid hv
  have HT := Lib.hid hT
  have H1 := Lib.hid h1
  have HX := Lib.hid hx
  have e1 : ((m : Int) - (a : Int) == 1) = false := by simp; omega
  have e2 : ((b : Int) - (m : Int) == 1) = true := by simp; omega
  clear h hN hc hv hT h1 h2 hx hm
  unfold cmpV
  go_enter Try.func77, Try.ntmps77
  go_wp2
  go_loopw [14, 15, 16] (fun s t _ wr => ∃ i j : Nat, s = .int .i64 i ∧ t = .int .i64 j ∧ a ≤ i ∧ i ≤ j ∧ j ≤ m ∧ RowG wr B n g ∧ Below N w wr ∧ Hid ((∀ q, a ≤ q → q < i → T (g q) (g m) = true) ∧ (∀ q, j ≤ q → q < m → T (g m) (g q) = true))) (fun s t _ _ => (intOf t).toNat - (intOf s).toNat)
  case atStart => exact ⟨a, m, rfl, rfl, by omega, by omega, by omega, H.out, Below.refl _ _, Lib.hid ⟨fun q h1 h2 => by omega, fun q h1 h2 => by omega⟩⟩
  case round =>
    clear e1 e2
    obtain ⟨i, j, rfl, rfl, hai, hij, hjm, hf, hbl, HI⟩ := hrel
    have HF := Lib.hid hf
    have HB := Lib.hid hbl
    clear hf hbl
    by_cases hlt : i < j
    · obtain ⟨q, hq⟩ : ∃ q : Nat, q = (i + j) / 2 := ⟨_, rfl⟩
      have eq : ((i : Int) + (j : Int)) / 2 = (q : Int) := by omega
      have hqn : q < n := by omega
      have hqi : i ≤ q := by omega
      have hqj : q < j := by omega
      have HQ := Lib.hid hq
      clear hq
      have cq := HF.out.at_ hqn
      have ca := HF.out.at_ hmn
      have HXQ := Lib.hid (HX.out q m (by omega) (by omega) (Nat.le_refl _) (by have := HM0.out; omega))
      have HCJ := Lib.hid (HC.out wr.drew HB.out.drew (g m) (g q) (HV.out m hmn) (HV.out q hqn))
      have HR := Lib.hid (fun (p : Nat) (h1 : q < p) (h2 : p < m) => H1.out q p (by omega) h1 h2)
      have HL := Lib.hid (fun (p : Nat) (h1 : a ≤ p) (h2 : p < q) => H1.out p q h1 h2 (by omega))
      cases hu : U (g m) (g q)
      case' false =>
        have HNX := Lib.hid (show ∀ p, a ≤ p → p < q + 1 → T (g p) (g m) = true from fun p p1 p2 => by
          have h0 : T (g q) (g m) = true := no_less HT.out HXQ.out.2 (by rw [← HXQ.out.1]; exact hu)
          by_cases pq : p = q
          · rw [pq]; exact h0
          · exact HT.out.trans _ _ _ (HL.out p p1 (by omega)) h0)
      case' true =>
        have HNX := Lib.hid (show ∀ p, q ≤ p → p < m → T (g m) (g p) = true from fun p p1 p2 => by
          have h0 : T (g m) (g q) = true := by rw [← HXQ.out.1]; exact hu
          by_cases pq : p = q
          · rw [pq]; exact h0
          · exact HT.out.trans _ _ _ h0 (HR.out p (by omega) p2))
      all_goals
        rw [hu] at HCJ
        clear hu HXQ HR HL
        obtain ⟨x, hx⟩ : ∃ x, x = g q := ⟨_, rfl⟩
        obtain ⟨y, hy⟩ : ∃ y, y = g m := ⟨_, rfl⟩
        rw [← hx] at cq HCJ
        rw [← hy] at ca HCJ
        clear hx hy
        go_upto_region 17 with fail
        go_region_held3 (fun w' => w'.cell? ⟨B, q, none⟩ = some (.int .i64 x) ∧ w'.cell? ⟨B, m, none⟩ = some (.int .i64 y)) (go_keep)
          ((go_at_call 50
            (with_reducible refine HCJ.out.mono ?_)
            rintro e w3 ⟨z, rfl, hz, hb3⟩
            have hb3 : Below wr.heap.size wr w3 := undrew hb3
            have HB3 := Lib.hid (HB.out.trans (hb3.mono (by have := HF.out.1; have := HN.out; omega)))
            have HF3 := Lib.hid (HF.out.below hb3)
            have cq := (hb3.cell (p := ⟨B, q, none⟩) HF.out.1).trans cq
            have ca := (hb3.cell (p := ⟨B, m, none⟩) HF.out.1).trans ca
            clear hb3))
        clear HCJ cq ca HF HB
      · go_wp2
        go_roundw
        case rel => exact ⟨i, q, rfl, rfl, hai, hqi, by omega, HF3.out, HB3.out, Lib.hid ⟨HI.out.1, HNX.out⟩⟩
        case measure => simp [intOf]; omega
      · go_wp2
        go_roundw
        case rel => exact ⟨q + 1, j, by go_num, rfl, by omega, by omega, hjm, HF3.out, HB3.out, Lib.hid ⟨HNX.out, HI.out.2⟩⟩
        case measure => simp [intOf]; omega
    · obtain rfl : j = i := by omega
      have HG := Lib.hid (show Rise T (rotF g j m (m + 1)) a b by rw [HM0.out]; exact merge_last HT.out H1.out hai hjm HI.out.1 HI.out.2)
      have HM := Lib.hid (show Mix a b g (rotF g j m (m + 1)) from (mix_rot g hjm (Nat.le_succ m)).wide hai (by have := HM0.out; omega))
      clear HI
      go_wp2
      go_loopw [17] (fun s wr => ∃ k : Nat, s = .int .i64 k ∧ j ≤ k ∧ k ≤ m ∧ RowG wr B n (rotF g k m (m + 1)) ∧ Below N w wr) (fun s _ => (intOf s).toNat)
      case atStart => exact ⟨m, rfl, by omega, Nat.le_refl _, by rw [rot_none']; exact HF.out, HB.out⟩
      case round =>
        clear HF HB
        obtain ⟨k, rfl, hak, hkm, hf, hbl⟩ := hrel
        have HF := Lib.hid hf
        have HB := Lib.hid hbl
        clear hf hbl
        by_cases hlt : j < k
        · obtain ⟨p, rfl⟩ : ∃ p, k = p + 1 := ⟨k - 1, by omega⟩
          have hpn : p < n := by omega
          have hp1 : p + 1 < n := by omega
          have cx := HF.out.at_ hp1
          have cy := HF.out.at_ hpn
          have fx := HF.out.fr hp1
          have fy := HF.out.fr hpn
          have cz := HF.out.second (i := p + 1) hpn (by omega) (.int .i64 (rotF g (p + 1) m (m + 1) p))
          have HS := Lib.hid (And.intro ((HF.out.swap hp1 hpn).below (Below.refl _ _).drew) ((swp_below HB.out HN.out (p + 1) p (.int .i64 (rotF g (p + 1) m (m + 1) p)) (.int .i64 (rotF g (p + 1) m (m + 1) (p + 1)))).drew))
          have hst : swpF (rotF g (p + 1) m (m + 1)) (p + 1) p = rotF g p m (m + 1) := step_down hkm (Nat.succ_pos p)
          rw [hst] at HS
          obtain ⟨x, hx⟩ : ∃ x, x = rotF g (p + 1) m (m + 1) (p + 1) := ⟨_, rfl⟩
          obtain ⟨y, hy⟩ : ∃ y, y = rotF g (p + 1) m (m + 1) p := ⟨_, rfl⟩
          rw [← hx] at cx HS
          rw [← hy] at cy cz HS
          clear hx hy HF HB hst
          go_wp2_with fail
          go_region
          clear cx cy fx fy cz
          generalize ((wr.setCell ⟨B, p + 1, none⟩ (.int .i64 y)).setCell ⟨B, p, none⟩ (.int .i64 x)).drew = w4 at HS ⊢
          go_wp2
          go_roundw
          case rel => exact ⟨p, by go_num, by omega, by omega, HS.out.1, HS.out.2⟩
          case measure => simp [intOf]
        · obtain rfl : k = j := by omega
          go_wp2
          (try simp only [Exit.inBlock, Exit.then])
          refine bodyPost_ret (results_none rfl _ _ _) rfl ?_
          exact ⟨_, ⟨rfl, HF.out, HB.out⟩, HM.out, HG.out⟩
end Go.Proofs.Ythcchaglloggjaa
