/- Contracts of the document's own Is and of row.Is: whether pairs are a row. Condition: what came in can be read (the document's own: keys of at most 1000 bytes). -/
import Derived.Test.YtpicdokkdpbpdaaRi
namespace Go.Proofs.Ytpicdokkdpbpdaa
open Go.RowKit
set_option linter.unusedVariables false

theorem ok_zero (L : List Pr) : okAt L 0 = fairB (gt L 0) := by simp [okAt]
theorem ok_succ (L : List Pr) (k : Nat) : okAt L (k + 1) = (fairB (gt L (k + 1)) && ltB (gt L k).1 (gt L (k + 1)).1) := by simp [okAt]

set_option maxHeartbeats 2000000 in
theorem ris_any {w : World} {A : Option Addr} {n c : Nat} {L : List Pr} (h : Prs w A n c L) (hm : Small L) :
    Calls Try.prog 8 #[.slice A n c] w fun e w' => e = .returned (.bool (isB L)) ∧ Drawn w w' := by
  have hn : n ≤ maxLen := Nat.le_trans h.2.1 h.2.2.1
  unfold maxLen at hn
  have hmax : 1000 ≤ maxLen := by unfold maxLen; omega
  have HMX := Lib.hid hmax
  clear hmax
  have HL := Lib.hid h.len
  have H := Lib.hid h
  have HM := Lib.hid hm
  clear h hm
  go_enter Try.func8, Try.ntmps8
  go_wp2
  go_loopw [3] (fun i wr => ∃ j : Nat, j ≤ n ∧ i = .int .i64 j ∧ Hid (∀ t, t < j → okAt L t = true) ∧ Drawn w wr) (fun i _ => n - (intOf i).toNat)
  case atStart => exact ⟨0, Nat.zero_le _, rfl, Lib.hid (fun j hj => absurd hj (by omega)), Drawn.refl w⟩
  case round =>
    obtain ⟨j, hj, rfl, HI, hd⟩ := hrel
    by_cases hlt : j < n
    · have hj' : j < L.length := by rw [HL.out]; exact hlt
      obtain ⟨b, oo, rfl, hbl, A1, n1, c1, B1, m1, d1, k0, k1, y1, y2⟩ := (hd.prs H.out).at_ hlt
      have HC := Lib.hid (rmay_any c1 y1)
      have hz : okAt L j = false → isB L = false := is_not hj'
      have HZ := Lib.hid hz
      clear hz
      have hf : fairB (gt L j) = (mayB (gt L j).1 && decide (m1 ≤ 32)) := by unfold fairB; rw [y2.1]
      have HF := Lib.hid hf
      clear hf y2
      cases hmay : mayB (gt L j).1
      · have hb : isB L = false := HZ.out (by unfold okAt; rw [HF.out, hmay]; rfl)
        rw [hmay] at HC
        have HB := Lib.hid hb
        clear hb hmay y1
        go_wp2_with fail
        refine HC.out.mono ?_
        rintro e w' ⟨rfl, rfl⟩
        go_wp2
        go_ret
        exact ⟨ret_bool HB.out.symm, hd⟩
      · rw [hmay] at HC
        by_cases hv : 32 < m1
        · have hb : isB L = false := HZ.out (by unfold okAt; rw [HF.out, show decide (m1 ≤ 32) = false by simp; omega]; simp)
          have HB := Lib.hid hb
          clear hb hmay y1
          go_wp2_with fail
          refine HC.out.mono ?_
          rintro e w' ⟨rfl, rfl⟩
          go_wp2
          go_ret
          exact ⟨ret_bool HB.out.symm, hd⟩
        · have hf : fairB (gt L j) = true := by rw [HF.out, hmay, show decide (m1 ≤ 32) = true by simp; omega]; rfl
          have HF1 := Lib.hid hf
          clear hf hmay HF
          rcases j with _ | t
          · clear y1
            simp only [Nat.zero_mul, Nat.add_zero] at k0 k1
            go_wp2_with fail
            refine HC.out.mono ?_
            rintro e w' ⟨rfl, rfl⟩
            go_wp2
            go_roundw
            case rel => exact ⟨1, by omega, by go_num, Lib.hid (fun t ht => by
              obtain rfl : t = 0 := by omega
              rw [ok_zero]
              exact HF1.out), hd⟩
            case measure => simp [intOf]; omega
          · obtain ⟨b', oo', ee, _, A2, n2, c2, B2, m2, d2, k2, k3, z1, z2⟩ := (hd.prs H.out).at_ (show t < n by omega)
            simp at ee
            obtain ⟨rfl, rfl⟩ := ee
            have hl1 := HM.out _ (gt_mem hj')
            have hl2 := HM.out _ (gt_mem (show t < L.length by omega))
            have hs1 : n1 ≤ maxLen := by rw [← y1.1]; exact Nat.le_trans hl1.1 HMX.out
            have hs2 : n2 ≤ maxLen := by rw [← z1.1]; exact Nat.le_trans hl2.1 HMX.out
            have HD := Lib.hid (fun k => less_any c2 c1 (z1.drewN k) (y1.drewN k) hs2 hs1)
            have HO := Lib.hid (ok_succ L t)
            clear y1 z1 z2 hl1 hl2 hs1 hs2 hj'
            cases hle : ltB (gt L t).1 (gt L (t + 1)).1
            · rw [hle] at HD
              have hb : isB L = false := HZ.out (by rw [HO.out, hle]; simp)
              have HB := Lib.hid hb
              clear hb hle
              go_wp2_with fail
              refine HC.out.mono ?_
              rintro e w' ⟨rfl, rfl⟩
              go_wp2
              go_quiet ((go_at_call 20; exact quiet_drawn (HD.out _)))
              go_wp2
              go_ret
              exact ⟨ret_bool HB.out.symm, hd.more _⟩
            · rw [hle] at HD
              have ho : okAt L (t + 1) = true := by rw [HO.out, hle, HF1.out]; rfl
              have HOK := Lib.hid ho
              clear ho hle
              go_wp2_with fail
              refine HC.out.mono ?_
              rintro e w' ⟨rfl, rfl⟩
              go_wp2
              go_quiet ((go_at_call 20; exact quiet_drawn (HD.out _)))
              go_wp2
              go_roundw
              case rel => exact ⟨t + 1 + 1, by omega, by go_num, Lib.hid (fun t' ht => by
                rcases Nat.lt_succ_iff_lt_or_eq.1 ht with ht | rfl
                · exact HI.out t' ht
                · exact HOK.out), hd.more _⟩
              case measure => simp [intOf]; omega
    · have hb : isB L = true := is_all (fun t ht => HI.out t (by have := HL.out; omega))
      have HB := Lib.hid hb
      clear hb
      go_wp2
      go_ret
      exact ⟨ret_bool HB.out.symm, hd⟩
end Go.Proofs.Ytpicdokkdpbpdaa
