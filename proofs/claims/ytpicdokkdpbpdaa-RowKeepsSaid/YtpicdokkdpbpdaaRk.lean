/- Contracts of row.Is (whether pairs are a row) and of the document's own Pairs (where both read the same: true). Condition: what came in can be read. -/
import Derived.Test.YtpicdokkdpbpdaaRj
namespace Go.Proofs.Ytpicdokkdpbpdaa
open Go.RowKit
set_option linter.unusedVariables false

theorem below_drewN {B : Nat} {w w' : World} (h : Below B w w') (k : Nat) : Below B w (w'.drewN k) := ⟨h.os, h.tape, h.output, h.size, h.block⟩

set_option maxHeartbeats 2000000 in
theorem is_any {w : World} {A : Option Addr} {n c : Nat} {L : List Pr} (h : Prs w A n c L) :
    Calls Try.prog 7 #[.slice A n c] w fun e w' => e = .returned (.bool (isB L)) ∧ Below w.heap.size w w' := by
  have hn : n ≤ maxLen := Nat.le_trans h.2.1 h.2.2.1
  unfold maxLen at hn
  have HL := Lib.hid h.len
  have H := Lib.hid h
  clear h
  go_enter Try.func7, Try.ntmps7
  go_wp2
  go_loopw [7] (fun i wr => ∃ j : Nat, j ≤ n ∧ i = .int .i64 j ∧ Hid (∀ t, t < j → okAt L t = true) ∧ Below w.heap.size w wr) (fun i _ => n - (intOf i).toNat)
  case atStart => exact ⟨0, Nat.zero_le _, rfl, Lib.hid (fun j hj => absurd hj (by omega)), Below.refl _ _⟩
  case round =>
    obtain ⟨j, hj, rfl, HI, hd⟩ := hrel
    by_cases hlt : j < n
    · have hj' : j < L.length := by rw [HL.out]; exact hlt
      obtain ⟨b, oo, rfl, hbl, A1, n1, c1, B1, m1, d1, k0, k1, y1, y2⟩ := (H.out.below hd).at_ hlt
      have HC := Lib.hid (rowmay_any c1 d1 (y1.alloc (.cells #[.slice A1 n1 c1, .slice B1 m1 d1] 43)) (y2.alloc (.cells #[.slice A1 n1 c1, .slice B1 m1 d1] 43)))
      have hz : okAt L j = false → isB L = false := is_not hj'
      have HZ := Lib.hid hz
      clear hz y2
      cases hf : fairB (gt L j)
      · have hb : isB L = false := HZ.out (by unfold okAt; rw [hf]; rfl)
        rw [show ((gt L j).1, (gt L j).2) = gt L j from rfl, hf] at HC
        have HB := Lib.hid hb
        clear hb hf y1
        go_wp2_with fail
        refine HC.out.mono ?_
        rintro e w' ⟨rfl, rfl⟩
        go_wp2
        go_ret
        exact ⟨ret_bool HB.out.symm, hd.alloc hd.size _⟩
      · rw [show ((gt L j).1, (gt L j).2) = gt L j from rfl, hf] at HC
        have HF1 := Lib.hid hf
        clear hf
        rcases j with _ | t
        · clear y1
          simp only [Nat.zero_mul, Nat.add_zero] at k0 k1
          go_wp2_with fail
          refine HC.out.mono ?_
          rintro e w' ⟨rfl, rfl⟩
          go_wp2
          go_quiet (fail)
          go_wp2
          go_roundw
          case rel => exact ⟨1, by omega, by go_num, Lib.hid (fun t ht => by
            obtain rfl : t = 0 := by omega
            rw [ok_zero]
            exact HF1.out), below_drewN (hd.alloc hd.size _) _⟩
          case measure => simp [intOf]; omega
        · obtain ⟨b', oo', ee, _, A2, n2, c2, B2, m2, d2, k2, k3, z1, z2⟩ := (H.out.below hd).at_ (show t < n by omega)
          simp at ee
          obtain ⟨rfl, rfl⟩ := ee
          have HD := Lib.hid (fun k => compare_any c2 c1 ((z1.alloc (.cells #[.slice A1 n1 c1, .slice B1 m1 d1] 43)).drewN k) ((y1.alloc (.cells #[.slice A1 n1 c1, .slice B1 m1 d1] 43)).drewN k))
          have HO := Lib.hid (ok_succ L t)
          have hge := cmp_ge (gt L t).1 (gt L (t + 1)).1
          clear y1 z1 z2 hj'
          cases hle : ltB (gt L t).1 (gt L (t + 1)).1
          · rw [hle] at hge
            simp only [Bool.not_false] at hge
            have hb : isB L = false := HZ.out (by rw [HO.out, hle]; simp)
            have HB := Lib.hid hb
            clear hb hle
            go_wp2_with fail
            refine HC.out.mono ?_
            rintro e w' ⟨rfl, rfl⟩
            go_wp2
            go_quiet ((go_at_call 19; exact quiet_left (HD.out _)))
            go_wp2
            go_ret
            exact ⟨ret_bool HB.out.symm, below_drewN (hd.alloc hd.size _) _⟩
          · rw [hle] at hge
            simp only [Bool.not_true] at hge
            have ho : okAt L (t + 1) = true := by rw [HO.out, hle, HF1.out]; rfl
            have HOK := Lib.hid ho
            clear ho hle
            go_wp2_with fail
            refine HC.out.mono ?_
            rintro e w' ⟨rfl, rfl⟩
            go_wp2
            go_quiet ((go_at_call 19; exact quiet_left (HD.out _)))
            go_wp2
            go_roundw
            case rel => exact ⟨t + 1 + 1, by omega, by go_num, Lib.hid (fun t' ht => by
              rcases Nat.lt_succ_iff_lt_or_eq.1 ht with ht | rfl
              · exact HI.out t' ht
              · exact HOK.out), below_drewN (hd.alloc hd.size _) _⟩
            case measure => simp [intOf]; omega
    · have hb : isB L = true := is_all (fun t ht => HI.out t (by have := HL.out; omega))
      have HB := Lib.hid hb
      clear hb
      go_wp2
      go_ret
      exact ⟨ret_bool HB.out.symm, hd⟩

set_option maxHeartbeats 2000000 in
theorem pairs_same {w : World} {A B : Option Addr} {n c m d : Nat} {L : List Pr} (h : Prs w A n c L) (h' : Prs w B m d L) :
    Calls Try.prog 13 #[.slice A n c, .slice B m d] w fun e w' => e = .returned (.bool true) ∧ Drawn w w' := by
  have hn : n ≤ maxLen := Nat.le_trans h.2.1 h.2.2.1
  unfold maxLen at hn
  obtain rfl : n = m := h.len.symm.trans h'.len
  have H := Lib.hid h
  have H' := Lib.hid h'
  clear h h'
  go_enter Try.func13, Try.ntmps13
  go_wp2
  go_loopw [5] (fun i wr => ∃ j : Nat, j ≤ n ∧ i = .int .i64 j ∧ Drawn w wr) (fun i _ => n - (intOf i).toNat)
  case atStart => exact ⟨0, Nat.zero_le _, rfl, Drawn.refl w⟩
  case round =>
    obtain ⟨j, hj, rfl, hd⟩ := hrel
    by_cases hlt : j < n
    · obtain ⟨b, oo, rfl, hbl, A1, n1, c1, B1, m1, d1, k0, k1, y1, y2⟩ := (hd.prs H.out).at_ hlt
      obtain ⟨b', oo', rfl, hbl', A2, n2, c2, B2, m2, d2, k2, k3, z1, z2⟩ := (hd.prs H'.out).at_ hlt
      generalize gt L j = p at y1 y2 z1 z2
      have r1 := fun k => run_str (c := c1) (y1.drewN k)
      have r2 := fun k => run_str (c := d1) (y2.drewN k)
      have r3 := fun k => run_str (c := c2) (z1.drewN k)
      have r4 := fun k => run_str (c := d2) (z2.drewN k)
      clear y1 y2 z1 z2
      go_wp2
      go_quiet (fail)
      go_wp2
      go_roundw
      case rel => exact ⟨j + 1, by omega, by go_num, hd.more _⟩
      case measure => simp [intOf]; omega
    · go_wp2
      go_ret
      exact ⟨rfl, hd⟩
end Go.Proofs.Ytpicdokkdpbpdaa
