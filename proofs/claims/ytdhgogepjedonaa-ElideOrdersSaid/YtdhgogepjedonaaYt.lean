/- ElideOrders' walk. Condition: what came in can be read. -/
import Derived.Test.YtdhgogepjedonaaYn
import Derived.Test.YtdhgogepjedonaaYs
namespace Go.Proofs.Ytdhgogepjedonaa
open Go.RowKit
set_option linter.unusedVariables false
set_option maxRecDepth 100000

set_option maxHeartbeats 4000000 in
theorem orders_let {w : World} {A : Option Addr} {n : Nat} (c : Nat) {M : List Rq} (h : Reqs w A n M) (hf : fewQ M 100 = false) :
    Calls Try.prog 3 #[.slice A n c] w fun e w' => e = .returned (.bool true) ∧ Below w.heap.size w w' := by
  have HUP := Lib.hid (up_any w)
  have HFX := Lib.hid (fun (w1 : World) (hb : Below w.heap.size w w1) => fewq_any c 100 (h.below hb))
  rw [hf] at HFX
  clear h hf
  go_enter Try.func3, Try.ntmps3
  go_wp2_with fail
  refine HUP.out.mono ?_
  rintro e w1 ⟨rfl, hb1⟩
  have HB1 := Lib.hid hb1
  clear hb1 HUP
  go_wp2_with fail
  refine (HFX.out _ HB1.out).mono ?_
  rintro e w2 ⟨rfl, hb2⟩
  have HB2 := Lib.hid (HB1.out.trans (hb2.mono HB1.out.size))
  clear hb2 HFX
  go_wp2
  go_ret
  exact ⟨rfl, HB2.out⟩

set_option maxHeartbeats 16000000 in
theorem orders_main {w : World} {A : Option Addr} {n : Nat} (c : Nat) {M : List Rq} (h : Reqs w A n M) (hf : fewQ M 100 = true) :
    Calls Try.prog 3 #[.slice A n c] w fun e w' => e = .returned (.bool true) ∧ Below w.heap.size w w' := by
  have HUP := Lib.hid (up_any w)
  have HFX := Lib.hid (fun (w1 : World) (hb : Below w.heap.size w w1) => fewq_any c 100 (h.below hb))
  rw [hf] at HFX
  obtain ⟨hsm, hlen⟩ := fewQ_all hf
  rw [h.1] at hsm hlen
  have H := Lib.hid h
  have HS := Lib.hid hsm
  clear h hf hsm
  go_enter Try.func3, Try.ntmps3
  go_wp2_with fail
  refine HUP.out.mono ?_
  rintro e w1 ⟨rfl, hb1⟩
  have HB1 := Lib.hid hb1
  clear hb1 HUP
  go_wp2_with fail
  refine (HFX.out _ HB1.out).mono ?_
  rintro e w2 ⟨rfl, hb2⟩
  have HB2 := Lib.hid (HB1.out.trans (hb2.mono HB1.out.size))
  have HG := Lib.hid (groups_any c (H.out.below HB2.out) (by omega))
  clear hb2 HFX HB1
  go_wp2_with fail
  refine HG.out.mono ?_
  rintro e w3 ⟨B3, c3, g3, rfl, ho3, hg3, hb3⟩
  have HO3 := Lib.hid ho3
  have HG3 := Lib.hid hg3
  have HB3 := Lib.hid (HB2.out.trans (hb3.mono HB2.out.size))
  have HDG := Lib.hid (dgroups_any c (H.out.below HB3.out) HS.out (by omega))
  clear ho3 hg3 hb3 HG HB2
  go_wp2_with fail
  refine HDG.out.mono ?_
  rintro e w4 ⟨B4, c4, g4, rfl, ho4, hg4, hb4⟩
  have HB4 := Lib.hid (HB3.out.trans (hb4.mono HB3.out.size))
  have hcg : grpL M g4 n = grpL M g3 n := grpl_congr fun k hk => (ord_same HO3.out ho4 k hk).symm
  rw [hcg] at hg4 ⊢
  have HG4 := Lib.hid (And.intro (HG3.out.below hb4) hg4)
  have hk := hg4.2.1
  generalize grpL M g3 n = G at HG4 HG3 hk ⊢
  obtain ⟨k, hkv⟩ : ∃ k, k = G.length := ⟨_, rfl⟩
  rw [← hkv] at HG4 hk ⊢
  unfold maxLen at hk
  have HOR := Lib.hid (order_any c (H.out.below HB4.out) (by omega))
  clear ho4 hg4 hb4 HDG HB3 HG3 hcg HO3 hkv
  go_wp2_with fail
  refine HOR.out.mono ?_
  rintro e w5 ⟨B5, c5, g5, rfl, hn5, ho5, hb5⟩
  have HN5 := Lib.hid hn5
  have HO5 := Lib.hid ho5
  have HB5 := Lib.hid (HB4.out.trans (hb5.mono HB4.out.size))
  have HG5 := Lib.hid (And.intro (HG4.out.1.below hb5) (HG4.out.2.below hb5))
  have HDO := Lib.hid (dorder_any c (H.out.below HB5.out) HS.out (by omega))
  clear hn5 ho5 hb5 HOR HB4 HG4
  go_wp2_with fail
  refine HDO.out.mono ?_
  rintro e w6 ⟨B6, c6, g6, rfl, hn6, ho6, hb6⟩
  have HB6 := Lib.hid (HB5.out.trans (hb6.mono HB5.out.size))
  have HG6 := Lib.hid (And.intro (HG5.out.1.below hb6) (HG5.out.2.below hb6))
  have HIN := Lib.hid (ints_same c5 c6 (HN5.out.below hb6) hn6 (ord_same HO5.out ho6))
  clear hn6 ho6 hb6 HDO HB5 HG5 HN5 HO5
  have ek : ((k : Int) != (k : Int)) = false := by simp
  go_wp2_with fail
  refine HIN.out.mono ?_
  rintro e w7 ⟨rfl, hb7⟩
  have HB7 := Lib.hid (HB6.out.trans (hb7.mono HB6.out.size))
  have HG7 := Lib.hid (And.intro (HG6.out.1.below hb7) (HG6.out.2.below hb7))
  clear hb7 HIN HB6 HG6
  go_wp2
  go_loopw [7] (fun i wr => ∃ j : Nat, j ≤ k ∧ i = .int .i64 j ∧ Below w7.heap.size w7 wr) (fun i _ => k - (intOf i).toNat)
  case atStart => exact ⟨0, Nat.zero_le _, rfl, Below.refl _ _⟩
  case round =>
    clear ek
    obtain ⟨j, hj, rfl, hd⟩ := hrel
    have HD := Lib.hid hd
    clear hd
    by_cases hlt : j < k
    · obtain ⟨b, o, D, m, d, rfl, hbl, x0, hn0⟩ := (HG7.out.1.below HD.out).at_ hlt
      obtain ⟨b', o', D', m', d', rfl, hbl', y0, hn1⟩ := (HG7.out.2.below HD.out).at_ hlt
      obtain rfl : m' = m := by rw [← hn0.1, ← hn1.1]
      have DI := Lib.hid (ints_same (w := wr.drew) d d' (hn0.nts.below (Below.refl _ _).drew) (hn1.nts.below (Below.refl _ _).drew) (fun k hk => rfl))
      clear hn0 hn1
      have bj : (0 : Int) ≤ (j : Int) := by omega
      have bj2 : (j : Int) < (k : Int) := by omega
      go_upto_region 12 with fail
      go_region_held3 (fun w' => w'.cell? ⟨b, o + j, none⟩ = some (.slice D m' d) ∧ w'.cell? ⟨b', o' + j, none⟩ = some (.slice D' m' d')) (go_keep)
        ((go_at_call 9
          (with_reducible refine DI.out.mono ?_)
          rintro e w9 ⟨rfl, hb9⟩
          have hb9 : Below wr.heap.size wr w9 := undrew hb9
          have HB9 := Lib.hid (HD.out.trans (hb9.mono HD.out.size))
          have x0 := (hb9.cell (p := ⟨b, o + j, none⟩) hbl).trans x0
          have y0 := (hb9.cell (p := ⟨b', o' + j, none⟩) hbl').trans y0
          clear hb9))
      clear DI x0 y0
      go_wp2
      go_roundw
      case rel => exact ⟨j + 1, by omega, by go_num, HB9.out⟩
      case measure => simp [intOf]; omega
    · go_wp2
      go_ret
      exact ⟨rfl, HB7.out.trans (HD.out.mono HB7.out.size)⟩

theorem orders_any {w : World} {A : Option Addr} {n : Nat} (c : Nat) {M : List Rq} (h : Reqs w A n M) :
    Calls Try.prog 3 #[.slice A n c] w fun e w' => e = .returned (.bool true) ∧ Below w.heap.size w w' := by
  cases hf : fewQ M 100
  · exact orders_let c h hf
  · exact orders_main c h hf
end Go.Proofs.Ytdhgogepjedonaa
