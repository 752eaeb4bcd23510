/- The contract of package omap's All. Condition: a row of no more than 500 pairs, no more than 300 requests, whose slices have at most 100 bytes; what came in can be read. -/
import Derived.Test.YtdhgogepjedonaaWk
namespace Go.Proofs.Ytdhgogepjedonaa
open Go.RowKit
set_option linter.unusedVariables false
set_option maxRecDepth 100000

set_option maxHeartbeats 16000000 in
theorem all_any {w : World} {A : Option Addr} {n c : Nat} {L : List Pr} (hp : Prs w A n c L) {B : Option Addr} {m : Nat} (d : Nat) {M : List Rq} (hq : Reqs w B m M) (hs : ∀ j, j < m → smallQ (gq M j) = true) (hfit : Fit L) (hn : n ≤ 500) (hm : m ≤ 300) (most : Int) :
    Calls Try.prog 24 #[.slice A n c, .slice B m d, .int .i64 most] w fun e w' => ∃ A1 n1 c1 A2 c2, e = .returned (.tuple #[.slice A1 n1 c1, .slice A2 m c2]) ∧ Prs w' A1 n1 c1 (thenQ L M most m) ∧ Ress w' A2 m (allQ L M most m) ∧ Below w.heap.size w w' := by
  obtain ⟨i0, hi, hz0, hz1, hz2⟩ := info_parts Try.infoRes
  have HI := Lib.hid hi
  have HZ := Lib.hid (And.intro hz0 (And.intro hz1 hz2))
  clear hi hz0 hz1 hz2
  have HC := Lib.hid (copied_any hp (small_fit hfit) (by omega))
  have HQ := Lib.hid hq
  have HS := Lib.hid hs
  have HF := Lib.hid hfit
  have hl : L.length ≤ 500 := by rw [hp.len]; exact hn
  clear hp hq hs hfit
  go_enter Try.func24, Try.ntmps24
  go_wp2_with fail
  refine HC.out.mono ?_
  rintro e w0 ⟨A0, n0, c0, rfl, hp0, hb0⟩
  have HST := Lib.hid (show AllI w L M most 0 (.slice A0 n0 c0) (.slice none 0 0) w0 from ⟨A0, n0, c0, rfl, hp0.mono (fun b hb k hk => by cases hk), growsS_nil _ _, hb0⟩)
  clear HC hp0 hb0
  go_wp2
  go_loopw [8, 9, 18] (fun l a i wr => ∃ j : Nat, j ≤ m ∧ i = .int .i64 j ∧ AllI w L M most j l a wr) (fun _ _ i _ => m - (intOf i).toNat)
  case atStart => exact ⟨0, Nat.zero_le _, rfl, HST.out⟩
  case round =>
    obtain ⟨j, hj, rfl, A1, n1, c1, rfl, hp1, hg1, hb1⟩ := hrel
    have HP1 := Lib.hid hp1
    have HG1 := Lib.hid hg1
    have HB1 := Lib.hid hb1
    have hlen := hp1.here.len
    have hfl := then_len L M most j
    have hn1 : n1 ≤ 900 := by omega
    have HFT := Lib.hid (then_fit HF.out M most j)
    clear hp1 hg1 hb1 HST hlen hfl
    by_cases hlt : j < m
    · obtain ⟨b, oo, rfl, hbl, h, k0, k1, k2, k3, k4, k5, k6, k7, hr⟩ := (HQ.out.below HB1.out).at_ hlt
      have hsm := HS.out j hlt
      obtain ⟨r, hre⟩ : ∃ r, r = gq M j := ⟨_, rfl⟩
      rw [← hre] at k0 k1 k2 k7 hr hsm
      have HRE := Lib.hid hre
      have HSM := Lib.hid hsm
      have HR := Lib.hid hr
      clear hre hsm hr
      go_upto_region 6 with fail
      obtain ⟨w1, hw1, hwb1, hwq1, hws1⟩ := box_q _ h r
      rw [← hw1]
      have HB2 := Lib.hid (HB1.out.trans (hwb1.mono HB1.out.size))
      have HQ2 := Lib.hid hwq1
      have HANS := Lib.hid (ans_lit (HP1.out.here.below hwb1) (HR.out.below hwb1) HSM.out HFT.out hn1 most)
      have hwr : wr.heap.size < w1.heap.size := by omega
      have HHW := Lib.hid hwb1
      have HFA := Lib.hid (fun (hw : (ansQ (thenQ L M most j) r most).2 = true) => may_fair (ans_writes hw).1 (reads6 (ans_writes hw).2.1).1)
      have HNX := Lib.hid (show thenQ L M most (j + 1) = if (ansQ (thenQ L M most j) r most).2 then writeQ (thenQ L M most j) r else thenQ L M most j by rw [HRE.out]; rfl)
      have HAX := Lib.hid (show allQ L M most (j + 1) = allQ L M most j ++ [(ansQ (thenQ L M most j) r most).1] by rw [HRE.out]; rfl)
      obtain ⟨q0, q1, q2, q3, q4, q5, q6, q7⟩ := hwq1.cells
      clear hw1 hwb1 hwq1 hws1 k0 k1 k2 k3 k4 k5 k6 k7
      generalize ansQ (thenQ L M most j) r most = res at HANS HFA HNX HAX
      obtain ⟨s, fl⟩ := res
      dsimp only at HANS HFA HNX HAX
      go_wp2_with fail
      refine HANS.out.mono ?_
      rintro e w2 ⟨h9, rfl, ho9, hb2⟩
      have HO9 := Lib.hid ho9
      have HB3 := Lib.hid (HB2.out.trans (hb2.mono HB2.out.size))
      have HW2 := Lib.hid (HHW.out.trans (hb2.mono HHW.out.size))
      have HQ3 := Lib.hid (HQ2.out.below hb2 (by omega))
      have hw2 : w1.heap.size ≤ w2.heap.size := hb2.size
      clear ho9 hb2 HANS HB2 HQ2 HHW q0 q1 q2 q3 q4 q5 q6 q7
      go_upto_region 7 with fail
      obtain ⟨w3, hw3, hwb3, hws3, hsz3⟩ := box_s w2 h9 s
      rw [← hw3]
      have HB4 := Lib.hid (HB3.out.trans (hwb3.mono HB3.out.size))
      have HW3 := Lib.hid (HW2.out.trans (hwb3.mono HW2.out.size))
      have HQ4 := Lib.hid (HQ3.out.below hwb3 (by omega))
      have HO4 := Lib.hid (HO9.out.keep (below_all hwb3))
      have HS4 := Lib.hid hws3
      have hw23 : w2.heap.size < w3.heap.size := by omega
      clear hw3 hwb3 hws3 hsz3 HB3 HW2 HQ3 HO9
      cases fl
      · have HB5 := Lib.hid HB4.out
        have HW5 := Lib.hid HW3.out
        have HO5 := Lib.hid HO4.out
        have HS5 := Lib.hid HS4.out
        clear HB4 HW3 HO4 HS4 HQ4 HFA
        obtain ⟨t0, t1, t2, t3, t4, -, -, -, -, -⟩ := HS5.out.cells
        have HG5 := Lib.hid (HG1.out.below HW5.out)
        obtain ⟨xs, hown, hrd⟩ := HG5.out
        have O5 := Lib.hid (hown.alloc (.cells #[.int .i64 s.code, .bool s.found, .slice h9.A h9.n h9.c, .slice h9.B h9.m h9.d, .int .u64 0] 52))
        have R5 := Lib.hid hrd
        have B5 := Lib.hid ((Below.refl w3.heap.size w3).alloc (Nat.le_refl _) (.cells #[.int .i64 s.code, .bool s.found, .slice h9.A h9.n h9.c, .slice h9.B h9.m h9.d, .int .u64 0] 52))
        have hsz5 := HB5.out.size
        clear hown hrd
        go_wp2_with (at_builtin; refine wpList_append_own_at _ rfl _ _ 32 rfl w.heap.size 52 i0 (.agg #[.int .i64 0, .bool false, .slice none 0 0, .slice none 0 0, .int .u64 0]) 5 72 Try.underlying32 HI.out HZ.out.1 HZ.out.2.1 HZ.out.2.2 rfl (by decide) u9 j xs rfl O5.out ⟨w3.heap.size, 0, none⟩ 1 1 [.int .i64 s.code, .bool s.found, .slice h9.A h9.n h9.c, .slice h9.B h9.m h9.d, .int .u64 0] rfl rfl five_cells ?c2 ?c3 ?c4 ?c5 ?_)
        case c2 => intro u hu; simp at hu; rcases hu with rfl | rfl | rfl | rfl | rfl <;> rfl
        case c3 => unfold maxLen; omega
        case c4 => omega
        case c5 => rw [alloc_sz]; omega
        intro v' w6 hown6 hg6 hnil hat
        rw [← alloc_sz w3 (.cells #[.int .i64 s.code, .bool s.found, .slice h9.A h9.n h9.c, .slice h9.B h9.m h9.d, .int .u64 0] 52)] at hat
        have hoff := off_new HG1.out (B := wr.heap.size) (Nat.le_refl _)
        have HNEXT := Lib.hid (show AllI w L M most (j + 1) (.slice A1 n1 c1) v' w6 from by
          refine ⟨_, _, _, rfl, ?_, ?_, ?_⟩
          · rw [HNX.out]
            exact grow_on ((HP1.out.keep (below_all HW5.out)).keep (below_all B5.out)) (fun b hb => hb) hg6 hat
          · rw [HAX.out]
            exact GrowsS.more (R5.out.imp fun hh s ho => ho.keep (below_all B5.out)) (((HO5.out.mono (C' := Off u9) (fun b hb => hoff b (by omega)))).keep (below_all B5.out)) hown6 hg6 hat
          · exact (HB5.out.trans (B5.out.mono HB5.out.size)).grown hg6 (by rw [alloc_sz]; omega) (fun k hk => (HG1.out.lt k hk).2))
        clear hown6 hg6 hnil hat hoff O5 R5 B5 HG5 HB5 HW5 HO5 HS5 t0 t1 t2 t3 t4
        go_wp2
        go_roundw
        case rel => exact ⟨j + 1, by omega, by go_num, HNEXT.out⟩
        case measure => simp [intOf]; omega
      · obtain ⟨q0, q1, q2, q3, q4, q5, q6, q7⟩ := HQ4.out.cells
        have HWR := Lib.hid (written_lit (HP1.out.here.below HW3.out) (HR.out.below HW3.out) HSM.out (HFA.out rfl).2.2.2.2.2 HFT.out hn1)
        clear HFA
        go_wp2_with fail
        refine HWR.out.mono ?_
        rintro e w4 ⟨A4, n4, c4, rfl, hp4, hb4⟩
        have HP4 := Lib.hid hp4
        have HB5 := Lib.hid (HB4.out.trans (hb4.mono HB4.out.size))
        have HW5 := Lib.hid (HW3.out.trans (hb4.mono HW3.out.size))
        have HO5 := Lib.hid (HO4.out.keep (below_all hb4))
        have HS5 := Lib.hid (HS4.out.below hb4 hw23)
        have hw34 := hb4.size
        clear hp4 hb4 HWR HB4 HW3 HO4 HS4 HQ4 q0 q1 q2 q3 q4 q5 q6 q7
        obtain ⟨t0, t1, t2, t3, t4, -, -, -, -, -⟩ := HS5.out.cells
        have HG5 := Lib.hid (HG1.out.below HW5.out)
        obtain ⟨xs, hown, hrd⟩ := HG5.out
        have O5 := Lib.hid (hown.alloc (.cells #[.int .i64 s.code, .bool s.found, .slice h9.A h9.n h9.c, .slice h9.B h9.m h9.d, .int .u64 0] 52))
        have R5 := Lib.hid hrd
        have B5 := Lib.hid ((Below.refl w4.heap.size w4).alloc (Nat.le_refl _) (.cells #[.int .i64 s.code, .bool s.found, .slice h9.A h9.n h9.c, .slice h9.B h9.m h9.d, .int .u64 0] 52))
        have hsz5 := HB5.out.size
        clear hown hrd
        go_wp2_with (at_builtin; refine wpList_append_own_at _ rfl _ _ 32 rfl w.heap.size 52 i0 (.agg #[.int .i64 0, .bool false, .slice none 0 0, .slice none 0 0, .int .u64 0]) 5 72 Try.underlying32 HI.out HZ.out.1 HZ.out.2.1 HZ.out.2.2 rfl (by decide) u9 j xs rfl O5.out ⟨w4.heap.size, 0, none⟩ 1 1 [.int .i64 s.code, .bool s.found, .slice h9.A h9.n h9.c, .slice h9.B h9.m h9.d, .int .u64 0] rfl rfl five_cells ?c2 ?c3 ?c4 ?c5 ?_)
        case c2 => intro u hu; simp at hu; rcases hu with rfl | rfl | rfl | rfl | rfl <;> rfl
        case c3 => unfold maxLen; omega
        case c4 => omega
        case c5 => rw [alloc_sz]; omega
        intro v' w6 hown6 hg6 hnil hat
        rw [← alloc_sz w4 (.cells #[.int .i64 s.code, .bool s.found, .slice h9.A h9.n h9.c, .slice h9.B h9.m h9.d, .int .u64 0] 52)] at hat
        have hoff := off_new HG1.out (B := wr.heap.size) (Nat.le_refl _)
        have HNEXT := Lib.hid (show AllI w L M most (j + 1) (.slice A4 n4 c4) v' w6 from by
          refine ⟨_, _, _, rfl, ?_, ?_, ?_⟩
          · rw [HNX.out]
            exact grow_on (HP4.out.keep (below_all B5.out)) (fun b hb => hoff b (by omega)) hg6 hat
          · rw [HAX.out]
            exact GrowsS.more (R5.out.imp fun hh s ho => ho.keep (below_all B5.out)) (((HO5.out.mono (C' := Off u9) (fun b hb => hoff b (by omega)))).keep (below_all B5.out)) hown6 hg6 hat
          · exact (HB5.out.trans (B5.out.mono HB5.out.size)).grown hg6 (by rw [alloc_sz]; omega) (fun k hk => (HG1.out.lt k hk).2))
        clear hown6 hg6 hnil hat hoff O5 R5 B5 HG5 HB5 HW5 HO5 HS5 t0 t1 t2 t3 t4
        go_wp2
        go_roundw
        case rel => exact ⟨j + 1, by omega, by go_num, HNEXT.out⟩
        case measure => simp [intOf]; omega
    · obtain rfl : j = m := by omega
      obtain ⟨A2, c2, rfl, hrs⟩ := HG1.out.ress
      have HRS := Lib.hid hrs
      clear hrs
      go_wp2
      refine bodyPost_ret (v := .tuple #[.slice A1 n1 c1, .slice A2 j c2]) (by simp [results, Try.results24, go_sem]) rfl ⟨A1, n1, c1, A2, c2, rfl, HP1.out.here, HRS.out, HB1.out⟩
end Go.Proofs.Ytdhgogepjedonaa
