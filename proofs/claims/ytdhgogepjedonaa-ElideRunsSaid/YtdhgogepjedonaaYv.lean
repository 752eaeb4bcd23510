/- ElideRuns' walk. Condition: what came in can be read. -/
import Derived.Test.YtdhgogepjedonaaYu
namespace Go.Proofs.Ytdhgogepjedonaa
open Go.RowKit
set_option linter.unusedVariables false
set_option maxRecDepth 100000

set_option maxHeartbeats 4000000 in
theorem runs_let {w : World} {V A : Option Addr} {nv cv n : Nat} (c : Nat) {has room : Bool} {val : Ky} {M : List Rq} (hv : Byt w V nv val) (h : Reqs w A n M) (hf : fewQ M 50 = false ∨ (fewQ M 50 = true ∧ 100 < nv)) :
    Calls Try.prog 4 #[.bool has, .slice V nv cv, .bool room, .slice A n c] w fun e w' => e = .returned (.bool true) ∧ Below w.heap.size w w' := by
  have HUP := Lib.hid (up_any w)
  have HFX := Lib.hid (fun (w1 : World) (hb : Below w.heap.size w w1) => fewq_any c 50 (h.below hb))
  clear h hv
  rcases hf with hf | ⟨hf, hl⟩
  all_goals
    rw [hf] at HFX
    clear hf
    go_enter Try.func4, Try.ntmps4
    go_wp2_with fail
    refine HUP.out.mono ?_
    rintro e w1 ⟨rfl, hb1⟩
    have HB1 := Lib.hid hb1
    clear hb1 HUP
    go_wp2_with fail
    refine (HFX.out _ HB1.out).mono ?_
    rintro e w2 ⟨rfl, hb2⟩
    have HB2 := Lib.hid (HB1.out.trans (hb2.mono HB1.out.size))
    clear hb2 HFX
    go_wp2
    go_ret
    exact ⟨rfl, HB2.out⟩

set_option maxHeartbeats 16000000 in
theorem runs_main {w : World} {V A : Option Addr} {nv cv n : Nat} (c : Nat) {has room : Bool} {val : Ky} {M : List Rq} (hv : Byt w V nv val) (h : Reqs w A n M) (hf : fewQ M 50 = true) (hl : nv ≤ 100) :
    Calls Try.prog 4 #[.bool has, .slice V nv cv, .bool room, .slice A n c] w fun e w' => e = .returned (.bool true) ∧ Below w.heap.size w w' := by
  have HUP := Lib.hid (up_any w)
  have HFX := Lib.hid (fun (w1 : World) (hb : Below w.heap.size w w1) => fewq_any c 50 (h.below hb))
  rw [hf] at HFX
  obtain ⟨hsm, hlen⟩ := fewQ_all hf
  rw [h.1] at hsm hlen
  have H := Lib.hid h
  have HV := Lib.hid hv
  have HS := Lib.hid hsm
  have HL := Lib.hid hv.1
  have h100 : ¬ (100 < nv) := by omega
  clear h hf hsm hv
  go_enter Try.func4, Try.ntmps4
  go_wp2_with fail
  refine HUP.out.mono ?_
  rintro e w1 ⟨rfl, hb1⟩
  have HB1 := Lib.hid hb1
  clear hb1 HUP
  go_wp2_with fail
  refine (HFX.out _ HB1.out).mono ?_
  rintro e w2 ⟨rfl, hb2⟩
  have HB2 := Lib.hid (HB1.out.trans (hb2.mono HB1.out.size))
  have HRUN := Lib.hid (run_any (cv := cv) (c := c) (has := has) (room := room) (HV.out.below HB2.out) (H.out.below HB2.out) HS.out (by omega))
  clear hb2 HFX HB1
  go_wp2_with fail
  refine HRUN.out.mono ?_
  rintro e w3 ⟨t, rfl, hx3, hb3⟩
  have HB3 := Lib.hid (HB2.out.trans (hb3.mono HB2.out.size))
  have HX3 := Lib.hid hx3
  clear hx3 hb3 HRUN HB2
  go_upto_region 6 with fail
  obtain ⟨w4, hw4, hwb4, hwt4, hws4⟩ := box_t w3 t
  rw [← hw4]
  have HB4 := Lib.hid (HB3.out.trans (hwb4.mono HB3.out.size))
  have HX4 := Lib.hid (HX3.out.below hwb4)
  have HT4 := Lib.hid hwt4
  have hw34 : w3.heap.size < w4.heap.size := by omega
  clear hw4 hwb4 hwt4 hws4 HX3 HB3
  go_cut [13] (fun s wx => s = .bool (fitV has val M n 0) ∧ w4 = wx)
  case first =>
    as_aux_lemma =>
    have HF0 := Lib.hid (show fitV has val M n 0 = (decide (0 < n) && (!has || decide (nv ≤ 32))) by rw [← HL.out]; rfl)
    by_cases h0 : 0 < n
    · cases has
      · go_wp2
        go_meet
        exact ⟨by rw [HF0.out]; simp [h0], rfl⟩
      · by_cases h32 : nv ≤ 32
        all_goals
          go_wp2
          go_meet
          exact ⟨by rw [HF0.out]; first | (simp [h0, h32]; done) | (simp [h0, h32]; omega), rfl⟩
    · go_wp2
      go_meet
      exact ⟨by rw [HF0.out]; simp [h0], rfl⟩
  case rest =>
    obtain ⟨rfl, rfl⟩ := hcut
    go_wp2
    go_loopw [13, 14] (fun s i wr => ∃ j : Nat, j ≤ n ∧ s = .bool (fitV has val M n j) ∧ i = .int .i64 j ∧ Below w4.heap.size w4 wr) (fun _ i _ => n - (intOf i).toNat)
    case atStart => exact ⟨0, Nat.zero_le _, rfl, rfl, Below.refl _ _⟩
    case round =>
      obtain ⟨j, hj, rfl, rfl, hb⟩ := hrel
      have HB := Lib.hid hb
      clear hb
      by_cases hlt : j < n
      · as_aux_lemma =>
        have HNX := Lib.hid (show fitV has val M n (j + 1) = (fitV has val M n j && (mayQ (gq M j) && (!((gq M j).kind == 6) && sameB (gq M j).key (gq M 0).key))) from rfl)
        have hsj := HS.out j hlt
        have HRQ := Lib.hid (H.out.below (HB4.out.trans (HB.out.mono HB4.out.size)))
        obtain ⟨b, o, rfl, hbl, h1, x0, x1, x2, x3, x4, x5, x6, x7, hr1⟩ := HRQ.out.at_ hlt
        obtain ⟨b', o', e', -, h0, -, -, -, y3, -, -, -, -, hr0⟩ := HRQ.out.at_ (show 0 < n by omega)
        injection e' with e'
        injection e' with e1 e2
        subst e1
        subst e2
        simp only [Nat.zero_mul, Nat.add_zero] at y3
        have DM := Lib.hid (dmay_lit hr1 hsj)
        have HR := Lib.hid (And.intro hr1.1 hr0.1)
        clear hr1 hr0 hsj HRQ
        generalize fitV has val M n j = f0 at HNX ⊢
        generalize mayQ (gq M j) = mj at HNX DM
        generalize gq M j = r1 at x0 x1 x2 x3 x4 x5 x6 x7 DM HR HNX
        generalize gq M 0 = r0 at y3 HR HNX
        have b1 : (0 : Int) ≤ (j : Int) := by omega
        have b2 : (j : Int) < (n : Int) := by omega
        have b3 : (0 : Int) < (n : Int) := by omega
        have b4 : 0 < n := by omega
        go_wp2_with fail
        refine DM.out.mono ?_
        rintro e w5 ⟨rfl, hb5⟩
        have HB5 := Lib.hid (HB.out.trans (hb5.mono HB.out.size))
        have x2 := (hb5.cell (p := ⟨b, o + j * 8 + 2, none⟩) hbl).trans x2
        have x3 := (hb5.cell (p := ⟨b, o + j * 8 + 3, none⟩) hbl).trans x3
        have y3 := (hb5.cell (p := ⟨b, o + 3, none⟩) hbl).trans y3
        have s1 := fun q => run_str (c := h1.c) ((HR.out.1.below hb5).drewN q)
        have s2 := fun q => run_str (c := h0.c) ((HR.out.2.below hb5).drewN q)
        clear hb5 DM x0 x1 x4 x5 x6 x7 HR
        have hk3 : (r1.key == r0.key) = sameB r1.key r0.key := str_eq _ _
        have hn1 : (r1.kind != 6) = !(r1.kind == 6) := rfl
        generalize sameB r1.key r0.key = ks at hk3 HNX
        have hcs : f0 = false ∨ (f0 = true ∧ mj = false) ∨ (f0 = true ∧ mj = true ∧ (r1.kind == 6) = true) ∨ (f0 = true ∧ mj = true ∧ (r1.kind == 6) = false ∧ ks = false) ∨ (f0 = true ∧ mj = true ∧ (r1.kind == 6) = false ∧ ks = true) := by
          cases f0 <;> cases mj <;> cases (r1.kind == 6) <;> cases ks <;> simp
        rcases hcs with rfl | ⟨rfl, rfl⟩ | ⟨rfl, rfl, e3⟩ | ⟨rfl, rfl, e3, rfl⟩ | ⟨rfl, rfl, e3, rfl⟩
        case' inl => have HF1 := Lib.hid (show fitV has val M n (j + 1) = false by rw [HNX.out]; rfl)
        case' inr.inl => have HF1 := Lib.hid (show fitV has val M n (j + 1) = false by rw [HNX.out]; rfl)
        case' inr.inr.inl =>
          rw [e3] at hn1
          have HF1 := Lib.hid (show fitV has val M n (j + 1) = false by rw [HNX.out, e3]; rfl)
        case' inr.inr.inr.inl =>
          rw [e3] at hn1
          have HF1 := Lib.hid (show fitV has val M n (j + 1) = false by rw [HNX.out, e3]; rfl)
        case' inr.inr.inr.inr =>
          rw [e3] at hn1
          have HF1 := Lib.hid (show fitV has val M n (j + 1) = true by rw [HNX.out, e3]; rfl)
        all_goals
          go_upto_region 11 with fail
          go_quiet (fail)
          clear s1 s2 x2 x3 y3
          go_wp2
          go_roundw
          case rel => exact ⟨j + 1, by omega, by rw [HF1.out], by go_num, HB5.out.trans (Drawn.below ⟨_, rfl⟩ _)⟩
          case measure => simp [intOf]; omega
      · obtain rfl : j = n := by omega
        rw [fit_same]
        have HXW := Lib.hid (HX4.out.below HB.out)
        have HTW := Lib.hid (HT4.out.below HB.out hw34)
        have HBW := Lib.hid (HB4.out.trans (HB.out.mono HB4.out.size))
        have ee := fun w => eql_err 1 1 w
        obtain ⟨z0, z1, z2, z3⟩ := HTW.out.cells
        rcases HXW.out with ⟨hf, e1, e2, e3, e4, e5⟩ | ⟨hf, e1, e2, e3, e4, hrs, hby⟩
        · rw [hf]
          rw [e1, e2] at z0
          rw [e3] at z1
          rw [e4] at z3
          rw [e5]
          clear hf e1 e2 e3 e4 e5 HX4 HT4 HXW HTW
          go_wp2
          go_ret
          exact ⟨rfl, HBW.out⟩
        · skip
          have HFR := Lib.hid (fitr (room := room) hf)
          have hj0 : 0 < j := by
            have h2 := hf
            unfold fitR at h2
            rw [Bool.and_eq_true] at h2
            exact (isgrp_yes h2.1).1
          rw [hf, e4]
          obtain ⟨N, hN⟩ : ∃ N, N = thenQ (rowR has (gq M 0).key val) M (mostR has room) j := ⟨_, rfl⟩
          obtain ⟨R, hR⟩ : ∃ R, R = allQ (rowR has (gq M 0).key val) M (mostR has room) j := ⟨_, rfl⟩
          rw [← hN] at e2 e3 hby
          rw [← hR] at hrs
          have HALLC := Lib.hid (show ∀ (wx : World), Below w.heap.size w wx → ∀ (A8 : Option Addr) (n8 c8 : Nat), Prs wx A8 n8 c8 (rowR has (gq M 0).key val) → Calls Try.prog 14 #[.slice A8 n8 c8, .slice A j c, .int .i64 (mostR has room)] wx fun e w' => ∃ A1 n1 c1 A2 c2, e = .returned (.tuple #[.slice A1 n1 c1, .slice A2 j c2]) ∧ Prs w' A1 n1 c1 N ∧ Ress w' A2 j R ∧ Below wx.heap.size wx w' from fun wx hb A8 n8 c8 hp => by
            rw [hN, hR]
            exact dall_any hp c (H.out.below hb) HS.out HFR.out.fit (by rw [← hp.len]; have := HFR.out.len; omega) (by omega) _)
          have HN1 := Lib.hid (show N.length ≤ 1 by rw [hN]; exact HFR.out.top)
          have HCH0 := Lib.hid (show N.length = 0 → t.ch = has from fun h0 => by
            rw [e3]
            unfold chgQ rowR
            rw [if_pos h0]
            cases has <;> rfl)
          have HCH1 := Lib.hid (show N.length = 1 → t.ch = (!has || !sameB (topV N) val) from fun h0 => by
            rw [e3]
            unfold chgQ rowR
            rw [if_neg (by omega)]
            cases has <;> rfl)
          have HE1 := Lib.hid e1
          have HE2 := Lib.hid e2
          have HRS := Lib.hid hrs
          have HBY := Lib.hid hby
          have ek : ((1 : Int) == (1 : Int)) = true := by decide
          clear hf e1 e2 e3 e4 hrs hby hN hR HX4 HT4 HXW z0 z1 z2 z3 HFR
          cases has
          · cases room
            all_goals
              as_aux_lemma =>
              have HAL := Lib.hid (HALLC.out wr HBW.out none 0 0 (prs_nil wr))
              have HB8 := Lib.hid HBW.out
              have HBW8 := Lib.hid (Below.refl wr.heap.size wr)
              go_wp2_with fail
              refine HAL.out.mono ?_
              rintro e w9 ⟨A9, n1, c9, A10, c10, rfl, hp9, ha9, hb9⟩
              have hn1 : n1 ≤ 1 := by
                rw [← hp9.len]
                exact HN1.out
              have HB9 := Lib.hid (HB8.out.trans (hb9.mono HB8.out.size))
              have HBW9 := Lib.hid (HBW8.out.trans (hb9.mono HBW8.out.size))
              have HP9 := Lib.hid hp9
              have HANS := Lib.hid (answers_same t.c2 c10 (HRS.out.below HBW9.out) ha9)
              have hlen := hp9.len
              have HLN := Lib.hid hlen
              obtain ⟨z0, z1, z2, z3⟩ := (HTW.out.below HBW9.out HTW.out.lt).cells
              rw [HE1.out] at z0
              clear hp9 ha9 hb9 HAL
              rcases (show n1 = 0 ∨ n1 = 1 by omega) with h01 | h01
              · subst h01
                have HY := Lib.hid (show topV N = [] by unfold topV; rw [if_pos HLN.out])
                have HIS := Lib.hid (show t.is = false by rw [HE2.out, HLN.out]; rfl)
                have HCH := Lib.hid (HCH0.out HLN.out)
                clear hlen
                rw [HIS.out] at z1
                rw [HCH.out] at z3
                go_wp2_with fail
                refine HANS.out.mono ?_
                rintro e wa ⟨rfl, hba⟩
                have HBA := Lib.hid (HB9.out.trans (hba.mono HB9.out.size))
                have s4 := run_str (c := t.db) (HBY.out.below (HBW9.out.trans (hba.mono HBW9.out.size)))
                rw [HY.out] at s4
                obtain ⟨z0, z1, z2, z3⟩ := (HTW.out.below (HBW9.out.trans (hba.mono HBW9.out.size)) HTW.out.lt).cells
                rw [HIS.out] at z1
                rw [HCH.out] at z3
                clear hba HANS
                go_wp2
                go_ret
                exact ⟨rfl, HBA.out⟩
              · subst h01
                obtain ⟨b9, o9, e9, hb9, Ak, nk, ck, Bv, mv, dv, k0, k1, y0, y1⟩ := HP9.out.at_ (show 0 < 1 by omega)
                subst e9
                simp only [Nat.zero_mul, Nat.add_zero] at k0 k1
                have htv : (gt N 0).2 = topV N := by unfold topV; rw [if_neg (by rw [HLN.out]; omega)]
                rw [htv] at y1
                have HIS := Lib.hid (show t.is = true by rw [HE2.out, HLN.out]; rfl)
                have HCH := Lib.hid (HCH1.out HLN.out)
                have s3 := run_str (c := dv) y1
                have s5 := run_str (c := cv) (HV.out.below HB9.out)
                clear hlen htv y0 y1
                generalize topV N = tv at HBY HCH s3
                have hkv : (tv == val) = sameB tv val := str_eq _ _
                have hkw : (tv != val) = !(tv == val) := rfl
                have hkk : (tv == tv) = true := by simp
                rw [HIS.out] at z1
                cases hks : sameB tv val
                all_goals
                  rw [hks] at hkv HCH
                  rw [hkv] at hkw
                  have HZ3 := Lib.hid (show t.ch = _ from HCH.out)
                  rw [HZ3.out] at z3
                  clear hks
                  go_wp2_with fail
                  refine HANS.out.mono ?_
                  rintro e wa ⟨rfl, hba⟩
                  have HBA := Lib.hid (HB9.out.trans (hba.mono HB9.out.size))
                  have s4 := run_str (c := t.db) (HBY.out.below (HBW9.out.trans (hba.mono HBW9.out.size)))
                  obtain ⟨z0, z1, z2, z3⟩ := (HTW.out.below (HBW9.out.trans (hba.mono HBW9.out.size)) HTW.out.lt).cells
                  rw [HIS.out] at z1
                  rw [HZ3.out] at z3
                  clear hba HANS s3 s5
                  go_wp2
                  go_ret
                  exact ⟨rfl, HBA.out⟩
          · as_aux_lemma =>
            obtain ⟨b, o, rfl, hbl, h0, -, -, -, k3, -, -, -, -, hr0⟩ := (H.out.below HBW.out).at_ hj0
            simp only [Nat.zero_mul, Nat.add_zero] at k3
            have HK := Lib.hid hr0.1
            have b0 : (0 : Int) < (j : Int) := by omega
            obtain ⟨i0, hi, hz0, hz1, hz2⟩ := info_parts Try.infoPair
            have HI := Lib.hid hi
            have HZ := Lib.hid (And.intro hz0 (And.intro hz1 hz2))
            have W7 := Lib.hid ((Below.refl wr.heap.size wr).alloc (Nat.le_refl _) (.cells #[.slice h0.A h0.n h0.c, .slice V nv cv] 45))
            clear hi hz0 hz1 hz2 hr0
            go_wp2_with (at_builtin; refine wpList_append_own _ rfl _ _ 43 rfl w.heap.size 45 i0 (.agg #[.slice none 0 0, .slice none 0 0]) 2 48 Try.underlying43 HI.out HZ.out.1 HZ.out.2.1 HZ.out.2.2 rfl (by decide) (.slice none 0 0) 0 [] rfl (World.ownsRow_nil _ _ _ _) ⟨wr.heap.size, 0, none⟩ 1 1 [.slice h0.A h0.n h0.c, .slice V nv cv] rfl rfl two_cells ?c2 (by unfold maxLen; omega) (by omega) (Nat.le_trans HBW.out.size W7.out.size) ?_)
            case c2 => first | rfl | (intro u hu; simp at hu; rcases hu with rfl | rfl <;> rfl)
            intro v8 w8 hown8 hg8 hnil
            have hb8 : Below wr.heap.size wr w8 := W7.out.grown hg8 W7.out.size (by intro k hk; cases hk)
            obtain ⟨A8, c8, rfl, hp8, -⟩ := own_prs (L := [((gq M 0).key, val)]) (by simpa using hown8) (reads_one h0.c cv (HK.out.below hb8) (HV.out.below (HBW.out.trans (hb8.mono HBW.out.size))))
            have HAL := Lib.hid (HALLC.out w8 (HBW.out.trans (hb8.mono HBW.out.size)) A8 1 c8 hp8)
            have HB8 := Lib.hid (HBW.out.trans (hb8.mono HBW.out.size))
            have HBW8 := Lib.hid hb8
            clear hown8 hg8 hnil hb8 hp8 k3
            go_wp2_with fail
            refine HAL.out.mono ?_
            rintro e w9 ⟨A9, n1, c9, A10, c10, rfl, hp9, ha9, hb9⟩
            have hn1 : n1 ≤ 1 := by
              rw [← hp9.len]
              exact HN1.out
            have HB9 := Lib.hid (HB8.out.trans (hb9.mono HB8.out.size))
            have HBW9 := Lib.hid (HBW8.out.trans (hb9.mono HBW8.out.size))
            have HP9 := Lib.hid hp9
            have HANS := Lib.hid (answers_same t.c2 c10 (HRS.out.below HBW9.out) ha9)
            have hlen := hp9.len
            have HLN := Lib.hid hlen
            obtain ⟨z0, z1, z2, z3⟩ := (HTW.out.below HBW9.out HTW.out.lt).cells
            rw [HE1.out] at z0
            clear hp9 ha9 hb9 HAL
            rcases (show n1 = 0 ∨ n1 = 1 by omega) with h01 | h01
            · subst h01
              have HY := Lib.hid (show topV N = [] by unfold topV; rw [if_pos HLN.out])
              have HIS := Lib.hid (show t.is = false by rw [HE2.out, HLN.out]; rfl)
              have HCH := Lib.hid (HCH0.out HLN.out)
              clear hlen
              rw [HIS.out] at z1
              rw [HCH.out] at z3
              go_wp2_with fail
              refine HANS.out.mono ?_
              rintro e wa ⟨rfl, hba⟩
              have HBA := Lib.hid (HB9.out.trans (hba.mono HB9.out.size))
              have s4 := run_str (c := t.db) (HBY.out.below (HBW9.out.trans (hba.mono HBW9.out.size)))
              rw [HY.out] at s4
              obtain ⟨z0, z1, z2, z3⟩ := (HTW.out.below (HBW9.out.trans (hba.mono HBW9.out.size)) HTW.out.lt).cells
              rw [HIS.out] at z1
              rw [HCH.out] at z3
              clear hba HANS
              go_wp2
              go_ret
              exact ⟨rfl, HBA.out⟩
            · subst h01
              obtain ⟨b9, o9, e9, hb9, Ak, nk, ck, Bv, mv, dv, k0, k1, y0, y1⟩ := HP9.out.at_ (show 0 < 1 by omega)
              subst e9
              simp only [Nat.zero_mul, Nat.add_zero] at k0 k1
              have htv : (gt N 0).2 = topV N := by unfold topV; rw [if_neg (by rw [HLN.out]; omega)]
              rw [htv] at y1
              have HIS := Lib.hid (show t.is = true by rw [HE2.out, HLN.out]; rfl)
              have HCH := Lib.hid (HCH1.out HLN.out)
              have s3 := run_str (c := dv) y1
              have s5 := run_str (c := cv) (HV.out.below HB9.out)
              clear hlen htv y0 y1
              generalize topV N = tv at HBY HCH s3
              have hkv : (tv == val) = sameB tv val := str_eq _ _
              have hkw : (tv != val) = !(tv == val) := rfl
              have hkk : (tv == tv) = true := by simp
              rw [HIS.out] at z1
              cases hks : sameB tv val
              all_goals
                rw [hks] at hkv HCH
                rw [hkv] at hkw
                have HZ3 := Lib.hid (show t.ch = _ from HCH.out)
                rw [HZ3.out] at z3
                clear hks
                go_wp2_with fail
                refine HANS.out.mono ?_
                rintro e wa ⟨rfl, hba⟩
                have HBA := Lib.hid (HB9.out.trans (hba.mono HB9.out.size))
                have s4 := run_str (c := t.db) (HBY.out.below (HBW9.out.trans (hba.mono HBW9.out.size)))
                obtain ⟨z0, z1, z2, z3⟩ := (HTW.out.below (HBW9.out.trans (hba.mono HBW9.out.size)) HTW.out.lt).cells
                rw [HIS.out] at z1
                rw [HZ3.out] at z3
                clear hba HANS s3 s5
                go_wp2
                go_ret
                exact ⟨rfl, HBA.out⟩

theorem runs_any {w : World} {V A : Option Addr} {nv cv n : Nat} (c : Nat) {has room : Bool} {val : Ky} {M : List Rq} (hv : Byt w V nv val) (h : Reqs w A n M) :
    Calls Try.prog 4 #[.bool has, .slice V nv cv, .bool room, .slice A n c] w fun e w' => e = .returned (.bool true) ∧ Below w.heap.size w w' := by
  cases hf : fewQ M 50
  · exact runs_let c hv h (.inl hf)
  by_cases hl : nv ≤ 100
  · exact runs_main c hv h hf hl
  · exact runs_let c hv h (.inr ⟨hf, by omega⟩)
end Go.Proofs.Ytdhgogepjedonaa
