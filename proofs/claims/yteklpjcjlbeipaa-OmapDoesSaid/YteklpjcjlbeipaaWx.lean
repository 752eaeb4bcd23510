/- OmapDoes' walk. Condition: what came in can be read. -/
import Derived.Test.YteklpjcjlbeipaaWw
namespace Go.Proofs.Yteklpjcjlbeipaa
open Go.RowKit
set_option linter.unusedVariables false
set_option maxRecDepth 100000

set_option maxHeartbeats 8000000 in
/-- Where nothing is asked. -/
theorem does_let {w : World} {A : Option Addr} {n c : Nat} {L : List Pr} {B : Option Addr} {m : Nat} (d : Nat) {M : List Rq} (hp : Prs w A n c L) (hq : Reqs w B m M) (most : Int) (hl : fewB L 100 = false ∨ (fewB L 100 = true ∧ fewQ M 100 = false)) :
    Calls Try.prog 3 #[.slice A n c, .slice B m d, .int .i64 most] w fun e w' => e = .returned (.bool true) ∧ Below w.heap.size w w' := by
  have HUP := Lib.hid (up_any w)
  have HFX := Lib.hid (fun (w1 : World) (hb : Below w.heap.size w w1) => few_any (w := w1) 100 (hp.below hb))
  have HQX := Lib.hid (fun (w1 : World) (hb : Below w.heap.size w w1) => fewq_any (w := w1) d 100 (hq.below hb))
  clear hp hq
  rcases hl with hf | ⟨hf, hs⟩
  case' inl => generalize fewQ M 100 = sm at HQX
  case' inr =>
    rw [hs] at HQX
    clear hs
  all_goals
    rw [hf] at HFX
    clear hf
    go_enter Try.func3, Try.ntmps3
    go_wp2_with fail
    refine HUP.out.mono ?_
    rintro e w1 ⟨rfl, hb1⟩
    have HB1 := Lib.hid hb1
    clear HUP hb1
    go_wp2_with fail
    refine (HFX.out _ HB1.out).mono ?_
    rintro e w2 ⟨rfl, rfl⟩
    clear HFX
    go_wp2_with fail
    refine (HQX.out _ HB1.out).mono ?_
    rintro e w2 ⟨rfl, hb2⟩
    have HB2 := Lib.hid (HB1.out.trans (hb2.mono HB1.out.size))
    clear HQX hb2
    go_wp2
    go_ret
    exact ⟨rfl, HB2.out⟩

set_option maxHeartbeats 16000000 in
theorem does_main {w : World} {A : Option Addr} {n c : Nat} {L : List Pr} {B : Option Addr} {m : Nat} (d : Nat) {M : List Rq} (hp : Prs w A n c L) (hq : Reqs w B m M) (most : Int) (hf : fewB L 100 = true) (hs : fewQ M 100 = true) :
    Calls Try.prog 3 #[.slice A n c, .slice B m d, .int .i64 most] w fun e w' => e = .returned (.bool true) ∧ Below w.heap.size w w' := by
  have HUP := Lib.hid (up_any w)
  have HFX := Lib.hid (fun (w1 : World) (hb : Below w.heap.size w w1) => few_any (w := w1) 100 (hp.below hb))
  have HQX := Lib.hid (fun (w1 : World) (hb : Below w.heap.size w w1) => fewq_any (w := w1) d 100 (hq.below hb))
  rw [hf] at HFX
  rw [hs] at HQX
  have hqa := fewQ_all hs
  have hm : m ≤ 100 := by rw [← hq.1]; exact hqa.2
  have HSQ := Lib.hid (show ∀ j, j < m → smallQ (gq M j) = true from fun j hj => hqa.1 j (by rw [hq.1]; exact hj))
  have hrf := row_facts hf
  have HFT := Lib.hid hrf.1
  have HRL := Lib.hid hrf.2
  have HSM := Lib.hid (few_small hf)
  have hn : n ≤ 100 := by rw [← hp.len]; exact (few_small hf).2
  have HP := Lib.hid hp
  have HQ := Lib.hid hq
  clear hp hq hf hs hqa hrf
  go_enter Try.func3, Try.ntmps3
  go_wp2_with fail
  refine HUP.out.mono ?_
  rintro e w1 ⟨rfl, hb1⟩
  have HB1 := Lib.hid hb1
  clear HUP hb1
  go_wp2_with fail
  refine (HFX.out _ HB1.out).mono ?_
  rintro e w2 ⟨rfl, rfl⟩
  clear HFX
  go_wp2_with fail
  refine (HQX.out _ HB1.out).mono ?_
  rintro e w2 ⟨rfl, hb2⟩
  have HB2 := Lib.hid (HB1.out.trans (hb2.mono HB1.out.size))
  have HRW := Lib.hid (rrow_any (HP.out.below HB2.out) HSM.out.1 (by omega))
  clear HQX hb2 HB1
  go_wp2_with fail
  refine HRW.out.mono ?_
  rintro e w3 ⟨A3, n3, c3, rfl, hp3, hb3⟩
  have HP3 := Lib.hid hp3
  have HB3 := Lib.hid (HB2.out.trans (hb3.mono HB2.out.size))
  have hn3 : n3 ≤ 100 := by rw [← hp3.len]; exact HRL.out
  have HA3 := Lib.hid (all_any hp3 d (HQ.out.below HB3.out) HSQ.out HFT.out (by omega) (by omega) most)
  clear HRW hp3 hb3 HB2
  go_wp2_with fail
  refine HA3.out.mono ?_
  rintro e w4 ⟨A4, n4, c4, A5, c5, rfl, hp4, hr4, hb4⟩
  have HP4 := Lib.hid hp4
  have HR4 := Lib.hid hr4
  have HB4 := Lib.hid (HB3.out.trans (hb4.mono HB3.out.size))
  have HP34 := Lib.hid (HP3.out.below hb4)
  have HA4 := Lib.hid (dall_any HP34.out d (HQ.out.below HB4.out) HSQ.out HFT.out (by omega) (by omega) most)
  clear HA3 hp4 hr4 hb4 HB3 HP3
  go_wp2_with fail
  refine HA4.out.mono ?_
  rintro e w5 ⟨A6, n6, c6, A7, c7, rfl, hp5, hr5, hb5⟩
  have HB5 := Lib.hid (HB4.out.trans (hb5.mono HB4.out.size))
  have HP35 := Lib.hid (HP34.out.below hb5)
  have HPR := Lib.hid (pairs_same (HP4.out.below hb5) hp5)
  have HAN := Lib.hid (fun (w6 : World) (hb : Below w5.heap.size w5 w6) => answers_same c5 c7 ((HR4.out.below hb5).below hb) (hr5.below hb))
  clear HA4 hp5 hr5 hb5 HB4 HP34 HP4 HR4
  go_wp2_with fail
  refine HPR.out.mono ?_
  rintro e w6 ⟨rfl, hd6⟩
  have HB6 := Lib.hid (HB5.out.trans ((hd6.bel w5.heap.size).mono HB5.out.size))
  have HP36 := Lib.hid (HP35.out.below (hd6.bel w5.heap.size))
  have HAN6 := Lib.hid (HAN.out w6 (hd6.bel w5.heap.size))
  clear HPR HAN hd6 HB5 HP35
  go_wp2_with fail
  refine HAN6.out.mono ?_
  rintro e w7 ⟨rfl, hb7⟩
  have HB7 := Lib.hid (HB6.out.trans (hb7.mono HB6.out.size))
  have HP7 := Lib.hid (HP36.out.below hb7)
  clear HAN6 hb7 HB6 HP36
  go_wp2
  go_loopw [15] (fun i wr => ∃ j : Nat, j ≤ m ∧ i = .int .i64 j ∧ Below w7.heap.size w7 wr) (fun i _ => m - (intOf i).toNat)
  case atStart => exact ⟨0, Nat.zero_le _, rfl, Below.refl _ _⟩
  case round =>
    obtain ⟨j, hj, rfl, hd⟩ := hrel
    have HD := Lib.hid hd
    have HBR := Lib.hid (HB7.out.trans (hd.mono HB7.out.size))
    clear hd
    by_cases hlt : j < m
    · obtain ⟨b, oo, rfl, hbl, h, k0, k1, k2, k3, k4, k5, k6, k7, hr⟩ := (HQ.out.below HBR.out).at_ hlt
      have hsm := HSQ.out j hlt
      obtain ⟨r, hre⟩ : ∃ r, r = gq M j := ⟨_, rfl⟩
      rw [← hre] at k0 k1 k2 k7 hr hsm
      have HKB : Hid (∀ w9, Below wr.heap.size wr w9 → w9.cell? ⟨b, oo + j * 8, none⟩ = some (.int .i64 r.cl) ∧ w9.cell? ⟨b, oo + j * 8 + 1, none⟩ = some (.int .i64 r.sq) ∧ w9.cell? ⟨b, oo + j * 8 + 2, none⟩ = some (.int .i64 r.kind) ∧ w9.cell? ⟨b, oo + j * 8 + 3, none⟩ = some (.slice h.A h.n h.c) ∧ w9.cell? ⟨b, oo + j * 8 + 4, none⟩ = some (.slice h.B h.m h.d) ∧ w9.cell? ⟨b, oo + j * 8 + 5, none⟩ = some (.slice h.C h.o h.p) ∧ w9.cell? ⟨b, oo + j * 8 + 6, none⟩ = some (.slice h.D h.q h.s) ∧ w9.cell? ⟨b, oo + j * 8 + 7, none⟩ = some (.int .i64 r.limit)) := Lib.hid fun w9 hb => ⟨(hb.cell (p := ⟨b, oo + j * 8, none⟩) hbl).trans k0, (hb.cell (p := ⟨b, oo + j * 8 + 1, none⟩) hbl).trans k1, (hb.cell (p := ⟨b, oo + j * 8 + 2, none⟩) hbl).trans k2, (hb.cell (p := ⟨b, oo + j * 8 + 3, none⟩) hbl).trans k3, (hb.cell (p := ⟨b, oo + j * 8 + 4, none⟩) hbl).trans k4, (hb.cell (p := ⟨b, oo + j * 8 + 5, none⟩) hbl).trans k5, (hb.cell (p := ⟨b, oo + j * 8 + 6, none⟩) hbl).trans k6, (hb.cell (p := ⟨b, oo + j * 8 + 7, none⟩) hbl).trans k7⟩
      have HR := Lib.hid hr
      have HSM1 := Lib.hid hsm
      have HM1 := may_lit (w := wr.drew) (hr.below (Below.refl _ _).drew) hsm
      have HM2 := Lib.hid (fun (w9 : World) (hb : Below wr.heap.size wr w9) => dmay_lit (hr.below hb) hsm)
      have HM1b := Lib.hid (fun (w9 : World) (hb : Below wr.heap.size wr w9) => may_lit (hr.below hb) hsm)
      have HRD := Lib.hid (fun (w9 : World) => reads_lit w9 h r)
      have hrq : readsQ r = (r.kind == 1 || r.kind == 6) := by
        unfold readsQ
        rw [Bool.eq_iff_iff]
        simp
      rw [hrq] at HRD
      obtain ⟨mb, hmb⟩ : ∃ mb, mb = mayQ r := ⟨_, rfl⟩
      rw [← hmb] at HM1 HM2 HM1b
      have hbne : (mb != mb) = false := by cases mb <;> rfl
      have D := Lib.hid HM1
      have D' := Lib.hid (HM2.out wr.drew (Below.refl _ _).drew)
      clear hre hr hsm hrq hmb HM1
      cases q1 : (r.kind == 1)
      · rw [q1, Bool.false_or] at HRD
        have hbne2 : ((r.kind == 6) != (r.kind == 6)) = false := by cases (r.kind == 6) <;> rfl
        go_upto_region 14 with fail
        go_region_held3 (fun w' => w'.cell? ⟨b, oo + j * 8, none⟩ = some (.int .i64 r.cl) ∧ w'.cell? ⟨b, oo + j * 8 + 1, none⟩ = some (.int .i64 r.sq) ∧ w'.cell? ⟨b, oo + j * 8 + 2, none⟩ = some (.int .i64 r.kind) ∧ w'.cell? ⟨b, oo + j * 8 + 3, none⟩ = some (.slice h.A h.n h.c) ∧ w'.cell? ⟨b, oo + j * 8 + 4, none⟩ = some (.slice h.B h.m h.d) ∧ w'.cell? ⟨b, oo + j * 8 + 5, none⟩ = some (.slice h.C h.o h.p) ∧ w'.cell? ⟨b, oo + j * 8 + 6, none⟩ = some (.slice h.D h.q h.s) ∧ w'.cell? ⟨b, oo + j * 8 + 7, none⟩ = some (.int .i64 r.limit)) (go_keep)
          (first
            | (go_at_call 14
               (with_reducible refine D.out.mono ?_)
               rintro e w8 ⟨rfl, hb8⟩
               have hb8 : Below wr.heap.size wr w8 := undrew hb8
               have HB8 := Lib.hid hb8
               obtain ⟨k0, k1, k2, k3, k4, k5, k6, k7⟩ := HKB.out w8 hb8
               have E := Lib.hid (HM2.out w8 hb8)
               clear hb8)
            | (go_at_call 15
               (with_reducible refine E.out.mono ?_)
               rintro e w9 ⟨rfl, hb9⟩
               have hb9 : Below wr.heap.size wr w9 := HB8.out.trans (hb9.mono HB8.out.size)
               have HB9 := Lib.hid hb9
               obtain ⟨k0, k1, k2, k3, k4, k5, k6, k7⟩ := HKB.out w9 hb9
               have F := Lib.hid (HRD.out w9)
               clear hb9)
            | (go_at_call 16
               (with_reducible refine F.out.mono ?_)
               rintro e w10 ⟨rfl, hb10⟩
               have hb10 : Below wr.heap.size wr w10 := HB9.out.trans (hb10.mono HB9.out.size)
               have HB10 := Lib.hid hb10
               obtain ⟨k0, k1, k2, k3, k4, k5, k6, k7⟩ := HKB.out w10 hb10
               clear hb10))
        have HBW := Lib.hid (HD.out.trans (HB10.out.mono HD.out.size))
        have HP10 := Lib.hid (HP7.out.below HBW.out)
        have HDO := Lib.hid (do_lit HP10.out (HR.out.below HB10.out) HSM1.out HFT.out (by omega) most)
        have HDD := Lib.hid (fun (w12 : World) (hb : Below w10.heap.size w10 w12) => ddo_lit (E := (· < w12.heap.size)) (prs_old (HP10.out.below hb)) (rqr_old ((HR.out.below HB10.out).below hb)) (fun b hb => hb) HSM1.out HFT.out (by omega) most)
        generalize ansQ (rowL L) r most = res at HDO HDD
        generalize nextQ (rowL L) r most = N at HDO HDD
        obtain ⟨st, fl⟩ := res
        dsimp only at HDO HDD
        clear D D' E F HM1b HM2 HRD hbne HP10 HB8 HB9 HSM1 hbl
        go_wp2_with fail
        refine HDO.out.mono ?_
        rintro e w11 ⟨A11, n11, c11, h11, rfl, hp11, hs11, hb11⟩
        have HB11 := Lib.hid (HB10.out.trans (hb11.mono HB10.out.size))
        have HL11 := Lib.hid hb11
        have HZ11 := Lib.hid (And.intro hp11 hs11)
        clear hp11 hs11 hb11 HDO k0 k1 k2 k3 k4 k5 k6 k7
        go_upto_region 17 with fail
        obtain ⟨w12, hw12, hwb12, hws12, hsz12⟩ := box_s w11 h11 st
        rw [← hw12]
        have HB12 := Lib.hid (HB11.out.trans (hwb12.mono HB11.out.size))
        have HL12 := Lib.hid (HL11.out.trans (hwb12.mono HL11.out.size))
        have HX12 := Lib.hid hws12
        have HZ12 := Lib.hid (And.intro (HZ11.out.1.below hwb12) (HZ11.out.2.below hwb12))
        obtain ⟨k0, k1, k2, k3, k4, k5, k6, k7⟩ := HKB.out w12 HB12.out
        have HD12 := Lib.hid (HDD.out w12 HL12.out)
        clear hw12 hwb12 hws12 hsz12 HB11 HL11 HZ11 HDD
        go_wp2_with fail
        refine HD12.out.mono ?_
        rintro e w13 ⟨A13, n13, c13, h13, rfl, hp13, hs13, hb13⟩
        have HB13 := Lib.hid (HB12.out.trans (hb13.mono HB12.out.size))
        have HX13 := Lib.hid (HX12.out.below hb13 HX12.out.lt)
        have HZ13 := Lib.hid (And.intro (HZ12.out.1.below hb13) (HZ12.out.2.below hb13))
        have HY13 := Lib.hid (And.intro hp13.here hs13.here)
        clear hp13 hs13 hb13 HD12 k0 k1 k2 k3 k4 k5 k6 k7 HB12 HX12 HZ12 HL12
        go_upto_region 18 with fail
        obtain ⟨w14, hw14, hwb14, hws14, hsz14⟩ := box_s w13 h13 st
        rw [← hw14]
        have HB14 := Lib.hid (HB13.out.trans (hwb14.mono HB13.out.size))
        have HX14 := Lib.hid (HX13.out.below hwb14 HX13.out.lt)
        have HU14 := Lib.hid hws14
        have HPR := Lib.hid (pairs_same (HZ13.out.1.below hwb14) (HY13.out.1.below hwb14))
        have HSS := Lib.hid (And.intro (HZ13.out.2.below hwb14) (HY13.out.2.below hwb14))
        clear hw14 hwb14 hws14 hsz14 HB13 HX13 HZ13 HY13
        go_wp2_with fail
        refine HPR.out.mono ?_
        rintro e w15 ⟨rfl, hd15⟩
        have hb15 := hd15.bel w14.heap.size
        have HB15 := Lib.hid (HB14.out.trans (hb15.mono HB14.out.size))
        have hx15 := HX14.out.below hb15 HX14.out.lt
        have hu15 := HU14.out.below hb15 HU14.out.lt
        obtain ⟨x0, x1, x2, x3, x4, -, -, -, -, -⟩ := hx15.cells
        obtain ⟨z0, z1, z2, z3, z4, -, -, -, -, -⟩ := hu15.cells
        have HSA := Lib.hid (same12 (HSS.out.1.below hb15) (HSS.out.2.below hb15))
        clear hd15 hb15 hx15 hu15 HPR HB14 HX14 HU14 HSS
        go_wp2_with fail
        refine HSA.out.mono ?_
        rintro e w16 ⟨rfl, hb16⟩
        have HB16 := Lib.hid (HD.out.trans ((HB15.out.trans (hb16.mono HB15.out.size)).mono HD.out.size))
        clear hb16 HSA HB15 x0 x1 x2 x3 x4 z0 z1 z2 z3 z4
        go_wp2
        go_roundw
        case rel => exact ⟨j + 1, by omega, by go_num, HB16.out⟩
        case measure => simp [intOf]; omega
      · rw [q1, Bool.true_or] at HRD
        go_upto_region 14 with fail
        refine wp_region_held_drew (S := (fun w' => w'.cell? ⟨b, oo + j * 8, none⟩ = some (.int .i64 r.cl) ∧ w'.cell? ⟨b, oo + j * 8 + 1, none⟩ = some (.int .i64 r.sq) ∧ w'.cell? ⟨b, oo + j * 8 + 2, none⟩ = some (.int .i64 r.kind) ∧ w'.cell? ⟨b, oo + j * 8 + 3, none⟩ = some (.slice h.A h.n h.c) ∧ w'.cell? ⟨b, oo + j * 8 + 4, none⟩ = some (.slice h.B h.m h.d) ∧ w'.cell? ⟨b, oo + j * 8 + 5, none⟩ = some (.slice h.C h.o h.p) ∧ w'.cell? ⟨b, oo + j * 8 + 6, none⟩ = some (.slice h.D h.q h.s) ∧ w'.cell? ⟨b, oo + j * 8 + 7, none⟩ = some (.int .i64 r.limit))) (by kernel_rfl) ?_ (fun hHeld => ?_)
        · go_keep
        refine wpAnyH_take (i := 0) (v := .slice (some ⟨b, oo, none⟩) m d) rfl (by kernel_rfl) (by kernel_rfl) (by kernel_rfl) (fun _ _ _ h => h) (Or.inl ⟨by rfl, fun w' hSw => ?_⟩) hHeld ?_
        · (try dsimp only at hSw)
          go_simp
        simp only [Act.put, List.getElem_toArray, List.getElem_cons_zero, List.setIfInBounds_toArray, List.set_cons_zero, List.set_cons_succ]
        refine wpAnyH_take (i := 1) (v := .int .i64 j) rfl (by kernel_rfl) (by kernel_rfl) (by kernel_rfl) (fun _ _ _ h => h) (Or.inl ⟨by rfl, fun w' hSw => ?_⟩) hHeld ?_
        · (try dsimp only at hSw)
          go_simp
        simp only [Act.put, List.getElem_toArray, List.getElem_cons_zero, List.getElem_cons_succ, List.setIfInBounds_toArray, List.set_cons_zero, List.set_cons_succ]
        refine wpAnyH_take (i := 2) (v := .pointer (some ⟨b, oo + j * 8, none⟩)) rfl (by kernel_rfl) (by kernel_rfl) (by kernel_rfl) (fun _ _ _ h => h) (Or.inl ⟨by rfl, fun w' hSw => ?_⟩) hHeld ?_
        · (try dsimp only at hSw)
          go_simp
        simp only [Act.put, List.getElem_toArray, List.getElem_cons_zero, List.getElem_cons_succ, List.setIfInBounds_toArray, List.set_cons_zero, List.set_cons_succ]
        refine wpAnyH_take (i := 3) (v := .agg #[.int .i64 r.cl, .int .i64 r.sq, .int .i64 r.kind, .slice h.A h.n h.c, .slice h.B h.m h.d, .slice h.C h.o h.p, .slice h.D h.q h.s, .int .i64 r.limit]) rfl (by kernel_rfl) (by kernel_rfl) (by kernel_rfl) (fun _ _ _ h => h) (Or.inl ⟨by rfl, fun w' hSw => ?_⟩) hHeld ?_
        · (try dsimp only at hSw)
          go_simp
        simp only [Act.put, List.getElem_toArray, List.getElem_cons_zero, List.getElem_cons_succ, List.setIfInBounds_toArray, List.set_cons_zero, List.set_cons_succ]
        refine wpAnyH_take (i := 5) (v := .slice (some ⟨b, oo, none⟩) m d) rfl (by kernel_rfl) (by kernel_rfl) (by kernel_rfl) (fun _ _ _ h => h) (Or.inl ⟨by rfl, fun w' hSw => ?_⟩) hHeld ?_
        · (try dsimp only at hSw)
          go_simp
        simp only [Act.put, List.getElem_toArray, List.getElem_cons_zero, List.getElem_cons_succ, List.setIfInBounds_toArray, List.set_cons_zero, List.set_cons_succ]
        refine wpAnyH_take (i := 6) (v := .int .i64 j) rfl (by kernel_rfl) (by kernel_rfl) (by kernel_rfl) (fun _ _ _ h => h) (Or.inl ⟨by rfl, fun w' hSw => ?_⟩) hHeld ?_
        · (try dsimp only at hSw)
          go_simp
        simp only [Act.put, List.getElem_toArray, List.getElem_cons_zero, List.getElem_cons_succ, List.setIfInBounds_toArray, List.set_cons_zero, List.set_cons_succ]
        refine wpAnyH_take (i := 7) (v := .pointer (some ⟨b, oo + j * 8, none⟩)) rfl (by kernel_rfl) (by kernel_rfl) (by kernel_rfl) (fun _ _ _ h => h) (Or.inl ⟨by rfl, fun w' hSw => ?_⟩) hHeld ?_
        · (try dsimp only at hSw)
          go_simp
        simp only [Act.put, List.getElem_toArray, List.getElem_cons_zero, List.getElem_cons_succ, List.setIfInBounds_toArray, List.set_cons_zero, List.set_cons_succ]
        refine wpAnyH_take (i := 8) (v := .agg #[.int .i64 r.cl, .int .i64 r.sq, .int .i64 r.kind, .slice h.A h.n h.c, .slice h.B h.m h.d, .slice h.C h.o h.p, .slice h.D h.q h.s, .int .i64 r.limit]) rfl (by kernel_rfl) (by kernel_rfl) (by kernel_rfl) (fun _ _ _ h => h) (Or.inl ⟨by rfl, fun w' hSw => ?_⟩) hHeld ?_
        · (try dsimp only at hSw)
          go_simp
        simp only [Act.put, List.getElem_toArray, List.getElem_cons_zero, List.getElem_cons_succ, List.setIfInBounds_toArray, List.set_cons_zero, List.set_cons_succ]
        refine wpAnyH_ready (rs := [4]) (by kernel_rfl) (by simp) ?_
        refine AllReadyH.cons rfl (fun K hK => ?_) AllReadyH.nil
        go_simp
        go_at_call 14
        (with_reducible refine D.out.mono ?_)
        rintro e w8 ⟨rfl, hbw8⟩
        have hbw8 : Below wr.heap.size wr w8 := undrew hbw8
        have Hw8 := Lib.hid hbw8
        obtain ⟨k0, k1, k2, k3, k4, k5, k6, k7⟩ := HKB.out w8 hbw8
        have E := Lib.hid (HM2.out w8 hbw8)
        clear hbw8 hHeld
        refine hK.out _ _ ⟨k0, k1, k2, k3, k4, k5, k6, k7⟩ (fun hHeld => ?_)
        clear hK K
        try simp only [Act.put, List.getElem_toArray, List.getElem_cons_zero, List.getElem_cons_succ, List.setIfInBounds_toArray, List.set_cons_zero, List.set_cons_succ]
        refine wpAnyH_ready (rs := [9]) (by kernel_rfl) (by simp) ?_
        refine AllReadyH.cons rfl (fun K hK => ?_) AllReadyH.nil
        go_simp
        go_at_call 15
        (with_reducible refine E.out.mono ?_)
        rintro e w9 ⟨rfl, hbw9⟩
        have hbw9 : Below wr.heap.size wr w9 := Hw8.out.trans (hbw9.mono Hw8.out.size)
        have Hw9 := Lib.hid hbw9
        obtain ⟨k0, k1, k2, k3, k4, k5, k6, k7⟩ := HKB.out w9 hbw9
        have F := Lib.hid (HRD.out w9)
        clear hbw9 hHeld
        refine hK.out _ _ ⟨k0, k1, k2, k3, k4, k5, k6, k7⟩ (fun hHeld => ?_)
        clear hK K
        try simp only [Act.put, List.getElem_toArray, List.getElem_cons_zero, List.getElem_cons_succ, List.setIfInBounds_toArray, List.set_cons_zero, List.set_cons_succ]
        refine wpAnyH_take (i := 10) (v := .bool false) rfl (by kernel_rfl) (by kernel_rfl) (by kernel_rfl) (fun _ _ _ h => h) (Or.inl ⟨by rfl, fun w' hSw => ?_⟩) hHeld ?_
        · (try dsimp only at hSw)
          go_simp
        simp only [Act.put, List.getElem_toArray, List.getElem_cons_zero, List.getElem_cons_succ, List.setIfInBounds_toArray, List.set_cons_zero, List.set_cons_succ]
        refine wpAnyH_take (i := 11) (v := .bool false) rfl (by kernel_rfl) (by kernel_rfl) (by kernel_rfl) (fun _ _ _ h => h) (Or.inl ⟨by rfl, fun w' hSw => ?_⟩) hHeld ?_
        · (try dsimp only at hSw)
          go_simp
        simp only [Act.put, List.getElem_toArray, List.getElem_cons_zero, List.getElem_cons_succ, List.setIfInBounds_toArray, List.set_cons_zero, List.set_cons_succ]
        refine wpAnyH_take (i := 12) (v := .slice (some ⟨b, oo, none⟩) m d) rfl (by kernel_rfl) (by kernel_rfl) (by kernel_rfl) (fun _ _ _ h => h) (Or.inl ⟨by rfl, fun w' hSw => ?_⟩) hHeld ?_
        · (try dsimp only at hSw)
          go_simp
        simp only [Act.put, List.getElem_toArray, List.getElem_cons_zero, List.getElem_cons_succ, List.setIfInBounds_toArray, List.set_cons_zero, List.set_cons_succ]
        refine wpAnyH_take (i := 13) (v := .int .i64 j) rfl (by kernel_rfl) (by kernel_rfl) (by kernel_rfl) (fun _ _ _ h => h) (Or.inl ⟨by rfl, fun w' hSw => ?_⟩) hHeld ?_
        · (try dsimp only at hSw)
          go_simp
        simp only [Act.put, List.getElem_toArray, List.getElem_cons_zero, List.getElem_cons_succ, List.setIfInBounds_toArray, List.set_cons_zero, List.set_cons_succ]
        refine wpAnyH_take (i := 14) (v := .pointer (some ⟨b, oo + j * 8, none⟩)) rfl (by kernel_rfl) (by kernel_rfl) (by kernel_rfl) (fun _ _ _ h => h) (Or.inl ⟨by rfl, fun w' hSw => ?_⟩) hHeld ?_
        · (try dsimp only at hSw)
          go_simp
        simp only [Act.put, List.getElem_toArray, List.getElem_cons_zero, List.getElem_cons_succ, List.setIfInBounds_toArray, List.set_cons_zero, List.set_cons_succ]
        refine wpAnyH_take (i := 15) (v := .agg #[.int .i64 r.cl, .int .i64 r.sq, .int .i64 r.kind, .slice h.A h.n h.c, .slice h.B h.m h.d, .slice h.C h.o h.p, .slice h.D h.q h.s, .int .i64 r.limit]) rfl (by kernel_rfl) (by kernel_rfl) (by kernel_rfl) (fun _ _ _ h => h) (Or.inl ⟨by rfl, fun w' hSw => ?_⟩) hHeld ?_
        · (try dsimp only at hSw)
          go_simp
        simp only [Act.put, List.getElem_toArray, List.getElem_cons_zero, List.getElem_cons_succ, List.setIfInBounds_toArray, List.set_cons_zero, List.set_cons_succ]
        refine wpAnyH_take (i := 17) (v := .slice (some ⟨b, oo, none⟩) m d) rfl (by kernel_rfl) (by kernel_rfl) (by kernel_rfl) (fun _ _ _ h => h) (Or.inl ⟨by rfl, fun w' hSw => ?_⟩) hHeld ?_
        · (try dsimp only at hSw)
          go_simp
        simp only [Act.put, List.getElem_toArray, List.getElem_cons_zero, List.getElem_cons_succ, List.setIfInBounds_toArray, List.set_cons_zero, List.set_cons_succ]
        refine wpAnyH_take (i := 18) (v := .int .i64 j) rfl (by kernel_rfl) (by kernel_rfl) (by kernel_rfl) (fun _ _ _ h => h) (Or.inl ⟨by rfl, fun w' hSw => ?_⟩) hHeld ?_
        · (try dsimp only at hSw)
          go_simp
        simp only [Act.put, List.getElem_toArray, List.getElem_cons_zero, List.getElem_cons_succ, List.setIfInBounds_toArray, List.set_cons_zero, List.set_cons_succ]
        refine wpAnyH_take (i := 19) (v := .pointer (some ⟨b, oo + j * 8, none⟩)) rfl (by kernel_rfl) (by kernel_rfl) (by kernel_rfl) (fun _ _ _ h => h) (Or.inl ⟨by rfl, fun w' hSw => ?_⟩) hHeld ?_
        · (try dsimp only at hSw)
          go_simp
        simp only [Act.put, List.getElem_toArray, List.getElem_cons_zero, List.getElem_cons_succ, List.setIfInBounds_toArray, List.set_cons_zero, List.set_cons_succ]
        refine wpAnyH_take (i := 20) (v := .pointer (some ⟨b, oo + j * 8 + 2, none⟩)) rfl (by kernel_rfl) (by kernel_rfl) (by kernel_rfl) (fun _ _ _ h => h) (Or.inl ⟨by rfl, fun w' hSw => ?_⟩) hHeld ?_
        · (try dsimp only at hSw)
          go_simp
        simp only [Act.put, List.getElem_toArray, List.getElem_cons_zero, List.getElem_cons_succ, List.setIfInBounds_toArray, List.set_cons_zero, List.set_cons_succ]
        refine wpAnyH_take (i := 21) (v := .int .i64 r.kind) rfl (by kernel_rfl) (by kernel_rfl) (by kernel_rfl) (fun _ _ _ h => h) (Or.inl ⟨by rfl, fun w' hSw => ?_⟩) hHeld ?_
        · (try dsimp only at hSw)
          go_simp
        simp only [Act.put, List.getElem_toArray, List.getElem_cons_zero, List.getElem_cons_succ, List.setIfInBounds_toArray, List.set_cons_zero, List.set_cons_succ]
        refine wpAnyH_take (i := 22) (v := .bool true) rfl (by kernel_rfl) (by kernel_rfl) (by kernel_rfl) (fun _ _ _ h => h) (Or.inl ⟨by rfl, fun w' hSw => ?_⟩) hHeld ?_
        · (try dsimp only at hSw)
          go_simp
        simp only [Act.put, List.getElem_toArray, List.getElem_cons_zero, List.getElem_cons_succ, List.setIfInBounds_toArray, List.set_cons_zero, List.set_cons_succ]
        refine wpAnyH_ready (rs := [16]) (by kernel_rfl) (by simp) ?_
        refine AllReadyH.cons rfl (fun K hK => ?_) AllReadyH.nil
        go_simp
        go_at_call 16
        (with_reducible refine F.out.mono ?_)
        rintro e w10 ⟨rfl, hbw10⟩
        have hbw10 : Below wr.heap.size wr w10 := Hw9.out.trans (hbw10.mono Hw9.out.size)
        have Hw10 := Lib.hid hbw10
        obtain ⟨k0, k1, k2, k3, k4, k5, k6, k7⟩ := HKB.out w10 hbw10
        clear hbw10 hHeld
        refine hK.out _ _ ⟨k0, k1, k2, k3, k4, k5, k6, k7⟩ (fun hHeld => ?_)
        clear hK K
        try simp only [Act.put, List.getElem_toArray, List.getElem_cons_zero, List.getElem_cons_succ, List.setIfInBounds_toArray, List.set_cons_zero, List.set_cons_succ]
        refine wpAnyH_take (i := 23) (v := .bool true) rfl (by kernel_rfl) (by kernel_rfl) (by kernel_rfl) (fun _ _ _ h => h) (Or.inl ⟨by rfl, fun w' hSw => ?_⟩) hHeld ?_
        · (try dsimp only at hSw)
          go_simp
        simp only [Act.put, List.getElem_toArray, List.getElem_cons_zero, List.getElem_cons_succ, List.setIfInBounds_toArray, List.set_cons_zero, List.set_cons_succ]
        refine wpAnyH_take (i := 24) (v := undef) rfl (by kernel_rfl) (by kernel_rfl) (by kernel_rfl) (fun _ _ _ h => h) (Or.inr ⟨by rfl, rfl⟩) hHeld ?_
        simp only [Act.put, List.getElem_toArray, List.getElem_cons_zero, List.getElem_cons_succ, List.setIfInBounds_toArray, List.set_cons_zero, List.set_cons_succ]
        refine wpAnyH_take (i := 25) (v := undef) rfl (by kernel_rfl) (by kernel_rfl) (by kernel_rfl) (fun _ _ _ h => h) (Or.inr ⟨by rfl, rfl⟩) hHeld ?_
        simp only [Act.put, List.getElem_toArray, List.getElem_cons_zero, List.getElem_cons_succ, List.setIfInBounds_toArray, List.set_cons_zero, List.set_cons_succ]
        refine wpAnyH_take (i := 26) (v := undef) rfl (by kernel_rfl) (by kernel_rfl) (by kernel_rfl) (fun _ _ _ h => h) (Or.inr ⟨by rfl, rfl⟩) hHeld ?_
        simp only [Act.put, List.getElem_toArray, List.getElem_cons_zero, List.getElem_cons_succ, List.setIfInBounds_toArray, List.set_cons_zero, List.set_cons_succ]
        refine wpAnyH_take (i := 27) (v := undef) rfl (by kernel_rfl) (by kernel_rfl) (by kernel_rfl) (fun _ _ _ h => h) (Or.inr ⟨by rfl, rfl⟩) hHeld ?_
        simp only [Act.put, List.getElem_toArray, List.getElem_cons_zero, List.getElem_cons_succ, List.setIfInBounds_toArray, List.set_cons_zero, List.set_cons_succ]
        refine wpAnyH_take (i := 28) (v := undef) rfl (by kernel_rfl) (by kernel_rfl) (by kernel_rfl) (fun _ _ _ h => h) (Or.inr ⟨by rfl, rfl⟩) hHeld ?_
        simp only [Act.put, List.getElem_toArray, List.getElem_cons_zero, List.getElem_cons_succ, List.setIfInBounds_toArray, List.set_cons_zero, List.set_cons_succ]
        refine wpAnyH_take (i := 29) (v := undef) rfl (by kernel_rfl) (by kernel_rfl) (by kernel_rfl) (fun _ _ _ h => h) (Or.inr ⟨by rfl, rfl⟩) hHeld ?_
        simp only [Act.put, List.getElem_toArray, List.getElem_cons_zero, List.getElem_cons_succ, List.setIfInBounds_toArray, List.set_cons_zero, List.set_cons_succ]
        refine wpAnyH_take (i := 30) (v := .bool true) rfl (by kernel_rfl) (by kernel_rfl) (by kernel_rfl) (fun _ _ _ h => h) (Or.inl ⟨by rfl, fun w' hSw => ?_⟩) hHeld ?_
        · (try dsimp only at hSw)
          go_simp
        simp only [Act.put, List.getElem_toArray, List.getElem_cons_zero, List.getElem_cons_succ, List.setIfInBounds_toArray, List.set_cons_zero, List.set_cons_succ]
        refine wpAnyH_take (i := 31) (v := .bool false) rfl (by kernel_rfl) (by kernel_rfl) (by kernel_rfl) (fun _ _ _ h => h) (Or.inl ⟨by rfl, fun w' hSw => ?_⟩) hHeld ?_
        · (try dsimp only at hSw)
          go_simp
        simp only [Act.put, List.getElem_toArray, List.getElem_cons_zero, List.getElem_cons_succ, List.setIfInBounds_toArray, List.set_cons_zero, List.set_cons_succ]
        refine wpAnyH_take (i := 32) (v := .bool false) rfl (by kernel_rfl) (by kernel_rfl) (by kernel_rfl) (fun _ _ _ h => h) (Or.inl ⟨by rfl, fun w' hSw => ?_⟩) hHeld ?_
        · (try dsimp only at hSw)
          go_simp
        simp only [Act.put, List.getElem_toArray, List.getElem_cons_zero, List.getElem_cons_succ, List.setIfInBounds_toArray, List.set_cons_zero, List.set_cons_succ]
        refine wpAnyH_done (by kernel_rfl) ?_ _
        have HBW := Lib.hid (HD.out.trans (Hw10.out.mono HD.out.size))
        have HP10 := Lib.hid (HP7.out.below HBW.out)
        have HDO := Lib.hid (do_lit HP10.out (HR.out.below Hw10.out) HSM1.out HFT.out (by omega) most)
        have HDD := Lib.hid (fun (w12 : World) (hb : Below w10.heap.size w10 w12) => ddo_lit (E := (· < w12.heap.size)) (prs_old (HP10.out.below hb)) (rqr_old ((HR.out.below Hw10.out).below hb)) (fun b hb => hb) HSM1.out HFT.out (by omega) most)
        generalize ansQ (rowL L) r most = res at HDO HDD
        generalize nextQ (rowL L) r most = N at HDO HDD
        obtain ⟨st, fl⟩ := res
        dsimp only at HDO HDD
        clear D D' E F HM1b HM2 HRD hbne HP10 Hw8 Hw9 HSM1 hbl
        go_wp2_with fail
        refine HDO.out.mono ?_
        rintro e w11 ⟨A11, n11, c11, h11, rfl, hp11, hs11, hb11⟩
        have HB11 := Lib.hid (Hw10.out.trans (hb11.mono Hw10.out.size))
        have HL11 := Lib.hid hb11
        have HZ11 := Lib.hid (And.intro hp11 hs11)
        clear hp11 hs11 hb11 HDO k0 k1 k2 k3 k4 k5 k6 k7
        go_upto_region 17 with fail
        obtain ⟨w12, hw12, hwb12, hws12, hsz12⟩ := box_s w11 h11 st
        rw [← hw12]
        have HB12 := Lib.hid (HB11.out.trans (hwb12.mono HB11.out.size))
        have HL12 := Lib.hid (HL11.out.trans (hwb12.mono HL11.out.size))
        have HX12 := Lib.hid hws12
        have HZ12 := Lib.hid (And.intro (HZ11.out.1.below hwb12) (HZ11.out.2.below hwb12))
        obtain ⟨k0, k1, k2, k3, k4, k5, k6, k7⟩ := HKB.out w12 HB12.out
        have HD12 := Lib.hid (HDD.out w12 HL12.out)
        clear hw12 hwb12 hws12 hsz12 HB11 HL11 HZ11 HDD
        go_wp2_with fail
        refine HD12.out.mono ?_
        rintro e w13 ⟨A13, n13, c13, h13, rfl, hp13, hs13, hb13⟩
        have HB13 := Lib.hid (HB12.out.trans (hb13.mono HB12.out.size))
        have HX13 := Lib.hid (HX12.out.below hb13 HX12.out.lt)
        have HZ13 := Lib.hid (And.intro (HZ12.out.1.below hb13) (HZ12.out.2.below hb13))
        have HY13 := Lib.hid (And.intro hp13.here hs13.here)
        clear hp13 hs13 hb13 HD12 k0 k1 k2 k3 k4 k5 k6 k7 HB12 HX12 HZ12 HL12
        go_upto_region 18 with fail
        obtain ⟨w14, hw14, hwb14, hws14, hsz14⟩ := box_s w13 h13 st
        rw [← hw14]
        have HB14 := Lib.hid (HB13.out.trans (hwb14.mono HB13.out.size))
        have HX14 := Lib.hid (HX13.out.below hwb14 HX13.out.lt)
        have HU14 := Lib.hid hws14
        have HPR := Lib.hid (pairs_same (HZ13.out.1.below hwb14) (HY13.out.1.below hwb14))
        have HSS := Lib.hid (And.intro (HZ13.out.2.below hwb14) (HY13.out.2.below hwb14))
        clear hw14 hwb14 hws14 hsz14 HB13 HX13 HZ13 HY13
        go_wp2_with fail
        refine HPR.out.mono ?_
        rintro e w15 ⟨rfl, hd15⟩
        have hb15 := hd15.bel w14.heap.size
        have HB15 := Lib.hid (HB14.out.trans (hb15.mono HB14.out.size))
        have hx15 := HX14.out.below hb15 HX14.out.lt
        have hu15 := HU14.out.below hb15 HU14.out.lt
        obtain ⟨x0, x1, x2, x3, x4, -, -, -, -, -⟩ := hx15.cells
        obtain ⟨z0, z1, z2, z3, z4, -, -, -, -, -⟩ := hu15.cells
        have HSA := Lib.hid (same12 (HSS.out.1.below hb15) (HSS.out.2.below hb15))
        clear hd15 hb15 hx15 hu15 HPR HB14 HX14 HU14 HSS
        go_wp2_with fail
        refine HSA.out.mono ?_
        rintro e w16 ⟨rfl, hb16⟩
        have HB16 := Lib.hid (HD.out.trans ((HB15.out.trans (hb16.mono HB15.out.size)).mono HD.out.size))
        clear hb16 HSA HB15 x0 x1 x2 x3 x4 z0 z1 z2 z3 z4
        go_wp2
        go_roundw
        case rel => exact ⟨j + 1, by omega, by go_num, HB16.out⟩
        case measure => simp [intOf]; omega
    · go_wp2
      go_ret
      exact ⟨rfl, HBR.out⟩

theorem does_any {w : World} {A : Option Addr} {n c : Nat} {L : List Pr} {B : Option Addr} {m : Nat} (d : Nat) {M : List Rq} (hp : Prs w A n c L) (hq : Reqs w B m M) (most : Int) :
    Calls Try.prog 3 #[.slice A n c, .slice B m d, .int .i64 most] w fun e w' => e = .returned (.bool true) ∧ Below w.heap.size w w' := by
  cases hf : fewB L 100
  · exact does_let d hp hq most (.inl hf)
  cases hs : fewQ M 100
  · exact does_let d hp hq most (.inr ⟨hf, hs⟩)
  exact does_main d hp hq most hf hs
end Go.Proofs.Yteklpjcjlbeipaa
