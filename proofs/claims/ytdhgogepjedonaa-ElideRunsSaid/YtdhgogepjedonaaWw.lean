/- The contract of the document's own All. Condition: a row of no more than 500 pairs, no more than 300 requests, whose slices have at most 100 bytes; what came in can be read. -/
import Derived.Test.YtdhgogepjedonaaWv
namespace Go.Proofs.Ytdhgogepjedonaa
open Go.RowKit
set_option linter.unusedVariables false
set_option maxRecDepth 100000

theorem ddo_lit {E : Nat → Prop} {w : World} {A : Option Addr} {n c : Nat} {L : List Pr} {h : Qh} {r : Rq} (hp : On E w (Prs · A n c L)) (hr : On E w (RqR · h r)) (hE : ∀ b, E b → b < w.heap.size) (hs : smallQ r = true) (hfit : Fit L) (hn : n ≤ 900) (most : Int) :
    Calls Try.prog 28 #[.slice A n c, .agg #[.int .i64 r.cl, .int .i64 r.sq, .int .i64 r.kind, .slice h.A h.n h.c, .slice h.B h.m h.d, .slice h.C h.o h.p, .slice h.D h.q h.s, .int .i64 r.limit], .int .i64 most] w fun e w' =>
      ∃ (A1 : Option Addr) (n1 c1 : Nat) (h1 : Sh), e = .returned (.tuple #[.slice A1 n1 c1, .agg #[.int .i64 (ansQ L r most).1.code, .bool (ansQ L r most).1.found, .slice h1.A h1.n h1.c, .slice h1.B h1.m h1.d, .int .u64 0]]) ∧
        On (fun b => E b ∨ w.heap.size ≤ b) w' (Prs · A1 n1 c1 (nextQ L r most)) ∧ On (fun b => E b ∨ w.heap.size ≤ b) w' (RsR · h1 (ansQ L r most).1) ∧ Below w.heap.size w w' := ddo_on hp hr hE hs hfit hn most
theorem rqr_old {w : World} {h : Qh} {r : Rq} (hr : RqR w h r) : On (· < w.heap.size) w (RqR · h r) := fun v hv => ⟨byt_old hr.1 v hv, byt_old hr.2.1 v hv, byt_old hr.2.2.1 v hv, byt_old hr.2.2.2 v hv⟩

set_option maxHeartbeats 16000000 in
theorem dall_any {w : World} {A : Option Addr} {n c : Nat} {L : List Pr} (hp : Prs w A n c L) {B : Option Addr} {m : Nat} (d : Nat) {M : List Rq} (hq : Reqs w B m M) (hs : ∀ j, j < m → smallQ (gq M j) = true) (hfit : Fit L) (hn : n ≤ 500) (hm : m ≤ 300) (most : Int) :
    Calls Try.prog 14 #[.slice A n c, .slice B m d, .int .i64 most] w fun e w' => ∃ A1 n1 c1 A2 c2, e = .returned (.tuple #[.slice A1 n1 c1, .slice A2 m c2]) ∧ Prs w' A1 n1 c1 (thenQ L M most m) ∧ Ress w' A2 m (allQ L M most m) ∧ Below w.heap.size w w' := by
  obtain ⟨i0, hi, hz0, hz1, hz2⟩ := info_parts Try.infoRes
  have HI := Lib.hid hi
  have HZ := Lib.hid (And.intro hz0 (And.intro hz1 hz2))
  clear hi hz0 hz1 hz2
  have HQ := Lib.hid hq
  have HS := Lib.hid hs
  have HF := Lib.hid hfit
  have hl : L.length ≤ 500 := by rw [hp.len]; exact hn
  have hmx := hq.2.1
  unfold maxLen at hmx
  have HST := Lib.hid (show AllI w L M most 0 (.slice A n c) (.slice none 0 0) w from ⟨A, n, c, rfl, (prs_old hp).mono (fun b hb k hk => by cases hk), growsS_nil _ _, Below.refl _ _⟩)
  clear hp hq hs hfit
  go_enter Try.func14, Try.ntmps14
  go_wp2
  go_loopw [0, 8, 9] (fun l a i wr => ∃ j : Nat, j ≤ m ∧ i = .int .i64 j ∧ AllI w L M most j l a wr) (fun _ _ i _ => m - (intOf i).toNat)
  case atStart => exact ⟨0, Nat.zero_le _, rfl, HST.out⟩
  case round =>
    obtain ⟨j, hj, rfl, A1, n1, c1, rfl, hp1, hg1, hb1⟩ := hrel
    have HP1 := Lib.hid hp1
    have HG1 := Lib.hid hg1
    have HB1 := Lib.hid hb1
    have hlen := hp1.here.len
    have hfl := then_len L M most j
    have hn1 : n1 ≤ 900 := by omega
    have HFT := Lib.hid (then_fit HF.out M most j)
    clear hp1 hg1 hb1 HST hlen hfl
    by_cases hlt : j < m
    · obtain ⟨b, oo, rfl, hbl, h, k0, k1, k2, k3, k4, k5, k6, k7, hr⟩ := HQ.out.at_ hlt
      have hwr := HB1.out.size
      have k0 := (HB1.out.cell (p := ⟨b, oo + j * 8, none⟩) hbl).trans k0
      have k1 := (HB1.out.cell (p := ⟨b, oo + j * 8 + 1, none⟩) hbl).trans k1
      have k2 := (HB1.out.cell (p := ⟨b, oo + j * 8 + 2, none⟩) hbl).trans k2
      have k3 := (HB1.out.cell (p := ⟨b, oo + j * 8 + 3, none⟩) hbl).trans k3
      have k4 := (HB1.out.cell (p := ⟨b, oo + j * 8 + 4, none⟩) hbl).trans k4
      have k5 := (HB1.out.cell (p := ⟨b, oo + j * 8 + 5, none⟩) hbl).trans k5
      have k6 := (HB1.out.cell (p := ⟨b, oo + j * 8 + 6, none⟩) hbl).trans k6
      have k7 := (HB1.out.cell (p := ⟨b, oo + j * 8 + 7, none⟩) hbl).trans k7
      have hsm := HS.out j hlt
      obtain ⟨r, hre⟩ : ∃ r, r = gq M j := ⟨_, rfl⟩
      rw [← hre] at k0 k1 k2 k7 hr hsm
      have HKK := Lib.hid (And.intro k0 (And.intro k1 (And.intro k2 (And.intro k3 (And.intro k4 (And.intro k5 (And.intro k6 k7)))))))
      clear k0 k1 k2 k3 k4 k5 k6 k7
      obtain ⟨k0, k1, k2, k3, k4, k5, k6, k7⟩ := HKK.out
      have HRE := Lib.hid hre
      have hoffw : ∀ b, b < w.heap.size → Off u8 b := fun b hb k hk e => by have := (HG1.out.lt k hk).2; omega
      have HDO := Lib.hid (ddo_lit (E := fun b => Off u8 b ∧ b < wr.heap.size) HP1.out.now ((((rqr_old hr).keep (below_all HB1.out)).mono (C' := fun b => Off u8 b ∧ b < wr.heap.size) (fun b hb => ⟨hoffw b hb, by omega⟩))) (fun b hb => hb.2) hsm HFT.out hn1 most)
      have HNX := Lib.hid (show thenQ L M most (j + 1) = nextQ (thenQ L M most j) r most by rw [HRE.out]; rfl)
      have HAX := Lib.hid (show allQ L M most (j + 1) = allQ L M most j ++ [(ansQ (thenQ L M most j) r most).1] by rw [HRE.out]; rfl)
      clear hre hsm hr HKK hoffw
      generalize (ansQ (thenQ L M most j) r most).1 = s at HDO HAX
      generalize nextQ (thenQ L M most j) r most = N at HDO HNX
      go_wp2_with fail
      refine HDO.out.mono ?_
      rintro e w2 ⟨A4, n4, c4, h9, rfl, hp2, hs2, hb2⟩
      have hoff : ∀ b, (Off u8 b ∧ b < wr.heap.size) ∨ wr.heap.size ≤ b → Off u8 b := fun b hb => hb.elim (fun h => h.1) (off_new HG1.out (B := wr.heap.size) (Nat.le_refl _) b)
      have HP2 := Lib.hid (hp2.mono hoff)
      have HO2 := Lib.hid (hs2.mono hoff)
      have HB2 := Lib.hid (HB1.out.trans (hb2.mono HB1.out.size))
      have HG2 := Lib.hid (HG1.out.below hb2)
      clear hp2 hs2 hb2 HDO k0 k1 k2 k3 k4 k5 k6 k7 hoff
      go_upto_region 6 with fail
      obtain ⟨w3, hw3, hwb3, hws3, hsz3⟩ := box_s w2 h9 s
      rw [← hw3]
      have HB3 := Lib.hid (HB2.out.trans (hwb3.mono HB2.out.size))
      have HP3 := Lib.hid (HP2.out.keep (below_all hwb3))
      have HO3 := Lib.hid (HO2.out.keep (below_all hwb3))
      have HG3 := Lib.hid (HG2.out.below hwb3)
      obtain ⟨t0, t1, t2, t3, t4, -, -, -, -, -⟩ := hws3.cells
      obtain ⟨xs, hown, hrd⟩ := HG3.out
      have O5 := Lib.hid (hown.alloc (.cells #[.int .i64 s.code, .bool s.found, .slice h9.A h9.n h9.c, .slice h9.B h9.m h9.d, .int .u64 0] 52))
      have R5 := Lib.hid hrd
      have B5 := Lib.hid ((Below.refl w3.heap.size w3).alloc (Nat.le_refl _) (.cells #[.int .i64 s.code, .bool s.found, .slice h9.A h9.n h9.c, .slice h9.B h9.m h9.d, .int .u64 0] 52))
      have hsz5 := HB3.out.size
      clear hown hrd hw3 hwb3 hws3 hsz3 HB2 HP2 HO2 HG2
      go_wp2_with (at_builtin; refine wpList_append_own_at _ rfl _ _ 32 rfl w.heap.size 52 i0 (.agg #[.int .i64 0, .bool false, .slice none 0 0, .slice none 0 0, .int .u64 0]) 5 72 Try.underlying32 HI.out HZ.out.1 HZ.out.2.1 HZ.out.2.2 rfl (by decide) u8 j xs rfl O5.out ⟨w3.heap.size, 0, none⟩ 1 1 [.int .i64 s.code, .bool s.found, .slice h9.A h9.n h9.c, .slice h9.B h9.m h9.d, .int .u64 0] rfl rfl five_cells ?c2 ?c3 ?c4 ?c5 ?_)
      case c2 => intro u hu; simp at hu; rcases hu with rfl | rfl | rfl | rfl | rfl <;> rfl
      case c3 => unfold maxLen; omega
      case c4 => omega
      case c5 => rw [alloc_sz]; omega
      intro v' w6 hown6 hg6 hnil hat
      rw [← alloc_sz w3 (.cells #[.int .i64 s.code, .bool s.found, .slice h9.A h9.n h9.c, .slice h9.B h9.m h9.d, .int .u64 0] 52)] at hat
      have HNEXT := Lib.hid (show AllI w L M most (j + 1) (.slice A4 n4 c4) v' w6 from by
        refine ⟨_, _, _, rfl, ?_, ?_, ?_⟩
        · rw [HNX.out]
          exact grow_on (HP3.out.keep (below_all B5.out)) (fun b hb => hb) hg6 hat
        · rw [HAX.out]
          exact GrowsS.more (R5.out.imp fun hh s ho => ho.keep (below_all B5.out)) (HO3.out.keep (below_all B5.out)) hown6 hg6 hat
        · exact (HB3.out.trans (B5.out.mono HB3.out.size)).grown hg6 (by rw [alloc_sz]; omega) (fun k hk => (HG1.out.lt k hk).2))
      clear hown6 hg6 hnil hat O5 R5 B5 HG3 HB3 HP3 HO3 t0 t1 t2 t3 t4
      go_wp2
      go_roundw
      case rel => exact ⟨j + 1, by omega, by go_num, HNEXT.out⟩
      case measure => simp [intOf]; omega
    · obtain rfl : j = m := by omega
      obtain ⟨A2, c2, rfl, hrs⟩ := HG1.out.ress
      have HRS := Lib.hid hrs
      clear hrs
      go_wp2
      refine bodyPost_ret (v := .tuple #[.slice A1 n1 c1, .slice A2 j c2]) (by simp [results, Try.results14, go_sem]) rfl ⟨A1, n1, c1, A2, c2, rfl, HP1.out.here, HRS.out, HB1.out⟩
end Go.Proofs.Ytdhgogepjedonaa
