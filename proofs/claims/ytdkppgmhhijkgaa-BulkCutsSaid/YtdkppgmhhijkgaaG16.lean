/- BulkCuts where nothing is cut; Put of any pair, told with what it leaves alone. Condition: the order may not be, or too many pairs, or a key too long, or a key that may not be. BulkCuts where a tree is cut: the walk. Condition: at most 200 short pairs; the order and the key may be. -/
import Derived.Test.YtdkppgmhhijkgaaG14
namespace Go.Proofs.Ytdkppgmhhijkgaa
open Go.RowKit
set_option linter.unusedVariables false
set_option maxRecDepth 100000

theorem TreD.stay {B : Nat} {D E : Nat → Prop} {w w' : World} {tb m : Nat} {P : List Pr} (h : TreD B D w tb m P) (ho : Only E w w') (hd : ∀ b, E b → b < B) : TreD B D w' tb m P :=
  ⟨h.tbn, h.tre.keep (ho.agree fun b hb he => by
    have h1 := hd b he
    rcases hb with hb | hb
    · have := h.dn b hb; omega
    · have := h.tbn; omega), h.dn⟩

theorem putd_all {B : Nat} {D : Nat → Prop} {w : World} {tb m : Nat} {P : List Pr} (h : TreD B D w tb m P) (hB : B ≤ w.heap.size) {C V : Option Addr} {o p : Nat} (q r : Nat) {k v : Ky} (hk : Byt w C o k) (hv : Byt w V p v) :
    Calls Try.prog 18 #[.pointer (some ⟨tb, 0, none⟩), .slice C o q, .slice V p r] w (PutD B D w tb m (putP P k v) (putF P k v) (errV (putE P k v))) := by
  cases hf : fairB (k, v)
  · obtain ⟨h0, h1, h2⟩ := h
    exact (tput_unfair h1 q r hk hv hf).mono fun e w' ⟨e1, D', e2, e3, e4⟩ => ⟨e1, D', ⟨h0, e2, fun b hb => (e3 b hb).elim (h2 b) (fun h => Nat.le_trans hB h)⟩, e3, e4, e4.below (fun b hb => hb.elim (h2 b) (fun h => by rw [h]; exact h0)) hB⟩
  · unfold fairB mayB at hf
    have h1 := hk.1
    have h2 := hv.1
    simp at hf
    exact putd h hB q r hk hv (by omega) (by omega)

set_option maxHeartbeats 4000000 in
/-- Where nothing is asked: no such tree, too many pairs, too long a key. -/
theorem cuts_let {w : World} {A C V Z : Option Addr} {n c o p u : Nat} (q r s : Nat) (m : Int) {L : List Pr} (h : Prs w A n c L) (hl : ¬ (3 ≤ m ∧ m ≤ 16) ∨ fewB L 200 = false ∨ 100 < o) :
    Calls Try.prog 4 #[.int .i64 m, .slice A n c, .slice C o q, .agg #[.slice V p r, .slice Z u s]] w fun e w' => e = .returned (.bool true) ∧ Below w.heap.size w w' := by
  obtain ⟨W, hW, hWB⟩ : ∃ W, W = w.alloc (.cells #[.slice V p r, .slice Z u s] 27) ∧ Below w.heap.size w W :=
    ⟨_, rfl, (Below.refl _ _).alloc (Nat.le_refl _) _⟩
  have HUP := up_any W
  have H := Lib.hid h
  have HWB := Lib.hid hWB
  have hWe := Lib.hid hW
  by_cases hm : 3 ≤ m ∧ m ≤ 16
  case neg =>
    have HMN := Lib.hid (fun w => made_no (w := w) (A := A) (n := n) (c := c) m hm)
    have HFW := Lib.hid (show ∀ w1, Below w.heap.size w w1 → Calls Try.prog 8 #[.slice A n c, .int .i64 200] w1 fun e w' => e = .returned (.bool (fewB L 200)) ∧ w1 = w' from fun w1 hb => few_any 200 (H.out.below hb))
    clear hm hl h hWB hW
    go_enter Try.func4, Try.ntmps4
    go_wp2_with fail
    rw [← hWe.out]
    refine HUP.mono ?_
    rintro e w1 ⟨rfl, hb1⟩
    have hb2 := HWB.out.trans (hb1.mono HWB.out.size)
    have HB := Lib.hid hb2
    have HFX := HFW.out w1 hb2
    generalize fewB L 200 = fb at HFX
    clear hb1 hb2 HFW hWe
    go_wp2_with fail
    refine HFX.mono ?_
    rintro e w2 ⟨rfl, rfl⟩
    clear HFX
    go_wp2_with fail
    refine (HMN.out _).mono ?_
    rintro e w2 ⟨rfl, rfl⟩
    go_wp2
    go_ret
    exact ⟨rfl, HB.out⟩
  case pos =>
    have hl2 : fewB L 200 = false ∨ (fewB L 200 = true ∧ 100 < o) := by
      cases hf : fewB L 200
      · exact .inl rfl
      · refine .inr ⟨rfl, ?_⟩
        rcases hl with h | h | h
        · exact absurd hm h
        · exact absurd (hf.symm.trans h) (by decide)
        · exact h
    obtain ⟨m', rfl⟩ : ∃ m' : Nat, m = (m' : Int) := ⟨m.toNat, by omega⟩
    have h3 : 3 ≤ m' := by omega
    have h16 : m' ≤ 16 := by omega
    have HMY := Lib.hid (fun w1 (hb : Below w.heap.size w w1) => made_yes (w := w1) (H.out.below hb) h3 h16)
    have HFW := Lib.hid (show ∀ w1, Below w.heap.size w w1 → Calls Try.prog 8 #[.slice A n c, .int .i64 200] w1 fun e w' => e = .returned (.bool (fewB L 200)) ∧ w1 = w' from fun w1 hb => few_any 200 (H.out.below hb))
    clear hm h h3 h16 hl hWB hW
    rcases hl2 with hf | ⟨hf, hz⟩
    case' inl => skip
    case' inr =>
      have g1 : decide (100 < (o : Int)) = true := by simp; omega
      have g1b : decide (100 < o) = true := by simp; omega
    all_goals
      rw [hf] at HFW
      clear hf
      go_enter Try.func4, Try.ntmps4
      go_wp2_with fail
      rw [← hWe.out]
      refine HUP.mono ?_
      rintro e w1 ⟨rfl, hb1⟩
      have hb2 := HWB.out.trans (hb1.mono HWB.out.size)
      have HB := Lib.hid hb2
      have HFX := HFW.out w1 hb2
      clear hb1 hb2 HFW hWe
      go_wp2_with fail
      refine HFX.mono ?_
      rintro e w2 ⟨rfl, rfl⟩
      clear HFX
      go_wp2_with fail
      refine (HMY.out _ HB.out).mono ?_
      rintro e w2 ⟨tb, rfl, -, hb2⟩
      have HB2 := Lib.hid (below_on HB.out hb2)
      clear hb2
      go_wp2
      go_ret
      exact ⟨rfl, HB2.out⟩

set_option maxHeartbeats 4000000 in
/-- Where the key may not be. -/
theorem cuts_key {w : World} {A C V Z : Option Addr} {n c m o p u : Nat} (q r s : Nat) {L : List Pr} {k : Ky} (h : Prs w A n c L) (hk : Byt w C o k) (hf : fewB L 200 = true) (ho : o ≤ 100) (h3 : 3 ≤ m) (h16 : m ≤ 16) (hmk : mayB k = false) :
    Calls Try.prog 4 #[.int .i64 m, .slice A n c, .slice C o q, .agg #[.slice V p r, .slice Z u s]] w fun e w' => e = .returned (.bool true) ∧ Below w.heap.size w w' := by
  obtain ⟨W, hW, hWB⟩ : ∃ W, W = w.alloc (.cells #[.slice V p r, .slice Z u s] 27) ∧ Below w.heap.size w W :=
    ⟨_, rfl, (Below.refl _ _).alloc (Nat.le_refl _) _⟩
  have HUP := up_any W
  have he := eql_err 1 1
  have g1 : decide (100 < (o : Int)) = false := by simp; omega
  have g1b : decide (100 < o) = false := by simp; omega
  have hn : n ≤ 200 := by have := (few_small hf).2; have := h.len; omega
  have H := Lib.hid h
  have HK := Lib.hid hk
  have HF := Lib.hid hf
  have HM := Lib.hid (And.intro h3 h16)
  have HWB := Lib.hid hWB
  have hWe := Lib.hid hW
  clear h hk hf h3 h16 hWB hW
  go_enter Try.func4, Try.ntmps4
  go_wp2_with fail
  rw [← hWe.out]
  refine HUP.mono ?_
  rintro e w1 ⟨rfl, hb1⟩
  have hb2 := HWB.out.trans (hb1.mono HWB.out.size)
  have HB := Lib.hid hb2
  have HFX := few_any 200 (H.out.below hb2)
  rw [HF.out] at HFX
  clear hb1 hb2 hWe HUP
  go_wp2_with fail
  refine HFX.mono ?_
  rintro e w2 ⟨rfl, rfl⟩
  clear HFX
  have HN := made_yes (H.out.below HB.out) HM.out.1 HM.out.2
  go_wp2_with fail
  refine HN.mono ?_
  rintro e w2 ⟨tb, rfl, ⟨-, D, ht, -⟩, hb2⟩
  have HT := Lib.hid ht
  have HB2 := Lib.hid (below_on HB.out hb2)
  have HRW := Lib.hid (rrow_any (H.out.below HB2.out) (few_small HF.out).1 (by omega))
  clear ht hb2 HN
  go_wp2_with fail
  refine HRW.out.mono ?_
  rintro e w3 ⟨A1, n1, c1, rfl, hp3, hb3⟩
  have HB3 := Lib.hid (below_on HB2.out hb3)
  have HCU := cut_no (HT.out.below hb3) q (HK.out.below HB3.out) hmk
  rw [errV_some (k := 1) (by decide)] at HCU
  clear hp3 hb3 HRW
  go_wp2_with fail
  refine HCU.mono ?_
  rintro e w4 ⟨rfl, rfl⟩
  have HY := rmay_any q (HK.out.below HB3.out)
  rw [hmk] at HY
  clear HCU
  go_wp2_with fail
  refine HY.mono ?_
  rintro e w5 ⟨rfl, rfl⟩
  clear HY
  go_wp2
  go_ret
  exact ⟨rfl, HB3.out⟩
end Go.Proofs.Ytdkppgmhhijkgaa

namespace Go.Proofs.Ytdkppgmhhijkgaa
open Go.RowKit
set_option linter.unusedVariables false
set_option maxRecDepth 100000

set_option maxHeartbeats 16000000 in
theorem cuts_made {w : World} {A C V Z : Option Addr} {n c m o p u : Nat} (q r s : Nat) {L : List Pr} {k x y : Ky} (h : Prs w A n c L) (hk : Byt w C o k) (hx : Byt w V p x) (hy : Byt w Z u y) (hf : fewB L 200 = true) (ho : o ≤ 100) (h3 : 3 ≤ m) (h16 : m ≤ 16) (hmk : mayB k = true) :
    Calls Try.prog 4 #[.int .i64 m, .slice A n c, .slice C o q, .agg #[.slice V p r, .slice Z u s]] w fun e w' => e = .returned (.bool true) ∧ Below w.heap.size w w' := by
  obtain ⟨W, hW, hWB, hW0, hW1, hWs⟩ : ∃ W, W = w.alloc (.cells #[.slice V p r, .slice Z u s] 27) ∧ Below w.heap.size w W ∧ W.cell? ⟨w.heap.size, 0, none⟩ = some (.slice V p r) ∧ W.cell? ⟨w.heap.size, 1, none⟩ = some (.slice Z u s) ∧ W.heap.size = w.heap.size + 1 :=
    ⟨_, rfl, (Below.refl _ _).alloc (Nat.le_refl _) _, box_0 _ _ _ _, box_1 _ _ _ _, by simp⟩
  have HUP := up_any W
  have g1 : decide (100 < (o : Int)) = false := by simp; omega
  have g1b : decide (100 < o) = false := by simp; omega
  have hn : n ≤ 200 := by have := (few_small hf).2; have := h.len; omega
  have H := Lib.hid h
  have HK := Lib.hid hk
  have HXY := Lib.hid (And.intro hx hy)
  have HF := Lib.hid hf
  have HM := Lib.hid (And.intro h3 h16)
  have HWB := Lib.hid hWB
  have HC := Lib.hid (And.intro hW0 hW1)
  have hwl : w.heap.size < W.heap.size := by omega
  have hWe := Lib.hid hW
  clear h hk hx hy hf h3 h16 hWB hW0 hW1 hW
  go_enter Try.func4, Try.ntmps4
  go_wp2_with fail
  rw [← hWe.out]
  refine HUP.mono ?_
  rintro e w1 ⟨rfl, hb1⟩
  have hb2 := HWB.out.trans (hb1.mono HWB.out.size)
  have HB := Lib.hid hb2
  have HFX := few_any 200 (H.out.below hb2)
  rw [HF.out] at HFX
  have HC1 := Lib.hid (And.intro ((hb1.cell (p := ⟨w.heap.size, 0, none⟩) hwl).trans HC.out.1) ((hb1.cell (p := ⟨w.heap.size, 1, none⟩) hwl).trans HC.out.2))
  have hw1 : w.heap.size < w1.heap.size := Nat.lt_of_lt_of_le hwl hb1.size
  clear hb1 hb2 hWe HUP
  go_wp2_with fail
  refine HFX.mono ?_
  rintro e w2 ⟨rfl, rfl⟩
  clear HFX
  have HN := made_yes (H.out.below HB.out) HM.out.1 HM.out.2
  rw [made_is (by have := H.out.len; omega)] at HN
  go_wp2_with fail
  refine HN.mono ?_
  rintro e w2 ⟨tb, rfl, ht, hb⟩
  obtain ⟨D0, ht⟩ : ∃ D, TreD w1.heap.size D w2 tb m (rowL L) := by
    obtain ⟨h0, D, h1, h2⟩ := ht
    exact ⟨D, h0, h1, h2⟩
  have HT := Lib.hid ht
  have HB2 := Lib.hid (below_on HB.out hb)
  have HC2 := Lib.hid (And.intro ((hb.cell (p := ⟨w.heap.size, 0, none⟩) hw1).trans HC1.out.1) ((hb.cell (p := ⟨w.heap.size, 1, none⟩) hw1).trans HC1.out.2))
  have hw2 : w.heap.size < w2.heap.size := Nat.lt_of_lt_of_le hw1 hb.size
  have HRW := Lib.hid (rrow_on (E := fun b => b < w1.heap.size) (w := w2) (((prs_old (H.out.below HB.out))).keep (below_all hb)) (few_small HF.out).1 (by omega))
  clear HN ht hb
  go_wp2_with fail
  refine HRW.out.mono ?_
  rintro e w3 ⟨A1, n1, c1, rfl, hp, hb⟩
  have HT3 := Lib.hid (HT.out.below hb)
  have HB3 := Lib.hid (below_on HB2.out hb)
  have HP3 := Lib.hid hp.here
  have hrf := row_fit L L.length (Nat.le_refl _)
  rw [List.take_length] at hrf
  have hn1 : n1 ≤ 200 := by have h1 := hp.here.len; have h2 := H.out.len; omega
  have hnc1 : n1 ≤ c1 := hp.here.2.1
  have hcm1 : c1 ≤ maxLen := hp.here.2.2.1
  have HRF := Lib.hid hrf
  have HC3 := Lib.hid (And.intro ((hb.cell (p := ⟨w.heap.size, 0, none⟩) hw2).trans HC2.out.1) ((hb.cell (p := ⟨w.heap.size, 1, none⟩) hw2).trans HC2.out.2))
  have hw3 : w.heap.size < w3.heap.size := Nat.lt_of_lt_of_le hw2 hb.size
  clear HRW hp hb HT HB2 hrf HC2 HC1 g1 g1b
  generalize rowL L = R at HT3 HP3 HRF
  have HCU := cut_yes HT3.out.tre q (HK.out.below HB3.out) hmk
  obtain ⟨a, ha⟩ : ∃ a, a = pos R k := ⟨_, rfl⟩
  unfold CutO at HCU
  rw [← ha] at HCU
  have han : a ≤ n1 := by have := pos_le R k; have := HP3.out.len; omega
  have HA := Lib.hid ha
  clear ha
  go_wp2_with fail
  refine HCU.mono ?_
  rintro e w4 ⟨ta, tc, N, Da, Dc, rfl, hta, hN1, hN2, htc, hb4⟩
  have HTA := Lib.hid hta
  have HTC := Lib.hid htc
  have HN := Lib.hid (And.intro hN1 hN2)
  have HB4 := Lib.hid hb4
  have HW4 := Lib.hid (below_on HB3.out hb4)
  have HY := rmay_any q (HK.out.below HW4.out)
  rw [hmk] at HY
  clear HCU hta htc hN1 hN2 hb4
  go_wp2_with fail
  refine HY.mono ?_
  rintro e w5 ⟨rfl, rfl⟩
  have HFI := rfind_any q (HP3.out.below HB4.out) (HK.out.below HW4.out) HRF.out.1.1 (fit_small HRF.out.1) (by omega)
  rw [← HA.out] at HFI
  generalize hasB R k = hz at HFI
  clear HY
  go_wp2_with fail
  refine HFI.mono ?_
  rintro e w5 ⟨rfl, hd5⟩
  have HB5 := Lib.hid (HB4.out.trans ((hd5.below w3.heap.size)))
  have HTA5 := Lib.hid (HTA.out.below (hd5.below _))
  have HTC5 := Lib.hid (HTC.out.below (hd5.below _))
  have HH5 := has_yes HTA5.out.b ((HP3.out.below HB5.out).upto han)
  have hac : a ≤ c1 := by omega
  have haI : (0 : Int) ≤ (a : Int) := by omega
  clear HFI hd5 HTA HTC
  go_wp2_with fail
  refine HH5.mono ?_
  rintro e w6 ⟨rfl, hb6⟩
  have HB6 := Lib.hid (HB5.out.trans (hb6.mono HB5.out.size))
  have HTA6 := Lib.hid (HTA5.out.below hb6)
  have HTC6 := Lib.hid (HTC5.out.below hb6)
  have HH6 := has_yes HTC6.out.b ((HP3.out.below HB6.out).from han)
  have hX : (if c1 = a then A1 else A1.map (fun x => x.add (a * 2))) = cutA A1 a c1 := rfl
  clear HH5 hb6 HTA5 HTC5
  go_wp2_with fail
  refine HH6.mono ?_
  rintro e w7 ⟨rfl, hb7⟩
  have HB7 := Lib.hid (HB6.out.trans (hb7.mono HB6.out.size))
  have HTA7 := Lib.hid (HTA6.out.below hb7)
  have HTC7 := Lib.hid (HTC6.out.below hb7)
  have b0 := (HB7.out.cell (p := ⟨w.heap.size, 0, none⟩) hw3).trans HC3.out.1
  have b1 := (HB7.out.cell (p := ⟨w.heap.size, 1, none⟩) hw3).trans HC3.out.2
  have HPU := putd_all HTA7.out HB7.out.size r s ((HXY.out.1.below HB3.out).below HB7.out) ((HXY.out.2.below HB3.out).below HB7.out)
  generalize putF (R.take a) x y = f1 at HPU
  generalize errV (putE (R.take a) x y) = er1 at HPU
  generalize putP (R.take a) x y = Q1 at HPU
  clear HH6 hb7 HTA6 HTC6 hX
  go_wp2_with fail
  refine HPU.mono ?_
  rintro e w8 ⟨rfl, D8, hta, hd8, ho8, hb8⟩
  have HB8 := Lib.hid (HB7.out.trans hb8)
  have HTC8 := Lib.hid (HTC7.out.stay ho8 (fun b hb => HN.out.1 b hb))
  have b0 := (HB8.out.cell (p := ⟨w.heap.size, 0, none⟩) hw3).trans HC3.out.1
  have b1 := (HB8.out.cell (p := ⟨w.heap.size, 1, none⟩) hw3).trans HC3.out.2
  have HPV := putd_all HTC8.out (Nat.le_of_lt (Nat.lt_of_le_of_lt HTC8.out.tbn HTC8.out.tre.lt.1)) r s ((HXY.out.1.below HB3.out).below HB8.out) ((HXY.out.2.below HB3.out).below HB8.out)
  generalize putF (R.drop a) x y = f2 at HPV
  generalize errV (putE (R.drop a) x y) = er2 at HPV
  generalize putP (R.drop a) x y = Q2 at HPV
  clear HPU hta hd8 ho8 hb8 HTA7 HTC7
  go_wp2_with fail
  refine HPV.mono ?_
  rintro e w9 ⟨rfl, D9, -, -, -, hb9⟩
  have HB9 := Lib.hid (HB8.out.trans (hb9.mono HN.out.2))
  have HT9 := Lib.hid (HT3.out.below HB9.out)
  have HSO := soundc HT9.out.b
  clear HPV hb9 HTC8 b0 b1
  go_wp2_with fail
  refine HSO.mono ?_
  rintro e w10 ⟨xb, rfl, hb10, -, -⟩
  have HB10 := Lib.hid (HB9.out.trans (hb10.mono HB9.out.size))
  have HPA := Lib.hid (cpairs (HT3.out.below HB10.out).tre)
  clear HSO hb10 HT9
  go_wp2_with fail
  refine HPA.out.mono ?_
  rintro e w11 ⟨A11, n11, c11, rfl, hp11, hb11⟩
  have HB11 := Lib.hid (HB10.out.trans (hb11.mono HB10.out.size))
  have HPS := Lib.hid (pairs_same hp11 (HP3.out.below HB11.out))
  clear HPA hp11 hb11
  go_wp2_with fail
  refine HPS.out.mono ?_
  rintro e w12 ⟨rfl, hd12⟩
  have HB12 := Lib.hid (HB11.out.trans (hd12.below w3.heap.size))
  clear hd12 HPS
  go_wp2
  go_ret
  exact ⟨rfl, HB3.out.trans (HB12.out.mono HB3.out.size)⟩

theorem cuts_any {w : World} {A C V Z : Option Addr} {n c o p u : Nat} (q r s : Nat) (m : Int) {L : List Pr} {k x y : Ky} (h : Prs w A n c L) (hk : Byt w C o k) (hx : Byt w V p x) (hy : Byt w Z u y) :
    Calls Try.prog 4 #[.int .i64 m, .slice A n c, .slice C o q, .agg #[.slice V p r, .slice Z u s]] w fun e w' => e = .returned (.bool true) ∧ Below w.heap.size w w' := by
  by_cases hz : ¬ (3 ≤ m ∧ m ≤ 16) ∨ fewB L 200 = false ∨ 100 < o
  · exact cuts_let q r s m h hz
  · have hf : fewB L 200 = true := by cases hf : fewB L 200 <;> simp_all
    have hm : 3 ≤ m ∧ m ≤ 16 := Classical.byContradiction fun hh => hz (.inl hh)
    have ho : ¬ 100 < o := fun hh => hz (.inr (.inr hh))
    obtain ⟨m', rfl⟩ : ∃ m' : Nat, m = (m' : Int) := ⟨m.toNat, by omega⟩
    cases hmk : mayB k
    · exact cuts_key q r s h hk hf (by omega) (by omega) (by omega) hmk
    · exact cuts_made q r s h hk hx hy hf (by omega) (by omega) (by omega) hmk
end Go.Proofs.Ytdkppgmhhijkgaa
