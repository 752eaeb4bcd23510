/- The contract of the document's own Post. Condition: slots of which there are at most 32; a request whose slices have at most 100 bytes, and can be read. -/
import Derived.Test.YtojofhmhmcchnaaZi
namespace Go.Proofs.Ytojofhmhmcchnaa
open Go.RowKit
set_option linter.unusedVariables false
set_option maxRecDepth 100000

theorem dmay_lit {w : World} {h : Qh} {r : Rq} (hr : RqR w h r) (hs : smallQ r = true) : Calls Try.prog 30 #[.agg #[.int .i64 r.cl, .int .i64 r.sq, .int .i64 r.kind, .slice h.A h.n h.c, .slice h.B h.m h.d, .slice h.C h.o h.p, .slice h.D h.q h.s, .int .i64 r.limit]] w fun e w' => e = .returned (.bool (mayQ r)) ∧ Below w.heap.size w w' := dmay_any hr hs

def DPostO (C : Nat → Prop) (w : World) (T : TypeId) (b n : Nat) (L : List Sl) (r : Rq) (e : Ending) (w' : World) : Prop := e = .returned (.tuple #[.int .i64 (postI L r), .int .i64 (postK L r)]) ∧ SlM C w' T b n (postL L r) ∧ Chg b w w'
theorem dpost_stays {C : Nat → Prop} {w w' : World} {T : TypeId} {b n : Nat} {L : List Sl} {r : Rq} {k : Int} (hk : postK L r = k) (h0 : k ≠ 0) (h : SlM C w T b n L) (hb : Below w.heap.size w w') : DPostO C w T b n L r (.returned (.tuple #[.int .i64 0, .int .i64 k])) w' := by
  unfold DPostO postI postL
  rw [hk, if_neg h0, if_neg h0]
  exact ⟨rfl, h.below hb, below_chg hb⟩

set_option maxHeartbeats 4000000 in
theorem dpost_may {C : Nat → Prop} {w : World} {T : TypeId} {b n : Nat} {L : List Sl} {h : Qh} {r : Rq} (hS : SlM C w T b n L) (hr : RqR w h r) (hs : smallQ r = true) (hm : mayQ r = false) :
    Calls Try.prog 11 #[.slice (some ⟨b, 0, none⟩) n n, rqV h r] w (DPostO C w T b n L r) := by
  obtain ⟨W, hW, hWB, hWQ, hWs⟩ := box_q w h r
  have HM0 := dmay_lit (hr.below hWB) hs
  rw [hm] at HM0
  have HM := Lib.hid HM0
  have HE := Lib.hid (fun w' (hb : Below w.heap.size w w') => dpost_stays (show postK L r = 1 by unfold postK; rw [hm]; rfl) (by omega) hS hb)
  have HB := Lib.hid hWB
  have hWe := Lib.hid hW
  clear hS hr hs hm hW hWB hWQ hWs HM0
  unfold rqV
  go_enter Try.func11, Try.ntmps11
  go_wp2_with fail
  rw [← hWe.out]
  refine HM.out.mono ?_
  rintro e w2 ⟨rfl, hb2⟩
  have HB2 := Lib.hid (HB.out.trans (hb2.mono HB.out.size))
  clear hb2
  go_wp2
  go_ret2
  exact HE.out _ HB2.out

set_option maxHeartbeats 8000000 in
theorem dpost_loop {C : Nat → Prop} {w : World} {b n : Nat} {L : List Sl} {h : Qh} {r : Rq} (hS : SlM C w 51 b n L) (hn : n ≤ 32) (hC : ¬ C b) (hr : RqR w h r) (hrc : On C w (RqR · h r)) (hs : smallQ r = true) (hm : mayQ r = true) :
    Calls Try.prog 11 #[.slice (some ⟨b, 0, none⟩) n n, rqV h r] w (DPostO C w 51 b n L r) := by
  obtain ⟨W, hW, hWB, hWQ, hWs⟩ := box_q w h r
  have HM0 := dmay_lit (hr.below hWB) hs
  rw [hm] at HM0
  have HM := Lib.hid HM0
  have hlen := hS.len
  obtain ⟨P, hP⟩ : ∃ P : Nat → Bool, P = fun k => (sl L k).st != 0 && (sl L k).r.cl == r.cl := ⟨_, rfl⟩
  have HPE := Lib.hid (show ∀ j, ((sl L j).st != 0 && (sl L j).r.cl == r.cl) = P j from fun j => by rw [hP])
  have hsv : servesB L r.cl = decide (0 ≤ fst P n) := by unfold servesB; rw [hP, hlen]
  have HE4 := Lib.hid (fun w' (hb : Below w.heap.size w w') (hv : servesB L r.cl = true) => dpost_stays (show postK L r = 4 by unfold postK; rw [hm, hv]; rfl) (by omega) hS hb)
  have HE5 := Lib.hid (fun w' (hb : Below w.heap.size w w') (hv : servesB L r.cl = false) (hf : firstS L 0 = -1) => dpost_stays (show postK L r = 5 by unfold postK; rw [hm, hv, hf]; rfl) (by omega) hS hb)
  have HE0 := Lib.hid (fun (i : Nat) (hv : servesB L r.cl = false) (hf : firstS L 0 = i) => show postI L r = i ∧ postL L r = L.set i ⟨1, r, an0⟩ ∧ postK L r = 0 from by
    have hk : postK L r = 0 := by unfold postK; rw [hm, hv, hf, if_pos rfl, if_neg (by decide), if_neg (by omega)]
    exact ⟨by unfold postI; rw [if_pos hk, hf], by unfold postL; rw [if_pos hk, hf, Int.toNat_natCast], hk⟩)
  have HSV := Lib.hid (And.intro (fun (j : Nat) (h1 : P j = true) (h2 : ∀ k, k < j → P k = false) (h3 : j < n) => show servesB L r.cl = true by rw [hsv, fst_at h1 h2 h3]; simp) (fun (h1 : ∀ k, k < n → P k = false) => show servesB L r.cl = false by rw [hsv, fst_no h1]; rfl))
  have HFC := Lib.hid (show (∃ i : Nat, i < n ∧ firstS L 0 = i) ∨ firstS L 0 = -1 from by
    rcases fst_some (p := fun k => (sl L k).st == 0) (n := L.length) with ⟨i, g1, g2, g3, g4⟩ | ⟨g1, g2⟩
    · exact .inl ⟨i, by rw [← hlen]; exact g1, g2⟩
    · exact .inr g1)
  have HS := Lib.hid hS
  have HRC := Lib.hid hrc
  have HB := Lib.hid hWB
  have HQ := Lib.hid hWQ
  have hWe := Lib.hid hW
  have hlt : w.heap.size < W.heap.size := by omega
  have hbl := hS.lt
  clear hS hr hs hm hP hsv hlen hrc hW hWB hWQ hWs HM0
  unfold rqV
  go_enter Try.func11, Try.ntmps11
  go_wp2_with fail
  rw [← hWe.out]
  refine HM.out.mono ?_
  rintro e w2 ⟨rfl, hb2⟩
  have HB2 := Lib.hid (HB.out.trans (hb2.mono HB.out.size))
  have HQ2 := Lib.hid (HQ.out.below hb2 hlt)
  clear hb2 HM hWe HB HQ
  go_wp2
  go_loopw [7] (fun i wr => ∃ j : Nat, j ≤ n ∧ i = .int .i64 j ∧ Hid (∀ k, k < j → P k = false) ∧ Below w2.heap.size w2 wr) (fun i _ => n - (intOf i).toNat)
  case atStart => exact ⟨0, Nat.zero_le _, rfl, Lib.hid (fun k hk => absurd hk (by omega)), Below.refl _ _⟩
  case round =>
    obtain ⟨j, hj, rfl, HI, hb⟩ := hrel
    have HBR := Lib.hid hb
    have HB3 := Lib.hid (HB2.out.trans (hb.mono HB2.out.size))
    have HQ3 := Lib.hid (HQ2.out.below hb HQ2.out.lt)
    have hbs := HB2.out.size
    have hbr := hb.size
    clear hb
    by_cases hlt2 : j < n
    · obtain ⟨h1, k1, hx, -, -⟩ := (HS.out.below HB3.out).at_ hlt2
      have HPJ := HPE.out j
      have x0 := hx.1
      have x1 := hx.2.1
      obtain ⟨q0, -⟩ := HQ3.out.cells
      generalize (sl L j).st = st at x0 HPJ
      generalize (sl L j).r.cl = cl at x1 HPJ
      have HJ := Lib.hid (And.intro (HSV.out.1 j) (show ∀ k, k < j + 1 → k < j ∨ k = j from fun k hk => by omega))
      have bj : (0 : Int) ≤ (j : Int) := by omega
      have bj2 : (j : Int) < (n : Int) := by omega
      clear hx
      cases hz : (st != 0)
      · rw [hz] at HPJ
        have HZ := Lib.hid (show P j = false from by rw [← HPJ]; rfl)
        clear HPJ
        go_upto_region 7 with fail
        go_quiet (fail)
        go_wp2
        go_roundw
        case rel => exact ⟨j + 1, by omega, by go_num, Lib.hid (fun k hk => by
          rcases HJ.out.2 k hk with hk | rfl
          · exact HI.out k hk
          · exact HZ.out), HBR.out.trans (Drawn.below ⟨_, rfl⟩ _)⟩
        case measure => simp [intOf]; omega
      · cases hy : (cl == r.cl)
        · rw [hz, hy] at HPJ
          have HZ := Lib.hid (show P j = false from by rw [← HPJ]; rfl)
          clear HPJ
          go_upto_region 7 with fail
          go_quiet (fail)
          go_wp2
          go_roundw
          case rel => exact ⟨j + 1, by omega, by go_num, Lib.hid (fun k hk => by
            rcases HJ.out.2 k hk with hk | rfl
            · exact HI.out k hk
            · exact HZ.out), HBR.out.trans (Drawn.below ⟨_, rfl⟩ _)⟩
          case measure => simp [intOf]; omega
        · rw [hz, hy] at HPJ
          have HZ := Lib.hid (show P j = true from by rw [← HPJ]; rfl)
          clear HPJ
          go_upto_region 7 with fail
          go_quiet (fail)
          go_wp2
          go_ret2
          exact HE4.out _ (HB3.out.trans ((Drawn.below ⟨_, rfl⟩ _))) (HJ.out.1 HZ.out HI.out hlt2)
    · obtain rfl : j = n := by omega
      have HSF := Lib.hid (HSV.out.2 HI.out)
      have DF := Lib.hid (dfirst_any 0 (HS.out.below HB3.out) hn)
      rcases HFC.out with ⟨i, hi, hf⟩ | hf
      · rw [hf] at DF
        have HE := Lib.hid (HE0.out i HSF.out hf)
        have hi0 : ¬ ((i : Int) < 0) := by omega
        have HS3 := Lib.hid (HS.out.below HB3.out)
        obtain ⟨b0, b1, b2, b3, b4, b5, b6, b7⟩ := HQ3.out.cells
        obtain ⟨ha, ka, hxa, ra1, ra2⟩ := HS3.out.at_ hi
        have HXA := Lib.hid hxa
        obtain ⟨e0, e1, e2, e3, e4, e5, e6, e7, e8, e9, e10, e11, e12, e13⟩ := hxa
        have hfz := HS3.out.frz
        have hne4 : ¬ (b = w.heap.size) := by omega
        have hne5 : ¬ (w.heap.size = b) := by omega
        have HP := Lib.hid (HS3.out.put hC hi (o := 0) (us := slC h sh0 ⟨1, r, an0⟩) (by show 0 + 14 ≤ 14; omega) HXA.out (put_all ha h ka sh0 _ ⟨1, r, an0⟩) (HRC.out.keep (below_all HB3.out)) (an0_on _ _))
        have HG := Lib.hid ((below_chg HB3.out).trans (chg_stores b (slC h sh0 ⟨1, r, an0⟩) wr (i * 14)))
        clear ra1 ra2 HFC hf HE0 HE4 HE5 HSV HPE
        go_wp2_with fail
        refine DF.out.mono ?_
        rintro e w4 ⟨rfl, rfl⟩
        go_wp2
        go_ret2
        unfold DPostO
        rw [HE.out.1, HE.out.2.1, HE.out.2.2]
        exact ⟨rfl, HP.out, HG.out⟩
      · rw [hf] at DF
        have HE := Lib.hid (HE5.out wr HB3.out HSF.out hf)
        clear HFC hf HE0 HE4 HE5 HSV HPE
        go_wp2_with fail
        refine DF.out.mono ?_
        rintro e w4 ⟨rfl, rfl⟩
        go_wp2
        go_ret2
        exact HE.out

theorem dpost_any {C : Nat → Prop} {w : World} {b n : Nat} {L : List Sl} {h : Qh} {r : Rq} (hS : SlM C w 51 b n L) (hn : n ≤ 32) (hC : ¬ C b) (hrc : On C w (RqR · h r)) (hs : smallQ r = true) :
    Calls Try.prog 11 #[.slice (some ⟨b, 0, none⟩) n n, rqV h r] w (DPostO C w 51 b n L r) := by
  cases hm : mayQ r
  · exact dpost_may hS hrc.here hs hm
  · exact dpost_loop hS hn hC hrc.here hrc hs hm
end Go.Proofs.Ytojofhmhmcchnaa
