/- The contract of package slot's Post. Condition: slots of which there are at most 32; a request whose slices have at most 100 bytes, and can be read. -/
import Derived.Test.YtojofhmhmcchnaaZh
namespace Go.Proofs.Ytojofhmhmcchnaa
open Go.RowKit
set_option linter.unusedVariables false
set_option maxRecDepth 100000

theorem omay_lit {w : World} {h : Qh} {r : Rq} (hr : RqR w h r) (hs : smallQ r = true) : Calls Try.prog 27 #[.agg #[.int .i64 r.cl, .int .i64 r.sq, .int .i64 r.kind, .slice h.A h.n h.c, .slice h.B h.m h.d, .slice h.C h.o h.p, .slice h.D h.q h.s, .int .i64 r.limit]] w fun e w' => e = .returned (.bool (mayQ r)) ∧ Below w.heap.size w w' := omay_any hr hs
theorem copyq_lit {w : World} {h : Qh} {r : Rq} (hr : RqR w h r) (hs : smallQ r = true) : Calls Try.prog 29 #[.agg #[.int .i64 r.cl, .int .i64 r.sq, .int .i64 r.kind, .slice h.A h.n h.c, .slice h.B h.m h.d, .slice h.C h.o h.p, .slice h.D h.q h.s, .int .i64 r.limit]] w fun e w' => ∃ h' : Qh, e = .returned (.agg #[.int .i64 r.cl, .int .i64 r.sq, .int .i64 r.kind, .slice h'.A h'.n h'.c, .slice h'.B h'.m h'.d, .slice h'.C h'.o h'.p, .slice h'.D h'.q h'.s, .int .i64 r.limit]) ∧ On (w.heap.size ≤ ·) w' (RqR · h' r) ∧ Below w.heap.size w w' := copyq_any hr hs

/-- What Post tells, and leaves. -/
def PostO (C : Nat → Prop) (w : World) (p b n : Nat) (L : List Sl) (r : Rq) (e : Ending) (w' : World) : Prop := e = .returned (.tuple #[.int .i64 (postI L r), errV (postK L r)]) ∧ SlO C w' p b n (postL L r) ∧ Chg b w w'
theorem post_stays {C : Nat → Prop} {w w' : World} {p b n : Nat} {L : List Sl} {r : Rq} {k : Int} (hk : postK L r = k) (h0 : k ≠ 0) (h : SlO C w p b n L) (hb : Below w.heap.size w w') : PostO C w p b n L r (.returned (.tuple #[.int .i64 0, .iface 29 (.int .i64 k)])) w' := by
  unfold PostO postI postL
  rw [hk, if_neg h0, if_neg h0, errV_some h0]
  exact ⟨rfl, h.below hb, below_chg hb⟩

set_option maxHeartbeats 4000000 in
theorem post_may {C : Nat → Prop} {w : World} {p b n : Nat} {L : List Sl} {h : Qh} {r : Rq} (hS : SlO C w p b n L) (hr : RqR w h r) (hs : smallQ r = true) (hm : mayQ r = false) :
    Calls Try.prog 10 #[.pointer (some ⟨p, 0, none⟩), rqV h r] w (PostO C w p b n L r) := by
  obtain ⟨W, hW, hWB, hWQ, hWs⟩ := box_q w h r
  have HM := omay_lit (hr.below hWB) hs
  rw [hm] at HM
  have HM := Lib.hid HM
  have HE := Lib.hid (fun w' (hb : Below w.heap.size w w') => post_stays (show postK L r = 1 by unfold postK; rw [hm]; rfl) (by omega) hS hb)
  have HB := Lib.hid hWB
  have hWe := Lib.hid hW
  clear hS hr hs hm hW hWB hWQ hWs
  unfold rqV
  go_enter Try.func10, Try.ntmps10
  go_wp2_with fail
  rw [← hWe.out]
  refine HM.out.mono ?_
  rintro e w2 ⟨rfl, hb2⟩
  have HB2 := Lib.hid (HB.out.trans (hb2.mono HB.out.size))
  clear hb2
  go_wp2
  go_ret2
  exact HE.out _ HB2.out

set_option maxHeartbeats 4000000 in
theorem post_twice {C : Nat → Prop} {w : World} {p b n : Nat} {L : List Sl} {h : Qh} {r : Rq} (hS : SlO C w p b n L) (hr : RqR w h r) (hs : smallQ r = true) (hm : mayQ r = true) (hv : servesB L r.cl = true) :
    Calls Try.prog 10 #[.pointer (some ⟨p, 0, none⟩), rqV h r] w (PostO C w p b n L r) := by
  obtain ⟨W, hW, hWB, hWQ, hWs⟩ := box_q w h r
  have HM := omay_lit (hr.below hWB) hs
  rw [hm] at HM
  have HM := Lib.hid HM
  have HE := Lib.hid (fun w' (hb : Below w.heap.size w w') => post_stays (show postK L r = 4 by unfold postK; rw [hm, hv]; rfl) (by omega) hS hb)
  have HSV := Lib.hid (fun (w2 : World) (hb : Below w.heap.size w w2) => serves_any r.cl (hS.below hb))
  rw [hv] at HSV
  have HB := Lib.hid hWB
  have HQ := Lib.hid hWQ
  have hWe := Lib.hid hW
  have hlt : w.heap.size < W.heap.size := by omega
  clear hS hr hs hm hv hW hWB hWQ hWs
  unfold rqV
  go_enter Try.func10, Try.ntmps10
  go_wp2_with fail
  rw [← hWe.out]
  refine HM.out.mono ?_
  rintro e w2 ⟨rfl, hb2⟩
  have HB2 := Lib.hid (HB.out.trans (hb2.mono HB.out.size))
  obtain ⟨b0, b1, b2, b3, b4, b5, b6, b7⟩ := (HQ.out.below hb2 hlt).cells
  clear hb2 b1 b2 b3 b4 b5 b6 b7
  go_wp2_with fail
  refine (HSV.out _ HB2.out).mono ?_
  rintro e w3 ⟨rfl, hb3⟩
  have HB3 := Lib.hid (HB2.out.trans (hb3.mono HB2.out.size))
  clear hb3
  go_wp2
  go_ret2
  exact HE.out _ HB3.out

set_option maxHeartbeats 4000000 in
theorem post_full {C : Nat → Prop} {w : World} {p b n : Nat} {L : List Sl} {h : Qh} {r : Rq} (hS : SlO C w p b n L) (hr : RqR w h r) (hs : smallQ r = true) (hm : mayQ r = true) (hv : servesB L r.cl = false) (hf : firstS L 0 = -1) :
    Calls Try.prog 10 #[.pointer (some ⟨p, 0, none⟩), rqV h r] w (PostO C w p b n L r) := by
  obtain ⟨W, hW, hWB, hWQ, hWs⟩ := box_q w h r
  have HM := omay_lit (hr.below hWB) hs
  rw [hm] at HM
  have HM := Lib.hid HM
  have HE := Lib.hid (fun w' (hb : Below w.heap.size w w') => post_stays (show postK L r = 5 by unfold postK; rw [hm, hv, hf]; rfl) (by omega) hS hb)
  have HSV := Lib.hid (fun (w2 : World) (hb : Below w.heap.size w w2) => serves_any r.cl (hS.below hb))
  rw [hv] at HSV
  have HFS := Lib.hid (fun (w2 : World) (hb : Below w.heap.size w w2) => sfirst_any 0 (hS.below hb))
  rw [hf] at HFS
  have HB := Lib.hid hWB
  have HQ := Lib.hid hWQ
  have hWe := Lib.hid hW
  have hlt : w.heap.size < W.heap.size := by omega
  clear hS hr hs hm hv hf hW hWB hWQ hWs
  unfold rqV
  go_enter Try.func10, Try.ntmps10
  go_wp2_with fail
  rw [← hWe.out]
  refine HM.out.mono ?_
  rintro e w2 ⟨rfl, hb2⟩
  have HB2 := Lib.hid (HB.out.trans (hb2.mono HB.out.size))
  obtain ⟨b0, b1, b2, b3, b4, b5, b6, b7⟩ := (HQ.out.below hb2 hlt).cells
  clear hb2 b1 b2 b3 b4 b5 b6 b7
  go_wp2_with fail
  refine (HSV.out _ HB2.out).mono ?_
  rintro e w3 ⟨rfl, hb3⟩
  have HB3 := Lib.hid (HB2.out.trans (hb3.mono HB2.out.size))
  clear hb3 b0
  go_wp2_with fail
  refine (HFS.out _ HB3.out).mono ?_
  rintro e w4 ⟨rfl, hb4⟩
  have HB4 := Lib.hid (HB3.out.trans (hb4.mono HB3.out.size))
  clear hb4
  go_wp2
  go_ret2
  exact HE.out _ HB4.out

set_option maxHeartbeats 8000000 in
theorem post_yes {C : Nat → Prop} {w : World} {p b n i : Nat} {L : List Sl} {h : Qh} {r : Rq} (hS : SlO C w p b n L) (hC : ¬ C b) (hCn : ∀ k, w.heap.size ≤ k → C k) (hr : RqR w h r) (hs : smallQ r = true) (hm : mayQ r = true) (hv : servesB L r.cl = false) (hf : firstS L 0 = i) (hi : i < n) :
    Calls Try.prog 10 #[.pointer (some ⟨p, 0, none⟩), rqV h r] w (PostO C w p b n L r) := by
  obtain ⟨W, hW, hWB, hWQ, hWs⟩ := box_q w h r
  have HM := omay_lit (hr.below hWB) hs
  rw [hm] at HM
  have HM := Lib.hid HM
  have hk : postK L r = 0 := by unfold postK; rw [hm, hv, hf, if_pos rfl, if_neg (by decide), if_neg (by omega)]
  have HE := Lib.hid (show postI L r = i ∧ postL L r = L.set i ⟨1, r, an0⟩ ∧ postK L r = 0 from ⟨by unfold postI; rw [if_pos hk, hf], by unfold postL; rw [if_pos hk, hf, Int.toNat_natCast], hk⟩)
  have HSV := Lib.hid (fun (w2 : World) (hb : Below w.heap.size w w2) => serves_any r.cl (hS.below hb))
  rw [hv] at HSV
  have HFS := Lib.hid (fun (w2 : World) (hb : Below w.heap.size w w2) => sfirst_any 0 (hS.below hb))
  rw [hf] at HFS
  have hn := hS.2.2.1
  have HS := Lib.hid hS
  have HR := Lib.hid hr
  have HSM := Lib.hid hs
  have HB := Lib.hid hWB
  have HQ := Lib.hid hWQ
  have hWe := Lib.hid hW
  have hlt : w.heap.size < W.heap.size := by omega
  have HCN := Lib.hid hCn
  have hpl := hS.lt
  have hbl := hS.2.2.2.lt
  have hpb := hS.2.1
  clear hS hr hs hm hv hf hk hW hWB hWQ hWs hCn
  unfold rqV
  go_enter Try.func10, Try.ntmps10
  go_wp2_with fail
  rw [← hWe.out]
  refine HM.out.mono ?_
  rintro e w2 ⟨rfl, hb2⟩
  have HB2 := Lib.hid (HB.out.trans (hb2.mono HB.out.size))
  have HQ2 := Lib.hid (HQ.out.below hb2 hlt)
  obtain ⟨b0, b1, b2, b3, b4, b5, b6, b7⟩ := HQ2.out.cells
  clear hb2 b1 b2 b3 b4 b5 b6 b7
  go_wp2_with fail
  refine (HSV.out _ HB2.out).mono ?_
  rintro e w3 ⟨rfl, hb3⟩
  have HB3 := Lib.hid (HB2.out.trans (hb3.mono HB2.out.size))
  have HQ3 := Lib.hid (HQ2.out.below hb3 HQ2.out.lt)
  clear hb3 b0
  go_wp2_with fail
  refine (HFS.out _ HB3.out).mono ?_
  rintro e w4 ⟨rfl, hb4⟩
  have HB4 := Lib.hid (HB3.out.trans (hb4.mono HB3.out.size))
  have HQ4 := Lib.hid (HQ3.out.below hb4 HQ3.out.lt)
  clear hb4 HM HSV HFS HB HQ HQ2 HB2 HQ3 HB3 hWe
  have hi0 : ¬ ((i : Int) < 0) := by omega
  go_upto_region 8 with fail
  obtain ⟨b0, b1, b2, b3, b4, b5, b6, b7⟩ := HQ4.out.cells
  have HS4 := Lib.hid (HS.out.below HB4.out)
  have q0 := HS4.out.ptr
  have D := Lib.hid (copyq_lit (w := w4.drew) (show RqR w4 h r from HR.out.below HB4.out) HSM.out)
  have hl4 := HB4.out.size
  have hql : w.heap.size < w4.heap.size := HQ4.out.lt
  have hne1 : ¬ (p = b) := hpb
  have hne2 : ¬ (b = p) := fun e => hpb e.symm
  have hne3 : ¬ (w.heap.size = b) := by omega
  have hne4 : ¬ (b = w.heap.size) := by omega
  have HK := Lib.hid (And.intro q0 (And.intro b0 (And.intro b1 (And.intro b2 (And.intro b3 (And.intro b4 (And.intro b5 (And.intro b6 b7))))))))
  go_region_held3 (fun w' => w'.cell? ⟨p, 0, none⟩ = some (.slice (some ⟨b, 0, none⟩) n n) ∧ w'.cell? ⟨w.heap.size, 0, none⟩ = some (.int .i64 r.cl) ∧ w'.cell? ⟨w.heap.size, 1, none⟩ = some (.int .i64 r.sq) ∧ w'.cell? ⟨w.heap.size, 2, none⟩ = some (.int .i64 r.kind) ∧ w'.cell? ⟨w.heap.size, 3, none⟩ = some (.slice h.A h.n h.c) ∧
      w'.cell? ⟨w.heap.size, 4, none⟩ = some (.slice h.B h.m h.d) ∧ w'.cell? ⟨w.heap.size, 5, none⟩ = some (.slice h.C h.o h.p) ∧ w'.cell? ⟨w.heap.size, 6, none⟩ = some (.slice h.D h.q h.s) ∧ w'.cell? ⟨w.heap.size, 7, none⟩ = some (.int .i64 r.limit)) (go_keep)
    ((go_at_call 29
      (with_reducible refine D.out.mono ?_)
      rintro e w5 ⟨h5, rfl, on5, hb5⟩
      have hb5 : Below w4.heap.size w4 w5 := undrew hb5
      have HON := Lib.hid on5
      have HS5 := Lib.hid (HS4.out.below hb5)
      have HB5 := Lib.hid (HB4.out.trans (hb5.mono HB4.out.size))
      have q0 := (hb5.cell (p := ⟨p, 0, none⟩) (show p < w4.heap.size by omega)).trans HK.out.1
      have b0 := (hb5.cell (p := ⟨w.heap.size, 0, none⟩) hql).trans HK.out.2.1
      have b1 := (hb5.cell (p := ⟨w.heap.size, 1, none⟩) hql).trans HK.out.2.2.1
      have b2 := (hb5.cell (p := ⟨w.heap.size, 2, none⟩) hql).trans HK.out.2.2.2.1
      have b3 := (hb5.cell (p := ⟨w.heap.size, 3, none⟩) hql).trans HK.out.2.2.2.2.1
      have b4 := (hb5.cell (p := ⟨w.heap.size, 4, none⟩) hql).trans HK.out.2.2.2.2.2.1
      have b5 := (hb5.cell (p := ⟨w.heap.size, 5, none⟩) hql).trans HK.out.2.2.2.2.2.2.1
      have b6 := (hb5.cell (p := ⟨w.heap.size, 6, none⟩) hql).trans HK.out.2.2.2.2.2.2.2.1
      have b7 := (hb5.cell (p := ⟨w.heap.size, 7, none⟩) hql).trans HK.out.2.2.2.2.2.2.2.2
      obtain ⟨ha, ka, hxa, ra1, ra2⟩ := HS5.out.2.2.2.at_ hi
      have HXA := Lib.hid hxa
      obtain ⟨e0, e1, e2, e3, e4, e5, e6, e7, e8, e9, e10, e11, e12, e13⟩ := hxa
      have hfz := HS5.out.2.2.2.frz
      clear hb5 on5 ra1 ra2))
  all_goals
    have HP := Lib.hid (HS5.out.put hC hi (o := 0) (us := slC h5 sh0 ⟨1, r, an0⟩) (by show 0 + 14 ≤ 14; omega) HXA.out (put_all ha h5 ka sh0 _ ⟨1, r, an0⟩) (HON.out.mono fun k hk => HCN.out k (Nat.le_trans hl4 hk)) (an0_on _ _))
    have HG := Lib.hid ((below_chg HB5.out).trans (chg_stores b (slC h5 sh0 ⟨1, r, an0⟩) w5 (i * 14)))
    clear e0 e1 e2 e3 e4 e5 e6 e7 e8 e9 e10 e11 e12 e13 hfz q0 b0 b1 b2 b3 b4 b5 b6 b7 HK D HXA HS5 HB5 HON
    go_wp2
    go_ret2
    unfold PostO
    rw [HE.out.1, HE.out.2.1, HE.out.2.2]
    exact ⟨rfl, HP.out, HG.out⟩

theorem spost_any {C : Nat → Prop} {w : World} {p b n : Nat} {L : List Sl} {h : Qh} {r : Rq} (hS : SlO C w p b n L) (hC : ¬ C b) (hCn : ∀ k, w.heap.size ≤ k → C k) (hr : RqR w h r) (hs : smallQ r = true) :
    Calls Try.prog 10 #[.pointer (some ⟨p, 0, none⟩), rqV h r] w (PostO C w p b n L r) := by
  cases hm : mayQ r
  · exact post_may hS hr hs hm
  · cases hv : servesB L r.cl
    · rcases fst_some (p := fun k => (sl L k).st == 0) (n := L.length) with ⟨i, g1, g2, g3, g4⟩ | ⟨g1, g2⟩
      · exact post_yes hS hC hCn hr hs hm hv g2 (by rw [← hS.len]; exact g1)
      · exact post_full hS hr hs hm hv g1
    · exact post_twice hS hr hs hm hv
end Go.Proofs.Ytojofhmhmcchnaa
