/- The contract of package omap's answer where a key is deleted. Condition: as there. -/
import Derived.Test.YtdhgogepjedonaaWh
namespace Go.Proofs.Ytdhgogepjedonaa
open Go.RowKit
set_option linter.unusedVariables false
set_option maxRecDepth 100000

set_option maxHeartbeats 8000000 in
theorem ans_del {w : World} {A : Option Addr} {n c : Nat} {L : List Pr} {h : Qh} {r : Rq} (hp : Prs w A n c L) (hr : RqR w h r) (hs : smallQ r = true) (hfit : Fit L) (hn : n ≤ 900) (most : Int) (hm : mayQ r = true) (hk : r.kind = 3) :
    Calls Try.prog 36 #[.slice A n c, rqV h r, .int .i64 most] w (AnsO (w.heap.size + 1 + 1 ≤ ·) w (ansQ L r most)) := by
  obtain ⟨l1, l2, l3, l4⟩ := small_lens hs
  obtain ⟨V, hV, hVB, hVQ, hVZ, hVs⟩ := box_qs w h r
  have HMAY := may_lit (hr.below hVB) hs
  rw [hm] at HMAY
  have HMY := Lib.hid HMAY
  clear HMAY
  have HF := Lib.hid (fun (w1 : World) (hb : Below V.heap.size V w1) => found_lit h.c (hp.below (hVB.trans (hb.mono hVB.size))) (hr.1.below (hVB.trans (hb.mono hVB.size))) hfit.1 (small_fit hfit) (by omega))
  have HO := Lib.hid (fun (w1 : World) (hb : Below w.heap.size w w1) => hr.2.2.1.below hb)
  have hlen := hp.len
  have HA := Lib.hid (show ansQ L r most = (wasQ L r.key, hasB L r.key) by
    unfold ansQ
    rw [if_neg (by rw [hm]; decide), if_neg (by rw [hk]; decide), if_neg (by rw [hk]; decide), if_pos hk])
  have HQ := Lib.hid hVQ
  have HB := Lib.hid hVB
  have HZ := Lib.hid hVZ
  have hVe := Lib.hid hV
  have hsz := Lib.hid hVs
  have hwl : w.heap.size + 1 < V.heap.size := by omega
  clear hp hr hs hfit hm hV hVB hVQ hVZ hVs l1 l2 l3 l4 hlen
  obtain ⟨cl, sq, kind, key, val, old, to_, limit⟩ := r
  obtain ⟨A1, n1, c1, B1, m1, d1, C1, o1, p1, D1, q1, s1⟩ := h
  dsimp only at hk
  subst hk
  unfold rqV
  dsimp only at *
  go_enter Try.func36, Try.ntmps36
  go_wp2_with fail
  rw [← hVe.out]
  refine HMY.out.mono ?_
  rintro e w1 ⟨rfl, hb1⟩
  have HB1 := Lib.hid hb1
  have HQ1 := Lib.hid (HQ.out.below hb1 (by omega))
  have HZ1 := Lib.hid (HZ.out.below hb1 hwl)
  have hw1 : w.heap.size + 1 < w1.heap.size := HZ1.out.lt
  obtain ⟨k2, k3, k5⟩ := HQ1.out.three
  dsimp only at k2 k3 k5
  clear hb1 HMY HQ HZ hVe
  go_wp2_with fail
  refine (HF.out w1 HB1.out).mono ?_
  rintro e w2 ⟨h8, rfl, hon, hb2⟩
  have HB2 := Lib.hid (HB.out.trans ((HB1.out.trans (hb2.mono HB1.out.size)).mono HB.out.size))
  have HQ2 := Lib.hid (HQ1.out.below hb2 (by omega))
  have HZ2 := Lib.hid (HZ1.out.below hb2 hw1)
  have HON := Lib.hid (told_on (B := w.heap.size + 1 + 1) hon hw1)
  have hw2 : w.heap.size + 1 < w2.heap.size := HZ2.out.lt
  clear hb2 hon HF HB1 k2 k3 k5 HQ1 HZ1 hw1
  obtain ⟨hb, hhb⟩ : ∃ hb, hb = hasB L key := ⟨_, rfl⟩
  go_upto_region 6 with fail
  obtain ⟨w3, hw3, hb3, hs3, x0, x1, x2, x3, x4⟩ := box_was w2 h8 L key hb hhb
  rw [← hhb, ← hw3]
  have HB3 := Lib.hid (HB2.out.trans (hb3.mono HB2.out.size))
  have HQ3 := Lib.hid (HQ2.out.below hb3 (by omega))
  have HZ3 := Lib.hid (HZ2.out.below hb3 hw2)
  have HON3 := Lib.hid (HON.out.keep (below_all hb3))
  have hw23 : w2.heap.size < w3.heap.size := by omega
  have hne1 : ¬ (w.heap.size = w2.heap.size) := by omega
  have hne2 : ¬ (w2.heap.size = w.heap.size) := by omega
  have hne3 : ¬ (w.heap.size + 1 = w2.heap.size) := by omega
  have hne4 : ¬ (w2.heap.size = w.heap.size + 1) := by omega
  obtain ⟨k2, k3, k5⟩ := HQ3.out.three
  obtain ⟨t0, t1, t2, t3, t4, f0, f1, f2, f3, f4⟩ := HZ3.out.cells
  dsimp only at k2 k3 k5
  have HHB := Lib.hid hhb
  clear hw3 hb3 hs3 HB2 HQ2 HZ2 HON hhb
  go_upto_region 10 with fail
  go_region
  go_wp2
  refine bodyPost_ret (v := .tuple #[rsV h8 (wasQ L key), .bool (hasB L key)]) (by simp [results, Try.results36, go_sem, t0, t1, t2, t3, t4, rsV, wasQ, HHB.out]) rfl (AnsO.of HA.out rfl (HON3.out.keep (five_agree w3 (b := w.heap.size + 1) 0 _ _ _ _ _ (by omega))) ?_)
  exact (five_below HB3.out (b := w.heap.size + 1) (by omega) 0 _ _ _ _ _).drew

end Go.Proofs.Ytdhgogepjedonaa
