/- The contract of package omap's answer: a scan; any request. Condition: as there. -/
import Derived.Test.YtdhgogepjedonaaWi
namespace Go.Proofs.Ytdhgogepjedonaa
open Go.RowKit
set_option linter.unusedVariables false
set_option maxRecDepth 100000

theorem rsr_rows {C : Nat → Prop} {w : World} {B : Option Addr} {m d : Nat} {P : List Pr} (h : On C w (Prs · B m d P)) : On C w (RsR · ⟨none, 0, 0, B, m, d⟩ ⟨0, false, [], P⟩) := fun v hv => ⟨byt_none v, h v hv⟩

set_option maxHeartbeats 8000000 in
theorem ans_scan {w : World} {A : Option Addr} {n c : Nat} {L : List Pr} {h : Qh} {r : Rq} (hp : Prs w A n c L) (hr : RqR w h r) (hs : smallQ r = true) (hfit : Fit L) (hn : n ≤ 900) (most : Int) (hm : mayQ r = true) (hk : r.kind = 6) :
    Calls Try.prog 36 #[.slice A n c, rqV h r, .int .i64 most] w (AnsO (w.heap.size + 1 + 1 ≤ ·) w (ansQ L r most)) := by
  obtain ⟨l1, l2, l3, l4⟩ := small_lens hs
  obtain ⟨V, hV, hVB, hVQ, hVZ, hVs⟩ := box_qs w h r
  have HMAY := may_lit (hr.below hVB) hs
  rw [hm] at HMAY
  have HMY := Lib.hid HMAY
  clear HMAY
  have HSL := Lib.hid (fun (w1 : World) (lim : Nat) (hl : lim ≤ 1000) (hb : Below w.heap.size w w1) => slice_lim h.c h.s lim hl (hp.below hb) (hr.1.below hb) (hr.2.2.2.below hb) hfit.1 (small_fit hfit) (by omega))
  have HSP := Lib.hid (fun (w1 : World) => qspan_any w1 h r)
  have hlim : 1 ≤ r.limit ∧ r.limit ≤ 100 := by
    unfold mayQ at hm
    rw [if_pos hk] at hm
    simp at hm
    omega
  have HA := Lib.hid (show ansQ L r most = (⟨0, false, [], (cutL L r.key r.to_).take r.limit.toNat⟩, false) by
    unfold ansQ
    rw [if_neg (by rw [hm]; decide), if_pos hk])
  have HQ := Lib.hid hVQ
  have HB := Lib.hid hVB
  have HZ := Lib.hid hVZ
  have hVe := Lib.hid hV
  have hwl : w.heap.size + 1 < V.heap.size := by omega
  clear hp hr hs hfit hm hV hVB hVQ hVZ hVs l1 l2 l3 l4
  obtain ⟨cl, sq, kind, key, val, old, to_, limit⟩ := r
  obtain ⟨A1, n1, c1, B1, m1, d1, C1, o1, p1, D1, q1, s1⟩ := h
  dsimp only at hk hlim
  subst hk
  obtain ⟨lim, rfl⟩ : ∃ l : Nat, limit = (l : Int) := ⟨limit.toNat, by omega⟩
  have hl2 : lim ≤ 1000 := by omega
  unfold rqV at HSP ⊢
  dsimp only at *
  rw [Int.toNat_natCast] at HA
  clear hlim
  go_enter Try.func36, Try.ntmps36
  go_wp2_with fail
  rw [← hVe.out]
  refine HMY.out.mono ?_
  rintro e w1 ⟨rfl, hb1⟩
  have HB1 := Lib.hid (HB.out.trans (hb1.mono HB.out.size))
  have HQ1 := Lib.hid (HQ.out.below hb1 (by omega))
  have HZ1 := Lib.hid (HZ.out.below hb1 hwl)
  have hw1 : w.heap.size + 1 < w1.heap.size := HZ1.out.lt
  obtain ⟨k0, k1, k2, k3, k4, k5, k6, k7⟩ := HQ1.out.cells
  dsimp only at k0 k1 k2 k3 k4 k5 k6 k7
  clear hb1 HMY HQ HZ hVe hwl
  go_upto_region 4 with fail
  have D := Lib.hid (HSP.out w1.drew)
  have z1 : ¬ (w.heap.size = w.heap.size + 1) := by omega
  have z2 : ¬ (w.heap.size + 1 = w.heap.size) := by omega
  clear HSP
  go_region_held3 (fun w' => w'.cell? ⟨w.heap.size, 0, none⟩ = some (.int .i64 cl) ∧ w'.cell? ⟨w.heap.size, 1, none⟩ = some (.int .i64 sq) ∧ w'.cell? ⟨w.heap.size, 2, none⟩ = some (.int .i64 6) ∧ w'.cell? ⟨w.heap.size, 3, none⟩ = some (.slice A1 n1 c1) ∧ w'.cell? ⟨w.heap.size, 4, none⟩ = some (.slice B1 m1 d1) ∧ w'.cell? ⟨w.heap.size, 5, none⟩ = some (.slice C1 o1 p1) ∧ w'.cell? ⟨w.heap.size, 6, none⟩ = some (.slice D1 q1 s1) ∧ w'.cell? ⟨w.heap.size, 7, none⟩ = some (.int .i64 lim)) (go_keep)
    (first
      | (go_at_call 49
         (with_reducible refine D.out.mono ?_)
         rintro e w3 ⟨rfl, hb3⟩
         have hb3 : Below w1.heap.size w1 w3 := undrew hb3
         have HQ3 := Lib.hid (HQ1.out.below hb3 (by omega))
         have HZ3 := Lib.hid (HZ1.out.below hb3 hw1)
         have HB3 := Lib.hid (HB1.out.trans (hb3.mono HB1.out.size))
         obtain ⟨k0, k1, k2, k3, k4, k5, k6, k7⟩ := HQ3.out.cells
         dsimp only at k0 k1 k2 k3 k4 k5 k6 k7
         have hw3 : w.heap.size + 1 < w3.heap.size := HZ3.out.lt
         have E := Lib.hid (HSL.out w3 lim hl2 HB3.out)
         clear hb3)
      | (go_at_call 52
         (with_reducible refine E.out.mono ?_)
         rintro e w4 ⟨A2, n2, c2, rfl, hp4, hb4⟩
         have HQ4 := Lib.hid (HQ3.out.below hb4 (by omega))
         have HZ4 := Lib.hid (HZ3.out.below hb4 hw3)
         have HB4 := Lib.hid (HB3.out.trans (hb4.mono HB3.out.size))
         have HP4 := Lib.hid (told_on (B := w.heap.size + 1 + 1) hp4 hw3)
         obtain ⟨k0, k1, k2, k3, k4, k5, k6, k7⟩ := HQ4.out.cells
         dsimp only at k0 k1 k2 k3 k4 k5 k6 k7
         obtain ⟨t0, t1, t2, t3, t4, f0, f1, f2, f3, f4⟩ := HZ4.out.cells
         clear hb4 hp4))
  clear k0 k1 k2 k3 k4 k5 k6 k7 D E
  go_wp2
  refine bodyPost_ret (v := .tuple #[rsV ⟨none, 0, 0, A2, n2, c2⟩ ⟨0, false, [], (cutL L key to_).take lim⟩, .bool false]) (by simp [results, Try.results36, go_sem, t0, t1, t2, t3, t4, rsV]) rfl (AnsO.of HA.out rfl ((rsr_rows HP4.out).keep (five_agree w4 (b := w.heap.size + 1) 0 _ _ _ _ _ (by omega))) ?_)
  exact five_below HB4.out (b := w.heap.size + 1) (by omega) 0 _ _ _ _ _

theorem ans_any {w : World} {A : Option Addr} {n c : Nat} {L : List Pr} {h : Qh} {r : Rq} (hp : Prs w A n c L) (hr : RqR w h r) (hs : smallQ r = true) (hfit : Fit L) (hn : n ≤ 900) (most : Int) :
    Calls Try.prog 36 #[.slice A n c, rqV h r, .int .i64 most] w (AnsO (w.heap.size + 1 + 1 ≤ ·) w (ansQ L r most)) := by
  cases hm : mayQ r
  · exact ans_no hr hs most hm
  · by_cases h6 : r.kind = 6
    · exact ans_scan hp hr hs hfit hn most hm h6
    · obtain ⟨-, -, -, h1, h5, -⟩ := may_fair hm h6
      have hk : r.kind = 1 ∨ r.kind = 2 ∨ r.kind = 3 ∨ r.kind = 4 ∨ r.kind = 5 := by omega
      rcases hk with hk | hk | hk | hk | hk
      · exact ans_get hp hr hs hfit hn most hm hk
      · exact ans_put hp hr hs hfit hn most hm hk
      · exact ans_del hp hr hs hfit hn most hm hk
      · exact ans_absent hp hr hs hfit hn most hm hk
      · exact ans_swap hp hr hs hfit hn most hm hk
end Go.Proofs.Ytdhgogepjedonaa
