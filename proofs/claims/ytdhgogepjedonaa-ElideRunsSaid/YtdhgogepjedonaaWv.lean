/- The contract of the document's own Do: in what blocks lies what it tells. Condition: a row of no more than 900 pairs; a request whose slices have at most 100 bytes; what came in can be read. -/
import Derived.Test.YtdhgogepjedonaaWu
import Derived.BigRegion
namespace Go.Proofs.Ytdhgogepjedonaa
open Go.RowKit
set_option linter.unusedVariables false
set_option maxRecDepth 100000

/-- What the document's own Do leaves. -/
def DoO (E : Nat → Prop) (w : World) (N : List Pr) (s : Rs) (e : Ending) (w' : World) : Prop :=
  ∃ (A1 : Option Addr) (n1 c1 : Nat) (h1 : Sh), e = .returned (.tuple #[.slice A1 n1 c1, rsV h1 s]) ∧ On (fun b => E b ∨ w.heap.size ≤ b) w' (Prs · A1 n1 c1 N) ∧ On (fun b => E b ∨ w.heap.size ≤ b) w' (RsR · h1 s) ∧ Below w.heap.size w w'
theorem dmay_lit {w : World} {h : Qh} {r : Rq} (hr : RqR w h r) (hs : smallQ r = true) : Calls Try.prog 13 #[.agg #[.int .i64 r.cl, .int .i64 r.sq, .int .i64 r.kind, .slice h.A h.n h.c, .slice h.B h.m h.d, .slice h.C h.o h.p, .slice h.D h.q h.s, .int .i64 r.limit]] w fun e w' => e = .returned (.bool (mayQ r)) ∧ Below w.heap.size w w' := dmay_any hr hs
theorem DoO.of {E : Nat → Prop} {w w' : World} {A1 : Option Addr} {n1 c1 : Nat} {h1 : Sh} {N N' : List Pr} {s s' : Rs} {e : Ending} (hN : N' = N) (hs : s' = s) (he : e = .returned (.tuple #[.slice A1 n1 c1, rsV h1 s])) (hp : On (fun b => E b ∨ w.heap.size ≤ b) w' (Prs · A1 n1 c1 N)) (hr : On (fun b => E b ∨ w.heap.size ≤ b) w' (RsR · h1 s)) (hb : Below w.heap.size w w') : DoO E w N' s' e w' := by
  subst hN
  subst hs
  exact ⟨A1, n1, c1, h1, he, hp, hr, hb⟩
theorem set_code {w : World} {b : Nat} {h : Sh} {s : Rs} (hb : BoxS w b h s) (k : Int) : ∃ W, W = w.setCell ⟨b, 0, none⟩ (.int .i64 k) ∧ BoxS W b h { s with code := k } ∧ Agree (· ≠ b) w W ∧ (∀ B a, Below B a w → B ≤ b → Below B a W) := by
  refine ⟨_, rfl, ?_, agree_set w ⟨b, 0, none⟩ (.int .i64 k) (by simp), fun B a h hB => h.setCell hB _⟩
  unfold BoxS at hb ⊢
  simp [World.setCell, Array.getElem?_modify, hb]
/-- Nothing told lies in the result's own block. -/
theorem off_res {E : Nat → Prop} {w : World} (hE : ∀ b, E b → b < w.heap.size) : ¬ E (w.heap.size + 1) := fun h => by have := hE _ h; omega

set_option maxHeartbeats 8000000 in
theorem ddo_no {E : Nat → Prop} {w : World} {A : Option Addr} {n c : Nat} {L : List Pr} {h : Qh} {r : Rq} (hp : On E w (Prs · A n c L)) (hr : On E w (RqR · h r)) (hE : ∀ b, E b → b < w.heap.size) (hs : smallQ r = true) (most : Int) (hm : mayQ r = false) :
    Calls Try.prog 28 #[.slice A n c, rqV h r, .int .i64 most] w (DoO E w (nextQ L r most) (ansQ L r most).1) := by
  obtain ⟨V, hV, hVB, hVQ, hVZ, hVs⟩ := box_qs w h r
  have HMAY := dmay_lit (hr.here.below hVB) hs
  rw [hm] at HMAY
  have HMY := Lib.hid HMAY
  clear HMAY
  have HQ := Lib.hid hVQ
  have HB := Lib.hid hVB
  have HZ := Lib.hid hVZ
  have hVe := Lib.hid hV
  have hwl : w.heap.size + 1 < V.heap.size := by omega
  have hans : ansQ L r most = (errQ 1, false) := if_pos hm
  have HA := Lib.hid (show nextQ L r most = L ∧ (ansQ L r most).1 = errQ 1 by
    unfold nextQ
    rw [hans]
    exact ⟨rfl, rfl⟩)
  have HP := Lib.hid (hp.keep (below_all hVB))
  have HE := Lib.hid hE
  obtain ⟨c0, c1, c2, c3, c4, c5, c6, c7⟩ := hVQ.cells
  clear hp hr hs hm hV hVB hVQ hVZ hVs hans hE
  unfold rqV
  go_enter Try.func28, Try.ntmps28
  go_wp2_with fail
  rw [← hVe.out]
  refine HMY.out.mono ?_
  rintro e w1 ⟨rfl, hb1⟩
  have hx := HZ.out.below hb1 hwl
  obtain ⟨t0, t1, t2, t3, t4, f0, f1, f2, f3, f4⟩ := hx.cells
  have HB1 := Lib.hid (HB.out.trans (hb1.mono HB.out.size))
  have HP1 := Lib.hid (HP.out.keep (below_all hb1))
  clear hb1 HMY hx c0 c1 c2 c3 c4 c5 c6 c7 HQ
  go_wp2
  refine bodyPost_ret (v := .tuple #[.slice A n c, rsV sh0 (errQ 1)]) (by simp [results, Try.results28, go_sem, t0, t1, t2, t3, t4, rsV, sh0, errQ]) rfl (DoO.of HA.out.1 HA.out.2 rfl ((HP1.out.keep (five_agree w1 (b := w.heap.size + 1) 0 _ _ _ _ _ (off_res HE.out))).mono fun b hb => .inl hb) (err_on _ _ 1) ?_)
  exact five_below HB1.out (b := w.heap.size + 1) (by omega) 0 _ _ _ _ _

set_option maxHeartbeats 8000000 in
theorem ddo_scan {E : Nat → Prop} {w : World} {A : Option Addr} {n c : Nat} {L : List Pr} {h : Qh} {r : Rq} (hp : On E w (Prs · A n c L)) (hr : On E w (RqR · h r)) (hE : ∀ b, E b → b < w.heap.size) (hs : smallQ r = true) (hfit : Fit L) (hn : n ≤ 900) (most : Int) (hm : mayQ r = true) (hk : r.kind = 6) :
    Calls Try.prog 28 #[.slice A n c, rqV h r, .int .i64 most] w (DoO E w (nextQ L r most) (ansQ L r most).1) := by
  obtain ⟨l1, l2, l3, l4⟩ := small_lens hs
  obtain ⟨V, hV, hVB, hVQ, hVZ, hVs⟩ := box_qs w h r
  have HMAY := dmay_lit (hr.here.below hVB) hs
  rw [hm] at HMAY
  have HMY := Lib.hid HMAY
  clear HMAY
  have HQ := Lib.hid hVQ
  have HB := Lib.hid hVB
  have HZ := Lib.hid hVZ
  have hVe := Lib.hid hV
  have hwl : w.heap.size + 1 < V.heap.size := by omega
  have hlim : 1 ≤ r.limit ∧ r.limit ≤ 100 := by
    unfold mayQ at hm
    rw [if_pos hk] at hm
    simp at hm
    omega
  have hans : ansQ L r most = (⟨0, false, [], (cutL L r.key r.to_).take r.limit.toNat⟩, false) := by
    unfold ansQ
    rw [if_neg (by rw [hm]; decide), if_pos hk]
  have HA := Lib.hid (show nextQ L r most = L ∧ (ansQ L r most).1 = ⟨0, false, [], (cutL L r.key r.to_).take r.limit.toNat⟩ by
    unfold nextQ
    rw [hans]
    exact ⟨rfl, rfl⟩)
  have HP := Lib.hid (hp.keep (below_all hVB))
  have HE := Lib.hid hE
  have HSL := Lib.hid (fun (w1 : World) (lim : Nat) (hl : lim ≤ 1000) (hb : Below w.heap.size w w1) => rslice_on h.c h.s lim (hp.keep (below_all hb)) (hr.here.1.below hb) (hr.here.2.2.2.below hb) (small_fit hfit) (by omega) (by rw [← hr.here.1.1]; omega) (by rw [← hr.here.2.2.2.1]; omega) hl)
  clear hp hr hs hm hV hVB hVQ hVZ hVs hans hE l1 l2 l3 l4 hfit
  obtain ⟨cl, sq, kind, key, val, old, to_, limit⟩ := r
  obtain ⟨A1, n1, c1, B1, m1, d1, C1, o1, p1, D1, q1, s1⟩ := h
  dsimp only at hk hlim
  subst hk
  obtain ⟨lim, rfl⟩ : ∃ l : Nat, limit = (l : Int) := ⟨limit.toNat, by omega⟩
  have hl2 : lim ≤ 1000 := by omega
  unfold rqV
  dsimp only at *
  rw [Int.toNat_natCast] at HA
  clear hlim
  go_enter Try.func28, Try.ntmps28
  go_wp2_with fail
  rw [← hVe.out]
  refine HMY.out.mono ?_
  rintro e w1 ⟨rfl, hb1⟩
  have HB1 := Lib.hid (HB.out.trans (hb1.mono HB.out.size))
  have HP1 := Lib.hid (HP.out.keep (below_all hb1))
  have HQ1 := Lib.hid (HQ.out.below hb1 (by omega))
  have HZ1 := Lib.hid (HZ.out.below hb1 hwl)
  have hw1 : w.heap.size + 1 < w1.heap.size := HZ1.out.lt
  obtain ⟨k0, k1, k2, k3, k4, k5, k6, k7⟩ := HQ1.out.cells
  dsimp only at k0 k1 k2 k3 k4 k5 k6 k7
  have HD := Lib.hid (HSL.out w1 lim hl2 HB1.out)
  clear hb1 HMY HQ HZ hVe HP HSL hwl
  go_wp2_with fail
  refine HD.out.mono ?_
  rintro e w2 ⟨A2, n2, c2, rfl, hp2, hb2⟩
  have hx := HZ1.out.below hb2 hw1
  obtain ⟨t0, t1, t2, t3, t4, f0, f1, f2, f3, f4⟩ := hx.cells
  have HB2 := Lib.hid (HB1.out.trans (hb2.mono HB1.out.size))
  have HP2 := Lib.hid (HP1.out.keep (below_all hb2))
  have HR2 := Lib.hid (rsr_rows (hp2.mono (C' := fun b => E b ∨ w.heap.size + 1 + 1 ≤ b) (fun b hb => hb.imp id fun h => by omega)))
  clear hp2 hb2 hx HD k0 k1 k2 k3 k4 k5 k6 k7 HQ1 HZ1
  go_wp2
  refine bodyPost_ret (v := .tuple #[.slice A n c, rsV ⟨none, 0, 0, A2, n2, c2⟩ ⟨0, false, [], (cutL L key to_).take lim⟩]) (by simp [results, Try.results28, go_sem, t0, t1, t2, t3, t4, rsV]) rfl (DoO.of HA.out.1 HA.out.2 rfl ((HP2.out.keep (five_agree w2 (b := w.heap.size + 1) 0 _ _ _ _ _ (off_res HE.out))).mono fun b hb => .inl hb) ((HR2.out.keep (five_agree w2 (b := w.heap.size + 1) 0 _ _ _ _ _ (fun hc => by
    rcases hc with h | h
    · exact off_res HE.out h
    · omega))).mono fun b hb => hb.imp id fun h => by omega) ?_)
  exact five_below HB2.out (b := w.heap.size + 1) (by omega) 0 _ _ _ _ _

theorem box_was2 (w : World) (A : Option Addr) (n c : Nat) (is : Bool) (v : Ky) : ∃ W, W = w.alloc (.cells #[.int .i64 0, .bool is, .slice A n c, .slice none 0 0, .int .u64 0] 52) ∧ Below w.heap.size w W ∧ BoxS W w.heap.size ⟨A, n, c, none, 0, 0⟩ ⟨0, is, v, []⟩ ∧ W.heap.size = w.heap.size + 1 := box_s w ⟨A, n, c, none, 0, 0⟩ ⟨0, is, v, []⟩

set_option maxHeartbeats 16000000 in
theorem ddo_get_true {E : Nat → Prop} {w : World} {A : Option Addr} {n c : Nat} {L : List Pr} {h : Qh} {r : Rq} (hp : On E w (Prs · A n c L)) (hr : On E w (RqR · h r)) (hE : ∀ b, E b → b < w.heap.size) (hs : smallQ r = true) (hfit : Fit L) (hn : n ≤ 900) (most : Int) (hm : mayQ r = true) (hk : r.kind = 1) (hi : hasB L r.key = true) :
    Calls Try.prog 28 #[.slice A n c, rqV h r, .int .i64 most] w (DoO E w (nextQ L r most) (ansQ L r most).1) := by
  obtain ⟨l1, l2, l3, l4⟩ := small_lens hs
  obtain ⟨V, hV, hVB, hVQ, hVZ, hVs⟩ := box_qs w h r
  have HMAY := dmay_lit (hr.here.below hVB) hs
  rw [hm] at HMAY
  have HMY := Lib.hid HMAY
  clear HMAY
  have hlen := hp.here.len
  have HA : Hid (nextQ L r most = L ∧ (ansQ L r most).1 = ⟨0, true, valP L r.key, []⟩) := Lib.hid (by
    have hans : ansQ L r most = (⟨0, true, valP L r.key, []⟩, false) := by
      unfold ansQ
      rw [if_neg (by rw [hm]; decide), if_neg (by rw [hk]; decide), if_neg (by rw [hk]; decide), if_neg (by rw [hk]; decide), if_neg (by rw [hk]; decide), if_neg (by rw [hk]; decide)]
      unfold wasQ
      rw [hi]
    unfold nextQ
    rw [hans]
    exact ⟨rfl, rfl⟩)
  have HGET := Lib.hid (fun (w1 : World) (hb : Below w.heap.size w w1) => rget_on h.c (hp.keep (below_all hb)) (hr.here.1.below hb) hfit.1 (small_fit hfit) (by rw [← hr.here.1.1]; omega))
  have HFIT := Lib.hid hfit
  have HRQ := Lib.hid hr
  have hkl : h.n ≤ 1000 := by rw [← hr.here.1.1]; omega
  have HP := Lib.hid hp
  have HQ := Lib.hid hVQ
  have HB := Lib.hid hVB
  have HZ := Lib.hid hVZ
  have HE := Lib.hid hE
  have hVe := Lib.hid hV
  have hwl : w.heap.size + 1 < V.heap.size := by omega
  clear hp hr hs hfit hm hV hVB hVQ hVZ hVs hE l1 l2 l3 l4 hlen
  obtain ⟨cl, sq, kind, key, val, old, to_, limit⟩ := r
  obtain ⟨A1, n1, c1, B1, m1, d1, C1, o1, p1, D1, q1, s1⟩ := h
  unfold rqV
  dsimp only at *
  subst hk
  have HIS := Lib.hid hi
  clear hi
  go_enter Try.func28, Try.ntmps28
  go_wp2_with fail
  rw [← hVe.out]
  refine HMY.out.mono ?_
  rintro e w1 ⟨rfl, hb1⟩
  have HB1 := Lib.hid (HB.out.trans (hb1.mono HB.out.size))
  have HQ1 := Lib.hid (HQ.out.below hb1 (by omega))
  have HZ1 := Lib.hid (HZ.out.below hb1 hwl)
  have hw1 : w.heap.size + 1 < w1.heap.size := HZ1.out.lt
  obtain ⟨k0, k1, k2, k3, k4, k5, k6, k7⟩ := HQ1.out.cells
  dsimp only at k0 k1 k2 k3 k4 k5 k6 k7
  have HG := HGET.out w1 HB1.out
  rw [HIS.out] at HG
  have HG1 := Lib.hid HG
  clear hb1 HMY HQ HZ HB hVe HG HGET hwl
  go_wp2_with fail
  refine HG1.out.mono ?_
  rintro e w2 ⟨A2, n2, c2, rfl, hv2, hb2⟩
  have HB2 := Lib.hid (HB1.out.trans (hb2.mono HB1.out.size))
  have HQ2 := Lib.hid (HQ1.out.below hb2 (by omega))
  have HZ2 := Lib.hid (HZ1.out.below hb2 hw1)
  have HV2 := Lib.hid hv2
  have hw2 : w.heap.size + 1 < w2.heap.size := HZ2.out.lt
  clear hb2 hv2 HG1 k0 k1 k2 k3 k4 k5 k6 k7 HQ1 HZ1 HB1 hw1
  go_upto_region 8 with fail
  obtain ⟨w3, hw3, hb3, hx3, hs3⟩ := box_was2 w2 A2 n2 c2 true (valP L key)
  rw [← hw3]
  have HB3 := Lib.hid (HB2.out.trans (hb3.mono HB2.out.size))
  have HQ3 := Lib.hid (HQ2.out.below hb3 (by omega))
  have HZ3 := Lib.hid (HZ2.out.below hb3 hw2)
  have HX3 := Lib.hid hx3
  have HV3 := Lib.hid (HV2.out.keep (below_all hb3))
  have HP3 := Lib.hid (HP.out.keep (below_all HB3.out))
  have HR3 := Lib.hid (HRQ.out.keep (below_all HB3.out))
  have HON3 := Lib.hid (show On E w3 (RsR · ⟨A2, n2, c2, none, 0, 0⟩ ⟨0, true, valP L key, []⟩) from rsr_byt 0 true c2 HV3.out)
  have hw23 : w2.heap.size < w3.heap.size := by omega
  have hne1 : ¬ (w.heap.size = w2.heap.size) := by omega
  have hne2 : ¬ (w2.heap.size = w.heap.size) := by omega
  have hne3 : ¬ (w.heap.size + 1 = w2.heap.size) := by omega
  have hne4 : ¬ (w2.heap.size = w.heap.size + 1) := by omega
  have hne5 : ¬ (w.heap.size = w.heap.size + 1) := by omega
  have hne6 : ¬ (w.heap.size + 1 = w.heap.size) := by omega
  obtain ⟨k0, k1, k2, k3, k4, k5, k6, k7⟩ := HQ3.out.cells
  obtain ⟨x0, x1, x2, x3, x4, xf0, -, -, -, -⟩ := HX3.out.cells
  obtain ⟨t0, t1, t2, t3, t4, f0, f1, f2, f3, f4⟩ := HZ3.out.cells
  dsimp only at k0 k1 k2 k3 k4 k5 k6 k7 x0 x1 x2 x3 x4
  clear hw3 hb3 hs3 HB2 HQ2 HZ2 HV2 HP HRQ
  go_upto_region 10 with fail
  clear k0 k1 k2 k3 k4 k5 k6 k7
  refine wp_region_held_drew (S := (fun w' => w'.cell? ⟨w2.heap.size, 0, none⟩ = some (.int .i64 0) ∧ w'.cell? ⟨w2.heap.size, 1, none⟩ = some (.bool true) ∧ w'.cell? ⟨w2.heap.size, 2, none⟩ = some (.slice A2 n2 c2) ∧ w'.cell? ⟨w2.heap.size, 3, none⟩ = some (.slice none 0 0) ∧ w'.cell? ⟨w2.heap.size, 4, none⟩ = some (.int .u64 0))) (by kernel_rfl) ?_ (fun hHeld => ?_)
  · go_keep
  have HB5 := Lib.hid (HB3.out.drew)
  have HP5 := Lib.hid (HP3.out.keep (below_all (Below.refl w3.heap.size w3).drew))
  have HON5 := Lib.hid (HON3.out.keep (below_all (Below.refl w3.heap.size w3).drew))
  have HZ5 := Lib.hid (show BoxS w3.drew (w.heap.size + 1) sh0 rs0 from HZ3.out)
  clear x0 x1 x2 x3 x4 t0 t1 t2 t3 t4 f0 f1 f2 f3 f4
  generalize w3.drew = w5 at hHeld HB5 HP5 HON5 HZ5 ⊢
  obtain ⟨t0, t1, t2, t3, t4, f0, f1, f2, f3, f4⟩ := HZ5.out.cells
  refine wpAnyH_take (i := 0) (v := .slice A n c) rfl (by kernel_rfl) (by kernel_rfl) (by kernel_rfl) (fun _ _ _ h => h) (Or.inl ⟨by rfl, fun w' hSw => ?_⟩) hHeld ?_
  · (try dsimp only at hSw)
    go_simp
  simp only [Act.put, List.getElem_toArray, List.getElem_cons_zero, List.setIfInBounds_toArray, List.set_cons_zero, List.set_cons_succ]
  refine wpAnyH_take (i := 1) (v := .agg #[.int .i64 0, .bool true, .slice A2 n2 c2, .slice none 0 0, .int .u64 0]) rfl (by kernel_rfl) (by kernel_rfl) (by kernel_rfl) (fun _ _ _ h => h) (Or.inl ⟨by rfl, fun w' hSw => ?_⟩) hHeld ?_
  · (try dsimp only at hSw)
    go_simp
  simp only [Act.put, List.getElem_toArray, List.getElem_cons_zero, List.getElem_cons_succ, List.setIfInBounds_toArray, List.set_cons_zero, List.set_cons_succ]
  refine wpAnyH_take (i := 2) (v := .slice A n c) rfl (by kernel_rfl) (by kernel_rfl) (by kernel_rfl) (fun _ _ _ h => h) (Or.inl ⟨by rfl, fun w' hSw => ?_⟩) hHeld ?_
  · (try dsimp only at hSw)
    go_simp
  simp only [Act.put, List.getElem_toArray, List.getElem_cons_zero, List.getElem_cons_succ, List.setIfInBounds_toArray, List.set_cons_zero, List.set_cons_succ]
  refine wpAnyH_ready (rs := [3]) (by kernel_rfl) (by simp) ?_
  refine AllReadyH.cons rfl (fun K hK => ?_) AllReadyH.nil
  go_simp
  refine hK.out _ _ (by go_keep) (fun hHeld2 => ?_)
  clear hK K hHeld2 hHeld
  refine wpAnyH_done (by kernel_rfl) ?_ _
  go_wp2
  refine bodyPost_ret (v := .tuple #[.slice A n c, rsV ⟨A2, n2, c2, none, 0, 0⟩ ⟨0, true, valP L key, []⟩]) (by simp [results, Try.results28, go_sem, t0, t1, t2, t3, t4, rsV]) rfl (DoO.of HA.out.1 HA.out.2 rfl ((HP5.out.keep (five_agree w5 (b := w.heap.size + 1) 0 _ _ _ _ _ (off_res HE.out))).mono fun b hb => .inl hb) ((HON5.out.keep (five_agree w5 (b := w.heap.size + 1) 0 _ _ _ _ _ (off_res HE.out))).mono fun b hb => .inl hb) ?_)
  exact five_below HB5.out (b := w.heap.size + 1) (by omega) 0 _ _ _ _ _

set_option maxHeartbeats 16000000 in
theorem ddo_del_true {E : Nat → Prop} {w : World} {A : Option Addr} {n c : Nat} {L : List Pr} {h : Qh} {r : Rq} (hp : On E w (Prs · A n c L)) (hr : On E w (RqR · h r)) (hE : ∀ b, E b → b < w.heap.size) (hs : smallQ r = true) (hfit : Fit L) (hn : n ≤ 900) (most : Int) (hm : mayQ r = true) (hk : r.kind = 3) (hi : hasB L r.key = true) :
    Calls Try.prog 28 #[.slice A n c, rqV h r, .int .i64 most] w (DoO E w (nextQ L r most) (ansQ L r most).1) := by
  obtain ⟨l1, l2, l3, l4⟩ := small_lens hs
  obtain ⟨V, hV, hVB, hVQ, hVZ, hVs⟩ := box_qs w h r
  have HMAY := dmay_lit (hr.here.below hVB) hs
  rw [hm] at HMAY
  have HMY := Lib.hid HMAY
  clear HMAY
  have hlen := hp.here.len
  have HA : Hid (nextQ L r most = delL L r.key ∧ (ansQ L r most).1 = ⟨0, true, valP L r.key, []⟩) := Lib.hid (by
    have hans : ansQ L r most = (⟨0, true, valP L r.key, []⟩, true) := by
      unfold ansQ
      rw [if_neg (by rw [hm]; decide), if_neg (by rw [hk]; decide), if_neg (by rw [hk]; decide), if_pos hk]
      unfold wasQ
      rw [hi]
    unfold nextQ writeQ
    rw [hans, if_pos hk]
    exact ⟨rfl, rfl⟩)
  have HGET := Lib.hid (fun (w1 : World) (hb : Below w.heap.size w w1) => rget_on h.c (hp.keep (below_all hb)) (hr.here.1.below hb) hfit.1 (small_fit hfit) (by rw [← hr.here.1.1]; omega))
  have HFIT := Lib.hid hfit
  have HRQ := Lib.hid hr
  have hkl : h.n ≤ 1000 := by rw [← hr.here.1.1]; omega
  have HP := Lib.hid hp
  have HQ := Lib.hid hVQ
  have HB := Lib.hid hVB
  have HZ := Lib.hid hVZ
  have HE := Lib.hid hE
  have hVe := Lib.hid hV
  have hwl : w.heap.size + 1 < V.heap.size := by omega
  clear hp hr hs hfit hm hV hVB hVQ hVZ hVs hE l1 l2 l3 l4 hlen
  obtain ⟨cl, sq, kind, key, val, old, to_, limit⟩ := r
  obtain ⟨A1, n1, c1, B1, m1, d1, C1, o1, p1, D1, q1, s1⟩ := h
  unfold rqV
  dsimp only at *
  subst hk
  have HIS := Lib.hid hi
  clear hi
  go_enter Try.func28, Try.ntmps28
  go_wp2_with fail
  rw [← hVe.out]
  refine HMY.out.mono ?_
  rintro e w1 ⟨rfl, hb1⟩
  have HB1 := Lib.hid (HB.out.trans (hb1.mono HB.out.size))
  have HQ1 := Lib.hid (HQ.out.below hb1 (by omega))
  have HZ1 := Lib.hid (HZ.out.below hb1 hwl)
  have hw1 : w.heap.size + 1 < w1.heap.size := HZ1.out.lt
  obtain ⟨k0, k1, k2, k3, k4, k5, k6, k7⟩ := HQ1.out.cells
  dsimp only at k0 k1 k2 k3 k4 k5 k6 k7
  have HG := HGET.out w1 HB1.out
  rw [HIS.out] at HG
  have HG1 := Lib.hid HG
  clear hb1 HMY HQ HZ HB hVe HG HGET hwl
  go_wp2_with fail
  refine HG1.out.mono ?_
  rintro e w2 ⟨A2, n2, c2, rfl, hv2, hb2⟩
  have HB2 := Lib.hid (HB1.out.trans (hb2.mono HB1.out.size))
  have HQ2 := Lib.hid (HQ1.out.below hb2 (by omega))
  have HZ2 := Lib.hid (HZ1.out.below hb2 hw1)
  have HV2 := Lib.hid hv2
  have hw2 : w.heap.size + 1 < w2.heap.size := HZ2.out.lt
  clear hb2 hv2 HG1 k0 k1 k2 k3 k4 k5 k6 k7 HQ1 HZ1 HB1 hw1
  go_upto_region 8 with fail
  obtain ⟨w3, hw3, hb3, hx3, hs3⟩ := box_was2 w2 A2 n2 c2 true (valP L key)
  rw [← hw3]
  have HB3 := Lib.hid (HB2.out.trans (hb3.mono HB2.out.size))
  have HQ3 := Lib.hid (HQ2.out.below hb3 (by omega))
  have HZ3 := Lib.hid (HZ2.out.below hb3 hw2)
  have HX3 := Lib.hid hx3
  have HV3 := Lib.hid (HV2.out.keep (below_all hb3))
  have HP3 := Lib.hid (HP.out.keep (below_all HB3.out))
  have HR3 := Lib.hid (HRQ.out.keep (below_all HB3.out))
  have HON3 := Lib.hid (show On E w3 (RsR · ⟨A2, n2, c2, none, 0, 0⟩ ⟨0, true, valP L key, []⟩) from rsr_byt 0 true c2 HV3.out)
  have hw23 : w2.heap.size < w3.heap.size := by omega
  have hne1 : ¬ (w.heap.size = w2.heap.size) := by omega
  have hne2 : ¬ (w2.heap.size = w.heap.size) := by omega
  have hne3 : ¬ (w.heap.size + 1 = w2.heap.size) := by omega
  have hne4 : ¬ (w2.heap.size = w.heap.size + 1) := by omega
  have hne5 : ¬ (w.heap.size = w.heap.size + 1) := by omega
  have hne6 : ¬ (w.heap.size + 1 = w.heap.size) := by omega
  obtain ⟨k0, k1, k2, k3, k4, k5, k6, k7⟩ := HQ3.out.cells
  obtain ⟨x0, x1, x2, x3, x4, xf0, -, -, -, -⟩ := HX3.out.cells
  obtain ⟨t0, t1, t2, t3, t4, f0, f1, f2, f3, f4⟩ := HZ3.out.cells
  dsimp only at k0 k1 k2 k3 k4 k5 k6 k7 x0 x1 x2 x3 x4
  clear hw3 hb3 hs3 HB2 HQ2 HZ2 HV2 HP HRQ
  have D := Lib.hid (rdel_on (w := w3.drew) c1 (HP3.out.keep (below_all (Below.refl _ _).drew)) (HR3.out.here.1.below (Below.refl _ _).drew) (by omega))
  go_upto_region 12 with fail
  go_region_held3 (fun w' => w'.cell? ⟨w.heap.size, 3, none⟩ = some (.slice A1 n1 c1) ∧ w'.cell? ⟨w.heap.size, 4, none⟩ = some (.slice B1 m1 d1) ∧ w'.cell? ⟨w2.heap.size, 0, none⟩ = some (.int .i64 0) ∧ w'.cell? ⟨w2.heap.size, 1, none⟩ = some (.bool true) ∧ w'.cell? ⟨w2.heap.size, 2, none⟩ = some (.slice A2 n2 c2) ∧ w'.cell? ⟨w2.heap.size, 3, none⟩ = some (.slice none 0 0) ∧ w'.cell? ⟨w2.heap.size, 4, none⟩ = some (.int .u64 0)) (go_keep)
    ((go_at_call 41
      (with_reducible refine D.out.mono ?_)
      rintro e w4 ⟨A4, n4, c4, rfl, hp4, hb4⟩
      have hb4 : Below w3.heap.size w3 w4 := undrew hb4
      have HB4 := Lib.hid (HB3.out.trans (hb4.mono HB3.out.size))
      have HP4 := Lib.hid hp4
      have HON4 := Lib.hid (HON3.out.keep (below_all hb4))
      have HQ4 := Lib.hid (HQ3.out.below hb4 HQ3.out.lt)
      have HX4 := Lib.hid (HX3.out.below hb4 HX3.out.lt)
      have HZ4 := Lib.hid (HZ3.out.below hb4 HZ3.out.lt)
      obtain ⟨k0, k1, k2, k3, k4, k5, k6, k7⟩ := HQ4.out.cells
      obtain ⟨x0, x1, x2, x3, x4, -, -, -, -, -⟩ := HX4.out.cells
      obtain ⟨t0, t1, t2, t3, t4, f0, f1, f2, f3, f4⟩ := HZ4.out.cells
      dsimp only at k0 k1 k2 k3 k4 k5 k6 k7 x0 x1 x2 x3 x4
      clear hp4 hb4))
  clear k0 k1 k2 k3 k4 k5 k6 k7 x0 x1 x2 x3 x4 D
  go_wp2
  refine bodyPost_ret (v := .tuple #[.slice A4 n4 c4, rsV ⟨A2, n2, c2, none, 0, 0⟩ ⟨0, true, valP L key, []⟩]) (by simp [results, Try.results28, go_sem, t0, t1, t2, t3, t4, rsV]) rfl (DoO.of HA.out.1 HA.out.2 rfl ((HP4.out.keep (five_agree w4 (b := w.heap.size + 1) 0 _ _ _ _ _ (fun hc => by
    rcases hc with h | h
    · exact off_res HE.out h
    · have h : w3.heap.size ≤ w.heap.size + 1 := h
      omega))).mono fun b hb => hb.imp id fun h => by have h : w3.heap.size ≤ b := h; omega) ((HON4.out.keep (five_agree w4 (b := w.heap.size + 1) 0 _ _ _ _ _ (off_res HE.out))).mono fun b hb => .inl hb) ?_)
  exact five_below HB4.out (b := w.heap.size + 1) (by omega) 0 _ _ _ _ _

set_option maxHeartbeats 16000000 in
theorem ddo_get_false {E : Nat → Prop} {w : World} {A : Option Addr} {n c : Nat} {L : List Pr} {h : Qh} {r : Rq} (hp : On E w (Prs · A n c L)) (hr : On E w (RqR · h r)) (hE : ∀ b, E b → b < w.heap.size) (hs : smallQ r = true) (hfit : Fit L) (hn : n ≤ 900) (most : Int) (hm : mayQ r = true) (hk : r.kind = 1) (hi : hasB L r.key = false) :
    Calls Try.prog 28 #[.slice A n c, rqV h r, .int .i64 most] w (DoO E w (nextQ L r most) (ansQ L r most).1) := by
  obtain ⟨l1, l2, l3, l4⟩ := small_lens hs
  obtain ⟨V, hV, hVB, hVQ, hVZ, hVs⟩ := box_qs w h r
  have HMAY := dmay_lit (hr.here.below hVB) hs
  rw [hm] at HMAY
  have HMY := Lib.hid HMAY
  clear HMAY
  have hlen := hp.here.len
  have HA : Hid (nextQ L r most = L ∧ (ansQ L r most).1 = ⟨0, false, valP L r.key, []⟩) := Lib.hid (by
    have hans : ansQ L r most = (⟨0, false, valP L r.key, []⟩, false) := by
      unfold ansQ
      rw [if_neg (by rw [hm]; decide), if_neg (by rw [hk]; decide), if_neg (by rw [hk]; decide), if_neg (by rw [hk]; decide), if_neg (by rw [hk]; decide), if_neg (by rw [hk]; decide)]
      unfold wasQ
      rw [hi]
    unfold nextQ
    rw [hans]
    exact ⟨rfl, rfl⟩)
  have HGET := Lib.hid (fun (w1 : World) (hb : Below w.heap.size w w1) => rget_on h.c (hp.keep (below_all hb)) (hr.here.1.below hb) hfit.1 (small_fit hfit) (by rw [← hr.here.1.1]; omega))
  have HFIT := Lib.hid hfit
  have HRQ := Lib.hid hr
  have hkl : h.n ≤ 1000 := by rw [← hr.here.1.1]; omega
  have HP := Lib.hid hp
  have HQ := Lib.hid hVQ
  have HB := Lib.hid hVB
  have HZ := Lib.hid hVZ
  have HE := Lib.hid hE
  have hVe := Lib.hid hV
  have hwl : w.heap.size + 1 < V.heap.size := by omega
  clear hp hr hs hfit hm hV hVB hVQ hVZ hVs hE l1 l2 l3 l4 hlen
  obtain ⟨cl, sq, kind, key, val, old, to_, limit⟩ := r
  obtain ⟨A1, n1, c1, B1, m1, d1, C1, o1, p1, D1, q1, s1⟩ := h
  unfold rqV
  dsimp only at *
  subst hk
  have HIS := Lib.hid hi
  clear hi
  go_enter Try.func28, Try.ntmps28
  go_wp2_with fail
  rw [← hVe.out]
  refine HMY.out.mono ?_
  rintro e w1 ⟨rfl, hb1⟩
  have HB1 := Lib.hid (HB.out.trans (hb1.mono HB.out.size))
  have HQ1 := Lib.hid (HQ.out.below hb1 (by omega))
  have HZ1 := Lib.hid (HZ.out.below hb1 hwl)
  have hw1 : w.heap.size + 1 < w1.heap.size := HZ1.out.lt
  obtain ⟨k0, k1, k2, k3, k4, k5, k6, k7⟩ := HQ1.out.cells
  dsimp only at k0 k1 k2 k3 k4 k5 k6 k7
  have HG := HGET.out w1 HB1.out
  rw [HIS.out] at HG
  have HG1 := Lib.hid HG
  clear hb1 HMY HQ HZ HB hVe HG HGET hwl
  go_wp2_with fail
  refine HG1.out.mono ?_
  rintro e w2 ⟨A2, n2, c2, rfl, hv2, hb2⟩
  have HB2 := Lib.hid (HB1.out.trans (hb2.mono HB1.out.size))
  have HQ2 := Lib.hid (HQ1.out.below hb2 (by omega))
  have HZ2 := Lib.hid (HZ1.out.below hb2 hw1)
  have HV2 := Lib.hid hv2
  have hw2 : w.heap.size + 1 < w2.heap.size := HZ2.out.lt
  clear hb2 hv2 HG1 k0 k1 k2 k3 k4 k5 k6 k7 HQ1 HZ1 HB1 hw1
  go_upto_region 8 with fail
  obtain ⟨w3, hw3, hb3, hx3, hs3⟩ := box_was2 w2 A2 n2 c2 false (valP L key)
  rw [← hw3]
  have HB3 := Lib.hid (HB2.out.trans (hb3.mono HB2.out.size))
  have HQ3 := Lib.hid (HQ2.out.below hb3 (by omega))
  have HZ3 := Lib.hid (HZ2.out.below hb3 hw2)
  have HX3 := Lib.hid hx3
  have HV3 := Lib.hid (HV2.out.keep (below_all hb3))
  have HP3 := Lib.hid (HP.out.keep (below_all HB3.out))
  have HR3 := Lib.hid (HRQ.out.keep (below_all HB3.out))
  have HON3 := Lib.hid (show On E w3 (RsR · ⟨A2, n2, c2, none, 0, 0⟩ ⟨0, false, valP L key, []⟩) from rsr_byt 0 false c2 HV3.out)
  have hw23 : w2.heap.size < w3.heap.size := by omega
  have hne1 : ¬ (w.heap.size = w2.heap.size) := by omega
  have hne2 : ¬ (w2.heap.size = w.heap.size) := by omega
  have hne3 : ¬ (w.heap.size + 1 = w2.heap.size) := by omega
  have hne4 : ¬ (w2.heap.size = w.heap.size + 1) := by omega
  have hne5 : ¬ (w.heap.size = w.heap.size + 1) := by omega
  have hne6 : ¬ (w.heap.size + 1 = w.heap.size) := by omega
  obtain ⟨k0, k1, k2, k3, k4, k5, k6, k7⟩ := HQ3.out.cells
  obtain ⟨x0, x1, x2, x3, x4, xf0, -, -, -, -⟩ := HX3.out.cells
  obtain ⟨t0, t1, t2, t3, t4, f0, f1, f2, f3, f4⟩ := HZ3.out.cells
  dsimp only at k0 k1 k2 k3 k4 k5 k6 k7 x0 x1 x2 x3 x4
  clear hw3 hb3 hs3 HB2 HQ2 HZ2 HV2 HP HRQ
  go_upto_region 10 with fail
  clear k0 k1 k2 k3 k4 k5 k6 k7
  refine wp_region_held_drew (S := (fun w' => w'.cell? ⟨w2.heap.size, 0, none⟩ = some (.int .i64 0) ∧ w'.cell? ⟨w2.heap.size, 1, none⟩ = some (.bool false) ∧ w'.cell? ⟨w2.heap.size, 2, none⟩ = some (.slice A2 n2 c2) ∧ w'.cell? ⟨w2.heap.size, 3, none⟩ = some (.slice none 0 0) ∧ w'.cell? ⟨w2.heap.size, 4, none⟩ = some (.int .u64 0))) (by kernel_rfl) ?_ (fun hHeld => ?_)
  · go_keep
  have HB5 := Lib.hid (HB3.out.drew)
  have HP5 := Lib.hid (HP3.out.keep (below_all (Below.refl w3.heap.size w3).drew))
  have HON5 := Lib.hid (HON3.out.keep (below_all (Below.refl w3.heap.size w3).drew))
  have HZ5 := Lib.hid (show BoxS w3.drew (w.heap.size + 1) sh0 rs0 from HZ3.out)
  clear x0 x1 x2 x3 x4 t0 t1 t2 t3 t4 f0 f1 f2 f3 f4
  generalize w3.drew = w5 at hHeld HB5 HP5 HON5 HZ5 ⊢
  obtain ⟨t0, t1, t2, t3, t4, f0, f1, f2, f3, f4⟩ := HZ5.out.cells
  refine wpAnyH_take (i := 0) (v := .slice A n c) rfl (by kernel_rfl) (by kernel_rfl) (by kernel_rfl) (fun _ _ _ h => h) (Or.inl ⟨by rfl, fun w' hSw => ?_⟩) hHeld ?_
  · (try dsimp only at hSw)
    go_simp
  simp only [Act.put, List.getElem_toArray, List.getElem_cons_zero, List.setIfInBounds_toArray, List.set_cons_zero, List.set_cons_succ]
  refine wpAnyH_take (i := 1) (v := .agg #[.int .i64 0, .bool false, .slice A2 n2 c2, .slice none 0 0, .int .u64 0]) rfl (by kernel_rfl) (by kernel_rfl) (by kernel_rfl) (fun _ _ _ h => h) (Or.inl ⟨by rfl, fun w' hSw => ?_⟩) hHeld ?_
  · (try dsimp only at hSw)
    go_simp
  simp only [Act.put, List.getElem_toArray, List.getElem_cons_zero, List.getElem_cons_succ, List.setIfInBounds_toArray, List.set_cons_zero, List.set_cons_succ]
  refine wpAnyH_take (i := 2) (v := .slice A n c) rfl (by kernel_rfl) (by kernel_rfl) (by kernel_rfl) (fun _ _ _ h => h) (Or.inl ⟨by rfl, fun w' hSw => ?_⟩) hHeld ?_
  · (try dsimp only at hSw)
    go_simp
  simp only [Act.put, List.getElem_toArray, List.getElem_cons_zero, List.getElem_cons_succ, List.setIfInBounds_toArray, List.set_cons_zero, List.set_cons_succ]
  refine wpAnyH_ready (rs := [3]) (by kernel_rfl) (by simp) ?_
  refine AllReadyH.cons rfl (fun K hK => ?_) AllReadyH.nil
  go_simp
  refine hK.out _ _ (by go_keep) (fun hHeld2 => ?_)
  clear hK K hHeld2 hHeld
  refine wpAnyH_done (by kernel_rfl) ?_ _
  go_wp2
  refine bodyPost_ret (v := .tuple #[.slice A n c, rsV ⟨A2, n2, c2, none, 0, 0⟩ ⟨0, false, valP L key, []⟩]) (by simp [results, Try.results28, go_sem, t0, t1, t2, t3, t4, rsV]) rfl (DoO.of HA.out.1 HA.out.2 rfl ((HP5.out.keep (five_agree w5 (b := w.heap.size + 1) 0 _ _ _ _ _ (off_res HE.out))).mono fun b hb => .inl hb) ((HON5.out.keep (five_agree w5 (b := w.heap.size + 1) 0 _ _ _ _ _ (off_res HE.out))).mono fun b hb => .inl hb) ?_)
  exact five_below HB5.out (b := w.heap.size + 1) (by omega) 0 _ _ _ _ _

set_option maxHeartbeats 16000000 in
theorem ddo_del_false {E : Nat → Prop} {w : World} {A : Option Addr} {n c : Nat} {L : List Pr} {h : Qh} {r : Rq} (hp : On E w (Prs · A n c L)) (hr : On E w (RqR · h r)) (hE : ∀ b, E b → b < w.heap.size) (hs : smallQ r = true) (hfit : Fit L) (hn : n ≤ 900) (most : Int) (hm : mayQ r = true) (hk : r.kind = 3) (hi : hasB L r.key = false) :
    Calls Try.prog 28 #[.slice A n c, rqV h r, .int .i64 most] w (DoO E w (nextQ L r most) (ansQ L r most).1) := by
  obtain ⟨l1, l2, l3, l4⟩ := small_lens hs
  obtain ⟨V, hV, hVB, hVQ, hVZ, hVs⟩ := box_qs w h r
  have HMAY := dmay_lit (hr.here.below hVB) hs
  rw [hm] at HMAY
  have HMY := Lib.hid HMAY
  clear HMAY
  have hlen := hp.here.len
  have HA : Hid (nextQ L r most = delL L r.key ∧ (ansQ L r most).1 = ⟨0, false, valP L r.key, []⟩) := Lib.hid (by
    have hans : ansQ L r most = (⟨0, false, valP L r.key, []⟩, false) := by
      unfold ansQ
      rw [if_neg (by rw [hm]; decide), if_neg (by rw [hk]; decide), if_neg (by rw [hk]; decide), if_pos hk]
      unfold wasQ
      rw [hi]
    unfold nextQ writeQ
    rw [hans, if_pos hk]
    refine ⟨?_, rfl⟩
    have := del_is hfit.1 r.key
    rw [hi] at this
    exact this.symm)
  have HGET := Lib.hid (fun (w1 : World) (hb : Below w.heap.size w w1) => rget_on h.c (hp.keep (below_all hb)) (hr.here.1.below hb) hfit.1 (small_fit hfit) (by rw [← hr.here.1.1]; omega))
  have HFIT := Lib.hid hfit
  have HRQ := Lib.hid hr
  have hkl : h.n ≤ 1000 := by rw [← hr.here.1.1]; omega
  have HP := Lib.hid hp
  have HQ := Lib.hid hVQ
  have HB := Lib.hid hVB
  have HZ := Lib.hid hVZ
  have HE := Lib.hid hE
  have hVe := Lib.hid hV
  have hwl : w.heap.size + 1 < V.heap.size := by omega
  clear hp hr hs hfit hm hV hVB hVQ hVZ hVs hE l1 l2 l3 l4 hlen
  obtain ⟨cl, sq, kind, key, val, old, to_, limit⟩ := r
  obtain ⟨A1, n1, c1, B1, m1, d1, C1, o1, p1, D1, q1, s1⟩ := h
  unfold rqV
  dsimp only at *
  subst hk
  have HIS := Lib.hid hi
  clear hi
  go_enter Try.func28, Try.ntmps28
  go_wp2_with fail
  rw [← hVe.out]
  refine HMY.out.mono ?_
  rintro e w1 ⟨rfl, hb1⟩
  have HB1 := Lib.hid (HB.out.trans (hb1.mono HB.out.size))
  have HQ1 := Lib.hid (HQ.out.below hb1 (by omega))
  have HZ1 := Lib.hid (HZ.out.below hb1 hwl)
  have hw1 : w.heap.size + 1 < w1.heap.size := HZ1.out.lt
  obtain ⟨k0, k1, k2, k3, k4, k5, k6, k7⟩ := HQ1.out.cells
  dsimp only at k0 k1 k2 k3 k4 k5 k6 k7
  have HG := HGET.out w1 HB1.out
  rw [HIS.out] at HG
  have HG1 := Lib.hid HG
  clear hb1 HMY HQ HZ HB hVe HG HGET hwl
  go_wp2_with fail
  refine HG1.out.mono ?_
  rintro e w2 ⟨A2, n2, c2, rfl, hv2, hb2⟩
  have HB2 := Lib.hid (HB1.out.trans (hb2.mono HB1.out.size))
  have HQ2 := Lib.hid (HQ1.out.below hb2 (by omega))
  have HZ2 := Lib.hid (HZ1.out.below hb2 hw1)
  have HV2 := Lib.hid hv2
  have hw2 : w.heap.size + 1 < w2.heap.size := HZ2.out.lt
  clear hb2 hv2 HG1 k0 k1 k2 k3 k4 k5 k6 k7 HQ1 HZ1 HB1 hw1
  go_upto_region 8 with fail
  obtain ⟨w3, hw3, hb3, hx3, hs3⟩ := box_was2 w2 A2 n2 c2 false (valP L key)
  rw [← hw3]
  have HB3 := Lib.hid (HB2.out.trans (hb3.mono HB2.out.size))
  have HQ3 := Lib.hid (HQ2.out.below hb3 (by omega))
  have HZ3 := Lib.hid (HZ2.out.below hb3 hw2)
  have HX3 := Lib.hid hx3
  have HV3 := Lib.hid (HV2.out.keep (below_all hb3))
  have HP3 := Lib.hid (HP.out.keep (below_all HB3.out))
  have HR3 := Lib.hid (HRQ.out.keep (below_all HB3.out))
  have HON3 := Lib.hid (show On E w3 (RsR · ⟨A2, n2, c2, none, 0, 0⟩ ⟨0, false, valP L key, []⟩) from rsr_byt 0 false c2 HV3.out)
  have hw23 : w2.heap.size < w3.heap.size := by omega
  have hne1 : ¬ (w.heap.size = w2.heap.size) := by omega
  have hne2 : ¬ (w2.heap.size = w.heap.size) := by omega
  have hne3 : ¬ (w.heap.size + 1 = w2.heap.size) := by omega
  have hne4 : ¬ (w2.heap.size = w.heap.size + 1) := by omega
  have hne5 : ¬ (w.heap.size = w.heap.size + 1) := by omega
  have hne6 : ¬ (w.heap.size + 1 = w.heap.size) := by omega
  obtain ⟨k0, k1, k2, k3, k4, k5, k6, k7⟩ := HQ3.out.cells
  obtain ⟨x0, x1, x2, x3, x4, xf0, -, -, -, -⟩ := HX3.out.cells
  obtain ⟨t0, t1, t2, t3, t4, f0, f1, f2, f3, f4⟩ := HZ3.out.cells
  dsimp only at k0 k1 k2 k3 k4 k5 k6 k7 x0 x1 x2 x3 x4
  clear hw3 hb3 hs3 HB2 HQ2 HZ2 HV2 HP HRQ
  have D := Lib.hid (rdel_on (w := w3.drew) c1 (HP3.out.keep (below_all (Below.refl _ _).drew)) (HR3.out.here.1.below (Below.refl _ _).drew) (by omega))
  go_upto_region 12 with fail
  go_region_held3 (fun w' => w'.cell? ⟨w.heap.size, 3, none⟩ = some (.slice A1 n1 c1) ∧ w'.cell? ⟨w.heap.size, 4, none⟩ = some (.slice B1 m1 d1) ∧ w'.cell? ⟨w2.heap.size, 0, none⟩ = some (.int .i64 0) ∧ w'.cell? ⟨w2.heap.size, 1, none⟩ = some (.bool false) ∧ w'.cell? ⟨w2.heap.size, 2, none⟩ = some (.slice A2 n2 c2) ∧ w'.cell? ⟨w2.heap.size, 3, none⟩ = some (.slice none 0 0) ∧ w'.cell? ⟨w2.heap.size, 4, none⟩ = some (.int .u64 0)) (go_keep)
    ((go_at_call 41
      (with_reducible refine D.out.mono ?_)
      rintro e w4 ⟨A4, n4, c4, rfl, hp4, hb4⟩
      have hb4 : Below w3.heap.size w3 w4 := undrew hb4
      have HB4 := Lib.hid (HB3.out.trans (hb4.mono HB3.out.size))
      have HP4 := Lib.hid hp4
      have HON4 := Lib.hid (HON3.out.keep (below_all hb4))
      have HQ4 := Lib.hid (HQ3.out.below hb4 HQ3.out.lt)
      have HX4 := Lib.hid (HX3.out.below hb4 HX3.out.lt)
      have HZ4 := Lib.hid (HZ3.out.below hb4 HZ3.out.lt)
      obtain ⟨k0, k1, k2, k3, k4, k5, k6, k7⟩ := HQ4.out.cells
      obtain ⟨x0, x1, x2, x3, x4, -, -, -, -, -⟩ := HX4.out.cells
      obtain ⟨t0, t1, t2, t3, t4, f0, f1, f2, f3, f4⟩ := HZ4.out.cells
      dsimp only at k0 k1 k2 k3 k4 k5 k6 k7 x0 x1 x2 x3 x4
      clear hp4 hb4))
  clear k0 k1 k2 k3 k4 k5 k6 k7 x0 x1 x2 x3 x4 D
  go_wp2
  refine bodyPost_ret (v := .tuple #[.slice A4 n4 c4, rsV ⟨A2, n2, c2, none, 0, 0⟩ ⟨0, false, valP L key, []⟩]) (by simp [results, Try.results28, go_sem, t0, t1, t2, t3, t4, rsV]) rfl (DoO.of HA.out.1 HA.out.2 rfl ((HP4.out.keep (five_agree w4 (b := w.heap.size + 1) 0 _ _ _ _ _ (fun hc => by
    rcases hc with h | h
    · exact off_res HE.out h
    · have h : w3.heap.size ≤ w.heap.size + 1 := h
      omega))).mono fun b hb => hb.imp id fun h => by have h : w3.heap.size ≤ b := h; omega) ((HON4.out.keep (five_agree w4 (b := w.heap.size + 1) 0 _ _ _ _ _ (off_res HE.out))).mono fun b hb => .inl hb) ?_)
  exact five_below HB4.out (b := w.heap.size + 1) (by omega) 0 _ _ _ _ _

set_option maxHeartbeats 16000000 in
theorem ddo_abs_yes {E : Nat → Prop} {w : World} {A : Option Addr} {n c : Nat} {L : List Pr} {h : Qh} {r : Rq} (hp : On E w (Prs · A n c L)) (hr : On E w (RqR · h r)) (hE : ∀ b, E b → b < w.heap.size) (hs : smallQ r = true) (hfit : Fit L) (hn : n ≤ 900) (most : Int) (hm : mayQ r = true) (hk : r.kind = 4) (hi : hasB L r.key = true) :
    Calls Try.prog 28 #[.slice A n c, rqV h r, .int .i64 most] w (DoO E w (nextQ L r most) (ansQ L r most).1) := by
  obtain ⟨l1, l2, l3, l4⟩ := small_lens hs
  obtain ⟨V, hV, hVB, hVQ, hVZ, hVs⟩ := box_qs w h r
  have HMAY := dmay_lit (hr.here.below hVB) hs
  rw [hm] at HMAY
  have HMY := Lib.hid HMAY
  clear HMAY
  have hlen := hp.here.len
  have HA : Hid (nextQ L r most = L ∧ (ansQ L r most).1 = ⟨0, true, valP L r.key, []⟩) := Lib.hid (by
    have hans : ansQ L r most = (⟨0, true, valP L r.key, []⟩, false) := by
      unfold ansQ
      rw [if_neg (by rw [hm]; decide), if_neg (by rw [hk]; decide), if_neg (by rw [hk]; decide), if_neg (by rw [hk]; decide), if_pos hk]
      rw [if_neg (by rw [hi]; decide)]
      unfold wasQ
      rw [hi]
    unfold nextQ
    rw [hans]
    exact ⟨rfl, rfl⟩)
  have HGET := Lib.hid (fun (w1 : World) (hb : Below w.heap.size w w1) => rget_on h.c (hp.keep (below_all hb)) (hr.here.1.below hb) hfit.1 (small_fit hfit) (by rw [← hr.here.1.1]; omega))
  have HFIT := Lib.hid hfit
  have HRQ := Lib.hid hr
  have hkl : h.n ≤ 1000 := by rw [← hr.here.1.1]; omega
  have HP := Lib.hid hp
  have HQ := Lib.hid hVQ
  have HB := Lib.hid hVB
  have HZ := Lib.hid hVZ
  have HE := Lib.hid hE
  have hVe := Lib.hid hV
  have hwl : w.heap.size + 1 < V.heap.size := by omega
  clear hp hr hs hfit hm hV hVB hVQ hVZ hVs hE l1 l2 l3 l4 hlen
  obtain ⟨cl, sq, kind, key, val, old, to_, limit⟩ := r
  obtain ⟨A1, n1, c1, B1, m1, d1, C1, o1, p1, D1, q1, s1⟩ := h
  unfold rqV
  dsimp only at *
  subst hk
  have HIS := Lib.hid hi
  clear hi
  go_enter Try.func28, Try.ntmps28
  go_wp2_with fail
  rw [← hVe.out]
  refine HMY.out.mono ?_
  rintro e w1 ⟨rfl, hb1⟩
  have HB1 := Lib.hid (HB.out.trans (hb1.mono HB.out.size))
  have HQ1 := Lib.hid (HQ.out.below hb1 (by omega))
  have HZ1 := Lib.hid (HZ.out.below hb1 hwl)
  have hw1 : w.heap.size + 1 < w1.heap.size := HZ1.out.lt
  obtain ⟨k0, k1, k2, k3, k4, k5, k6, k7⟩ := HQ1.out.cells
  dsimp only at k0 k1 k2 k3 k4 k5 k6 k7
  have HG := HGET.out w1 HB1.out
  rw [HIS.out] at HG
  have HG1 := Lib.hid HG
  clear hb1 HMY HQ HZ HB hVe HG HGET hwl
  go_wp2_with fail
  refine HG1.out.mono ?_
  rintro e w2 ⟨A2, n2, c2, rfl, hv2, hb2⟩
  have HB2 := Lib.hid (HB1.out.trans (hb2.mono HB1.out.size))
  have HQ2 := Lib.hid (HQ1.out.below hb2 (by omega))
  have HZ2 := Lib.hid (HZ1.out.below hb2 hw1)
  have HV2 := Lib.hid hv2
  have hw2 : w.heap.size + 1 < w2.heap.size := HZ2.out.lt
  clear hb2 hv2 HG1 k0 k1 k2 k3 k4 k5 k6 k7 HQ1 HZ1 HB1 hw1
  go_upto_region 8 with fail
  obtain ⟨w3, hw3, hb3, hx3, hs3⟩ := box_was2 w2 A2 n2 c2 true (valP L key)
  rw [← hw3]
  have HB3 := Lib.hid (HB2.out.trans (hb3.mono HB2.out.size))
  have HQ3 := Lib.hid (HQ2.out.below hb3 (by omega))
  have HZ3 := Lib.hid (HZ2.out.below hb3 hw2)
  have HX3 := Lib.hid hx3
  have HV3 := Lib.hid (HV2.out.keep (below_all hb3))
  have HP3 := Lib.hid (HP.out.keep (below_all HB3.out))
  have HR3 := Lib.hid (HRQ.out.keep (below_all HB3.out))
  have HON3 := Lib.hid (show On E w3 (RsR · ⟨A2, n2, c2, none, 0, 0⟩ ⟨0, true, valP L key, []⟩) from rsr_byt 0 true c2 HV3.out)
  have hw23 : w2.heap.size < w3.heap.size := by omega
  have hne1 : ¬ (w.heap.size = w2.heap.size) := by omega
  have hne2 : ¬ (w2.heap.size = w.heap.size) := by omega
  have hne3 : ¬ (w.heap.size + 1 = w2.heap.size) := by omega
  have hne4 : ¬ (w2.heap.size = w.heap.size + 1) := by omega
  have hne5 : ¬ (w.heap.size = w.heap.size + 1) := by omega
  have hne6 : ¬ (w.heap.size + 1 = w.heap.size) := by omega
  obtain ⟨k0, k1, k2, k3, k4, k5, k6, k7⟩ := HQ3.out.cells
  obtain ⟨x0, x1, x2, x3, x4, xf0, -, -, -, -⟩ := HX3.out.cells
  obtain ⟨t0, t1, t2, t3, t4, f0, f1, f2, f3, f4⟩ := HZ3.out.cells
  dsimp only at k0 k1 k2 k3 k4 k5 k6 k7 x0 x1 x2 x3 x4
  clear hw3 hb3 hs3 HB2 HQ2 HZ2 HV2 HP HRQ
  go_upto_region 15 with fail
  clear k0 k1 k2 k3 k4 k5 k6 k7
  refine wp_region_held_drew (S := (fun w' => w'.cell? ⟨w2.heap.size, 0, none⟩ = some (.int .i64 0) ∧ w'.cell? ⟨w2.heap.size, 1, none⟩ = some (.bool true) ∧ w'.cell? ⟨w2.heap.size, 2, none⟩ = some (.slice A2 n2 c2) ∧ w'.cell? ⟨w2.heap.size, 3, none⟩ = some (.slice none 0 0) ∧ w'.cell? ⟨w2.heap.size, 4, none⟩ = some (.int .u64 0))) (by kernel_rfl) ?_ (fun hHeld => ?_)
  · go_keep
  have HB5 := Lib.hid (HB3.out.drew)
  have HP5 := Lib.hid (HP3.out.keep (below_all (Below.refl w3.heap.size w3).drew))
  have HON5 := Lib.hid (HON3.out.keep (below_all (Below.refl w3.heap.size w3).drew))
  have HZ5 := Lib.hid (show BoxS w3.drew (w.heap.size + 1) sh0 rs0 from HZ3.out)
  clear x0 x1 x2 x3 x4 t0 t1 t2 t3 t4 f0 f1 f2 f3 f4
  generalize w3.drew = w5 at hHeld HB5 HP5 HON5 HZ5 ⊢
  obtain ⟨t0, t1, t2, t3, t4, f0, f1, f2, f3, f4⟩ := HZ5.out.cells
  refine wpAnyH_take (i := 0) (v := .slice A n c) rfl (by kernel_rfl) (by kernel_rfl) (by kernel_rfl) (fun _ _ _ h => h) (Or.inl ⟨by rfl, fun w' hSw => ?_⟩) hHeld ?_
  · (try dsimp only at hSw)
    go_simp
  simp only [Act.put, List.getElem_toArray, List.getElem_cons_zero, List.setIfInBounds_toArray, List.set_cons_zero, List.set_cons_succ]
  refine wpAnyH_take (i := 1) (v := .agg #[.int .i64 0, .bool true, .slice A2 n2 c2, .slice none 0 0, .int .u64 0]) rfl (by kernel_rfl) (by kernel_rfl) (by kernel_rfl) (fun _ _ _ h => h) (Or.inl ⟨by rfl, fun w' hSw => ?_⟩) hHeld ?_
  · (try dsimp only at hSw)
    go_simp
  simp only [Act.put, List.getElem_toArray, List.getElem_cons_zero, List.getElem_cons_succ, List.setIfInBounds_toArray, List.set_cons_zero, List.set_cons_succ]
  refine wpAnyH_take (i := 2) (v := .slice A n c) rfl (by kernel_rfl) (by kernel_rfl) (by kernel_rfl) (fun _ _ _ h => h) (Or.inl ⟨by rfl, fun w' hSw => ?_⟩) hHeld ?_
  · (try dsimp only at hSw)
    go_simp
  simp only [Act.put, List.getElem_toArray, List.getElem_cons_zero, List.getElem_cons_succ, List.setIfInBounds_toArray, List.set_cons_zero, List.set_cons_succ]
  refine wpAnyH_ready (rs := [3]) (by kernel_rfl) (by simp) ?_
  refine AllReadyH.cons rfl (fun K hK => ?_) AllReadyH.nil
  go_simp
  refine hK.out _ _ (by go_keep) (fun hHeld2 => ?_)
  clear hK K hHeld2 hHeld
  refine wpAnyH_done (by kernel_rfl) ?_ _
  go_wp2
  refine bodyPost_ret (v := .tuple #[.slice A n c, rsV ⟨A2, n2, c2, none, 0, 0⟩ ⟨0, true, valP L key, []⟩]) (by simp [results, Try.results28, go_sem, t0, t1, t2, t3, t4, rsV]) rfl (DoO.of HA.out.1 HA.out.2 rfl ((HP5.out.keep (five_agree w5 (b := w.heap.size + 1) 0 _ _ _ _ _ (off_res HE.out))).mono fun b hb => .inl hb) ((HON5.out.keep (five_agree w5 (b := w.heap.size + 1) 0 _ _ _ _ _ (off_res HE.out))).mono fun b hb => .inl hb) ?_)
  exact five_below HB5.out (b := w.heap.size + 1) (by omega) 0 _ _ _ _ _

set_option maxHeartbeats 16000000 in
theorem ddo_swap_none {E : Nat → Prop} {w : World} {A : Option Addr} {n c : Nat} {L : List Pr} {h : Qh} {r : Rq} (hp : On E w (Prs · A n c L)) (hr : On E w (RqR · h r)) (hE : ∀ b, E b → b < w.heap.size) (hs : smallQ r = true) (hfit : Fit L) (hn : n ≤ 900) (most : Int) (hm : mayQ r = true) (hk : r.kind = 5) (hi : hasB L r.key = false) :
    Calls Try.prog 28 #[.slice A n c, rqV h r, .int .i64 most] w (DoO E w (nextQ L r most) (ansQ L r most).1) := by
  obtain ⟨l1, l2, l3, l4⟩ := small_lens hs
  obtain ⟨V, hV, hVB, hVQ, hVZ, hVs⟩ := box_qs w h r
  have HMAY := dmay_lit (hr.here.below hVB) hs
  rw [hm] at HMAY
  have HMY := Lib.hid HMAY
  clear HMAY
  have hlen := hp.here.len
  have HA : Hid (nextQ L r most = L ∧ (ansQ L r most).1 = errQ 3) := Lib.hid (by
    have hans : ansQ L r most = (errQ 3, false) := by
      unfold ansQ
      rw [if_neg (by rw [hm]; decide), if_neg (by rw [hk]; decide), if_neg (by rw [hk]; decide), if_neg (by rw [hk]; decide), if_neg (by rw [hk]; decide), if_pos hk]
      unfold swapQ
      exact if_pos hi
    unfold nextQ
    rw [hans]
    exact ⟨rfl, rfl⟩)
  have HGET := Lib.hid (fun (w1 : World) (hb : Below w.heap.size w w1) => rget_on h.c (hp.keep (below_all hb)) (hr.here.1.below hb) hfit.1 (small_fit hfit) (by rw [← hr.here.1.1]; omega))
  have HFIT := Lib.hid hfit
  have HRQ := Lib.hid hr
  have hkl : h.n ≤ 1000 := by rw [← hr.here.1.1]; omega
  have HP := Lib.hid hp
  have HQ := Lib.hid hVQ
  have HB := Lib.hid hVB
  have HZ := Lib.hid hVZ
  have HE := Lib.hid hE
  have hVe := Lib.hid hV
  have hwl : w.heap.size + 1 < V.heap.size := by omega
  clear hp hr hs hfit hm hV hVB hVQ hVZ hVs hE l1 l2 l3 l4 hlen
  obtain ⟨cl, sq, kind, key, val, old, to_, limit⟩ := r
  obtain ⟨A1, n1, c1, B1, m1, d1, C1, o1, p1, D1, q1, s1⟩ := h
  unfold rqV
  dsimp only at *
  subst hk
  have HIS := Lib.hid hi
  clear hi
  go_enter Try.func28, Try.ntmps28
  go_wp2_with fail
  rw [← hVe.out]
  refine HMY.out.mono ?_
  rintro e w1 ⟨rfl, hb1⟩
  have HB1 := Lib.hid (HB.out.trans (hb1.mono HB.out.size))
  have HQ1 := Lib.hid (HQ.out.below hb1 (by omega))
  have HZ1 := Lib.hid (HZ.out.below hb1 hwl)
  have hw1 : w.heap.size + 1 < w1.heap.size := HZ1.out.lt
  obtain ⟨k0, k1, k2, k3, k4, k5, k6, k7⟩ := HQ1.out.cells
  dsimp only at k0 k1 k2 k3 k4 k5 k6 k7
  have HG := HGET.out w1 HB1.out
  rw [HIS.out] at HG
  have HG1 := Lib.hid HG
  clear hb1 HMY HQ HZ HB hVe HG HGET hwl
  go_wp2_with fail
  refine HG1.out.mono ?_
  rintro e w2 ⟨A2, n2, c2, rfl, hv2, hb2⟩
  have HB2 := Lib.hid (HB1.out.trans (hb2.mono HB1.out.size))
  have HQ2 := Lib.hid (HQ1.out.below hb2 (by omega))
  have HZ2 := Lib.hid (HZ1.out.below hb2 hw1)
  have HV2 := Lib.hid hv2
  have hw2 : w.heap.size + 1 < w2.heap.size := HZ2.out.lt
  clear hb2 hv2 HG1 k0 k1 k2 k3 k4 k5 k6 k7 HQ1 HZ1 HB1 hw1
  go_upto_region 8 with fail
  obtain ⟨w3, hw3, hb3, hx3, hs3⟩ := box_was2 w2 A2 n2 c2 false (valP L key)
  rw [← hw3]
  have HB3 := Lib.hid (HB2.out.trans (hb3.mono HB2.out.size))
  have HQ3 := Lib.hid (HQ2.out.below hb3 (by omega))
  have HZ3 := Lib.hid (HZ2.out.below hb3 hw2)
  have HX3 := Lib.hid hx3
  have HV3 := Lib.hid (HV2.out.keep (below_all hb3))
  have HP3 := Lib.hid (HP.out.keep (below_all HB3.out))
  have HR3 := Lib.hid (HRQ.out.keep (below_all HB3.out))
  have HON3 := Lib.hid (show On E w3 (RsR · ⟨A2, n2, c2, none, 0, 0⟩ ⟨0, false, valP L key, []⟩) from rsr_byt 0 false c2 HV3.out)
  have hw23 : w2.heap.size < w3.heap.size := by omega
  have hne1 : ¬ (w.heap.size = w2.heap.size) := by omega
  have hne2 : ¬ (w2.heap.size = w.heap.size) := by omega
  have hne3 : ¬ (w.heap.size + 1 = w2.heap.size) := by omega
  have hne4 : ¬ (w2.heap.size = w.heap.size + 1) := by omega
  have hne5 : ¬ (w.heap.size = w.heap.size + 1) := by omega
  have hne6 : ¬ (w.heap.size + 1 = w.heap.size) := by omega
  obtain ⟨k0, k1, k2, k3, k4, k5, k6, k7⟩ := HQ3.out.cells
  obtain ⟨x0, x1, x2, x3, x4, xf0, -, -, -, -⟩ := HX3.out.cells
  obtain ⟨t0, t1, t2, t3, t4, f0, f1, f2, f3, f4⟩ := HZ3.out.cells
  dsimp only at k0 k1 k2 k3 k4 k5 k6 k7 x0 x1 x2 x3 x4
  clear hw3 hb3 hs3 HB2 HQ2 HZ2 HV2 HP HRQ
  clear x0 x1 x2 x3 x4
  go_wp2
  refine bodyPost_ret (v := .tuple #[.slice A n c, rsV sh0 (errQ 3)]) (by simp [results, Try.results28, go_sem, t0, t1, t2, t3, t4, rsV, sh0, errQ]) rfl (DoO.of HA.out.1 HA.out.2 rfl ((HP3.out.keep (five_agree w3 (b := w.heap.size + 1) 0 _ _ _ _ _ (off_res HE.out))).mono fun b hb => .inl hb) (err_on _ _ 3) ?_)
  exact five_below HB3.out (b := w.heap.size + 1) (by omega) 0 _ _ _ _ _

set_option maxHeartbeats 16000000 in
theorem ddo_swap_no {E : Nat → Prop} {w : World} {A : Option Addr} {n c : Nat} {L : List Pr} {h : Qh} {r : Rq} (hp : On E w (Prs · A n c L)) (hr : On E w (RqR · h r)) (hE : ∀ b, E b → b < w.heap.size) (hs : smallQ r = true) (hfit : Fit L) (hn : n ≤ 900) (most : Int) (hm : mayQ r = true) (hk : r.kind = 5) (hi : hasB L r.key = true) (hsb : sameB (valP L r.key) r.old = false) :
    Calls Try.prog 28 #[.slice A n c, rqV h r, .int .i64 most] w (DoO E w (nextQ L r most) (ansQ L r most).1) := by
  obtain ⟨l1, l2, l3, l4⟩ := small_lens hs
  obtain ⟨V, hV, hVB, hVQ, hVZ, hVs⟩ := box_qs w h r
  have HMAY := dmay_lit (hr.here.below hVB) hs
  rw [hm] at HMAY
  have HMY := Lib.hid HMAY
  clear HMAY
  have hlen := hp.here.len
  have HA : Hid (nextQ L r most = L ∧ (ansQ L r most).1 = ⟨10, true, valP L r.key, []⟩) := Lib.hid (by
    have hans : ansQ L r most = (⟨10, true, valP L r.key, []⟩, false) := by
      unfold ansQ
      rw [if_neg (by rw [hm]; decide), if_neg (by rw [hk]; decide), if_neg (by rw [hk]; decide), if_neg (by rw [hk]; decide), if_neg (by rw [hk]; decide), if_pos hk]
      unfold swapQ wasQ
      rw [hi, if_neg (by simp)]
      exact if_pos hsb
    unfold nextQ
    rw [hans]
    exact ⟨rfl, rfl⟩)
  have HGET := Lib.hid (fun (w1 : World) (hb : Below w.heap.size w w1) => rget_on h.c (hp.keep (below_all hb)) (hr.here.1.below hb) hfit.1 (small_fit hfit) (by rw [← hr.here.1.1]; omega))
  have HFIT := Lib.hid hfit
  have HRQ := Lib.hid hr
  have hkl : h.n ≤ 1000 := by rw [← hr.here.1.1]; omega
  have HP := Lib.hid hp
  have HQ := Lib.hid hVQ
  have HB := Lib.hid hVB
  have HZ := Lib.hid hVZ
  have HE := Lib.hid hE
  have hVe := Lib.hid hV
  have hwl : w.heap.size + 1 < V.heap.size := by omega
  clear hp hr hs hfit hm hV hVB hVQ hVZ hVs hE l1 l2 l3 l4 hlen
  obtain ⟨cl, sq, kind, key, val, old, to_, limit⟩ := r
  obtain ⟨A1, n1, c1, B1, m1, d1, C1, o1, p1, D1, q1, s1⟩ := h
  unfold rqV
  dsimp only at *
  subst hk
  have HIS := Lib.hid hi
  have HSB := Lib.hid hsb
  clear hi hsb
  go_enter Try.func28, Try.ntmps28
  go_wp2_with fail
  rw [← hVe.out]
  refine HMY.out.mono ?_
  rintro e w1 ⟨rfl, hb1⟩
  have HB1 := Lib.hid (HB.out.trans (hb1.mono HB.out.size))
  have HQ1 := Lib.hid (HQ.out.below hb1 (by omega))
  have HZ1 := Lib.hid (HZ.out.below hb1 hwl)
  have hw1 : w.heap.size + 1 < w1.heap.size := HZ1.out.lt
  obtain ⟨k0, k1, k2, k3, k4, k5, k6, k7⟩ := HQ1.out.cells
  dsimp only at k0 k1 k2 k3 k4 k5 k6 k7
  have HG := HGET.out w1 HB1.out
  rw [HIS.out] at HG
  have HG1 := Lib.hid HG
  clear hb1 HMY HQ HZ HB hVe HG HGET hwl
  go_wp2_with fail
  refine HG1.out.mono ?_
  rintro e w2 ⟨A2, n2, c2, rfl, hv2, hb2⟩
  have HB2 := Lib.hid (HB1.out.trans (hb2.mono HB1.out.size))
  have HQ2 := Lib.hid (HQ1.out.below hb2 (by omega))
  have HZ2 := Lib.hid (HZ1.out.below hb2 hw1)
  have HV2 := Lib.hid hv2
  have hw2 : w.heap.size + 1 < w2.heap.size := HZ2.out.lt
  clear hb2 hv2 HG1 k0 k1 k2 k3 k4 k5 k6 k7 HQ1 HZ1 HB1 hw1
  go_upto_region 8 with fail
  obtain ⟨w3, hw3, hb3, hx3, hs3⟩ := box_was2 w2 A2 n2 c2 true (valP L key)
  rw [← hw3]
  have HB3 := Lib.hid (HB2.out.trans (hb3.mono HB2.out.size))
  have HQ3 := Lib.hid (HQ2.out.below hb3 (by omega))
  have HZ3 := Lib.hid (HZ2.out.below hb3 hw2)
  have HX3 := Lib.hid hx3
  have HV3 := Lib.hid (HV2.out.keep (below_all hb3))
  have HP3 := Lib.hid (HP.out.keep (below_all HB3.out))
  have HR3 := Lib.hid (HRQ.out.keep (below_all HB3.out))
  have HON3 := Lib.hid (show On E w3 (RsR · ⟨A2, n2, c2, none, 0, 0⟩ ⟨0, true, valP L key, []⟩) from rsr_byt 0 true c2 HV3.out)
  have hw23 : w2.heap.size < w3.heap.size := by omega
  have hne1 : ¬ (w.heap.size = w2.heap.size) := by omega
  have hne2 : ¬ (w2.heap.size = w.heap.size) := by omega
  have hne3 : ¬ (w.heap.size + 1 = w2.heap.size) := by omega
  have hne4 : ¬ (w2.heap.size = w.heap.size + 1) := by omega
  have hne5 : ¬ (w.heap.size = w.heap.size + 1) := by omega
  have hne6 : ¬ (w.heap.size + 1 = w.heap.size) := by omega
  obtain ⟨k0, k1, k2, k3, k4, k5, k6, k7⟩ := HQ3.out.cells
  obtain ⟨x0, x1, x2, x3, x4, xf0, -, -, -, -⟩ := HX3.out.cells
  obtain ⟨t0, t1, t2, t3, t4, f0, f1, f2, f3, f4⟩ := HZ3.out.cells
  dsimp only at k0 k1 k2 k3 k4 k5 k6 k7 x0 x1 x2 x3 x4
  clear hw3 hb3 hs3 HB2 HQ2 HZ2 HV2 HP HRQ
  have r1 := run_str (c := c2) HV3.out.here
  have r2 := run_str (c := p1) HR3.out.here.2.2.1
  have hsv : (valP L key == old) = false := by rw [str_eq]; exact HSB.out
  go_upto_region 21 with fail
  obtain ⟨w4, hw4, hx4, ha4, hbb4⟩ := set_code HX3.out 10
  rw [← hw4]
  have HB4 := Lib.hid (hbb4 _ _ HB3.out (by omega))
  have HP4 := Lib.hid (HP3.out.keep (ha4.mono fun b hb e => by have := HE.out b hb; omega))
  have HON4 := Lib.hid (show On E w4 (RsR · ⟨A2, n2, c2, none, 0, 0⟩ ⟨10, true, valP L key, []⟩) from rsr_byt 10 true c2 (HV3.out.keep (ha4.mono fun b hb e => by have := HE.out b hb; omega)))
  have HZ4 := Lib.hid (show BoxS w4 (w.heap.size + 1) sh0 rs0 from (ha4.2 (w.heap.size + 1) hne3 HZ3.out.lt).trans HZ3.out)
  clear k0 k1 k2 k3 k4 k5 k6 k7 x0 x1 x2 x3 x4 xf0 t0 t1 t2 t3 t4 f0 f1 f2 f3 f4 hw4 ha4 hbb4 HB3 HQ3 HX3 HZ3 HV3 HP3 HR3 HON3 r1 r2 hsv
  obtain ⟨x0, x1, x2, x3, x4, -, -, -, -, -⟩ := hx4.cells
  obtain ⟨t0, t1, t2, t3, t4, f0, f1, f2, f3, f4⟩ := HZ4.out.cells
  dsimp only at x0 x1 x2 x3 x4
  clear hx4
  go_upto_region 21 with fail
  refine wp_region_held_drew (S := (fun w' => w'.cell? ⟨w2.heap.size, 0, none⟩ = some (.int .i64 10) ∧ w'.cell? ⟨w2.heap.size, 1, none⟩ = some (.bool true) ∧ w'.cell? ⟨w2.heap.size, 2, none⟩ = some (.slice A2 n2 c2) ∧ w'.cell? ⟨w2.heap.size, 3, none⟩ = some (.slice none 0 0) ∧ w'.cell? ⟨w2.heap.size, 4, none⟩ = some (.int .u64 0))) (by kernel_rfl) ?_ (fun hHeld => ?_)
  · go_keep
  have HB5 := Lib.hid (HB4.out.drew)
  have HP5 := Lib.hid (HP4.out.keep (below_all (Below.refl w4.heap.size w4).drew))
  have HON5 := Lib.hid (HON4.out.keep (below_all (Below.refl w4.heap.size w4).drew))
  have HZ5 := Lib.hid (show BoxS w4.drew (w.heap.size + 1) sh0 rs0 from HZ4.out)
  clear x0 x1 x2 x3 x4 t0 t1 t2 t3 t4 f0 f1 f2 f3 f4
  generalize w4.drew = w5 at hHeld HB5 HP5 HON5 HZ5 ⊢
  obtain ⟨t0, t1, t2, t3, t4, f0, f1, f2, f3, f4⟩ := HZ5.out.cells
  refine wpAnyH_take (i := 0) (v := .slice A n c) rfl (by kernel_rfl) (by kernel_rfl) (by kernel_rfl) (fun _ _ _ h => h) (Or.inl ⟨by rfl, fun w' hSw => ?_⟩) hHeld ?_
  · (try dsimp only at hSw)
    go_simp
  simp only [Act.put, List.getElem_toArray, List.getElem_cons_zero, List.setIfInBounds_toArray, List.set_cons_zero, List.set_cons_succ]
  refine wpAnyH_take (i := 1) (v := .agg #[.int .i64 10, .bool true, .slice A2 n2 c2, .slice none 0 0, .int .u64 0]) rfl (by kernel_rfl) (by kernel_rfl) (by kernel_rfl) (fun _ _ _ h => h) (Or.inl ⟨by rfl, fun w' hSw => ?_⟩) hHeld ?_
  · (try dsimp only at hSw)
    go_simp
  simp only [Act.put, List.getElem_toArray, List.getElem_cons_zero, List.getElem_cons_succ, List.setIfInBounds_toArray, List.set_cons_zero, List.set_cons_succ]
  refine wpAnyH_take (i := 2) (v := .slice A n c) rfl (by kernel_rfl) (by kernel_rfl) (by kernel_rfl) (fun _ _ _ h => h) (Or.inl ⟨by rfl, fun w' hSw => ?_⟩) hHeld ?_
  · (try dsimp only at hSw)
    go_simp
  simp only [Act.put, List.getElem_toArray, List.getElem_cons_zero, List.getElem_cons_succ, List.setIfInBounds_toArray, List.set_cons_zero, List.set_cons_succ]
  refine wpAnyH_ready (rs := [3]) (by kernel_rfl) (by simp) ?_
  refine AllReadyH.cons rfl (fun K hK => ?_) AllReadyH.nil
  go_simp
  refine hK.out _ _ (by go_keep) (fun hHeld2 => ?_)
  clear hK K hHeld2 hHeld
  refine wpAnyH_done (by kernel_rfl) ?_ _
  go_wp2
  refine bodyPost_ret (v := .tuple #[.slice A n c, rsV ⟨A2, n2, c2, none, 0, 0⟩ ⟨10, true, valP L key, []⟩]) (by simp [results, Try.results28, go_sem, t0, t1, t2, t3, t4, rsV]) rfl (DoO.of HA.out.1 HA.out.2 rfl ((HP5.out.keep (five_agree w5 (b := w.heap.size + 1) 0 _ _ _ _ _ (off_res HE.out))).mono fun b hb => .inl hb) ((HON5.out.keep (five_agree w5 (b := w.heap.size + 1) 0 _ _ _ _ _ (off_res HE.out))).mono fun b hb => .inl hb) ?_)
  exact five_below HB5.out (b := w.heap.size + 1) (by omega) 0 _ _ _ _ _

set_option maxHeartbeats 16000000 in
theorem ddo_full2 {E : Nat → Prop} {w : World} {A : Option Addr} {n c : Nat} {L : List Pr} {h : Qh} {r : Rq} (hp : On E w (Prs · A n c L)) (hr : On E w (RqR · h r)) (hE : ∀ b, E b → b < w.heap.size) (hs : smallQ r = true) (hfit : Fit L) (hn : n ≤ 900) (most : Int) (hm : mayQ r = true) (hk : r.kind = 2) (hi : hasB L r.key = false) (hro : decide ((n : Int) < most) = false) :
    Calls Try.prog 28 #[.slice A n c, rqV h r, .int .i64 most] w (DoO E w (nextQ L r most) (ansQ L r most).1) := by
  obtain ⟨l1, l2, l3, l4⟩ := small_lens hs
  obtain ⟨V, hV, hVB, hVQ, hVZ, hVs⟩ := box_qs w h r
  have HMAY := dmay_lit (hr.here.below hVB) hs
  rw [hm] at HMAY
  have HMY := Lib.hid HMAY
  clear HMAY
  have hlen := hp.here.len
  have HA : Hid (nextQ L r most = L ∧ (ansQ L r most).1 = errQ 5) := Lib.hid (by
    have hans : ansQ L r most = (errQ 5, false) := by
      unfold ansQ
      rw [if_neg (by rw [hm]; decide), if_neg (by rw [hk]; decide), if_pos hk]
      rw [hlen]
      unfold putQ
      exact if_pos ⟨hi, hro⟩
    unfold nextQ
    rw [hans]
    exact ⟨rfl, rfl⟩)
  have HGET := Lib.hid (fun (w1 : World) (hb : Below w.heap.size w w1) => rget_on h.c (hp.keep (below_all hb)) (hr.here.1.below hb) hfit.1 (small_fit hfit) (by rw [← hr.here.1.1]; omega))
  have HFIT := Lib.hid hfit
  have HRQ := Lib.hid hr
  have hkl : h.n ≤ 1000 := by rw [← hr.here.1.1]; omega
  have HP := Lib.hid hp
  have HQ := Lib.hid hVQ
  have HB := Lib.hid hVB
  have HZ := Lib.hid hVZ
  have HE := Lib.hid hE
  have hVe := Lib.hid hV
  have hwl : w.heap.size + 1 < V.heap.size := by omega
  clear hp hr hs hfit hm hV hVB hVQ hVZ hVs hE l1 l2 l3 l4 hlen
  obtain ⟨cl, sq, kind, key, val, old, to_, limit⟩ := r
  obtain ⟨A1, n1, c1, B1, m1, d1, C1, o1, p1, D1, q1, s1⟩ := h
  unfold rqV
  dsimp only at *
  subst hk
  have HIS := Lib.hid hi
  have hro2 : decide (most ≤ (n : Int)) = true := by simp at hro ⊢; omega
  clear hi hro
  go_enter Try.func28, Try.ntmps28
  go_wp2_with fail
  rw [← hVe.out]
  refine HMY.out.mono ?_
  rintro e w1 ⟨rfl, hb1⟩
  have HB1 := Lib.hid (HB.out.trans (hb1.mono HB.out.size))
  have HQ1 := Lib.hid (HQ.out.below hb1 (by omega))
  have HZ1 := Lib.hid (HZ.out.below hb1 hwl)
  have hw1 : w.heap.size + 1 < w1.heap.size := HZ1.out.lt
  obtain ⟨k0, k1, k2, k3, k4, k5, k6, k7⟩ := HQ1.out.cells
  dsimp only at k0 k1 k2 k3 k4 k5 k6 k7
  have HG := HGET.out w1 HB1.out
  rw [HIS.out] at HG
  have HG1 := Lib.hid HG
  clear hb1 HMY HQ HZ HB hVe HG HGET hwl
  go_wp2_with fail
  refine HG1.out.mono ?_
  rintro e w2 ⟨A2, n2, c2, rfl, hv2, hb2⟩
  have HB2 := Lib.hid (HB1.out.trans (hb2.mono HB1.out.size))
  have HQ2 := Lib.hid (HQ1.out.below hb2 (by omega))
  have HZ2 := Lib.hid (HZ1.out.below hb2 hw1)
  have HV2 := Lib.hid hv2
  have hw2 : w.heap.size + 1 < w2.heap.size := HZ2.out.lt
  clear hb2 hv2 HG1 k0 k1 k2 k3 k4 k5 k6 k7 HQ1 HZ1 HB1 hw1
  go_upto_region 8 with fail
  obtain ⟨w3, hw3, hb3, hx3, hs3⟩ := box_was2 w2 A2 n2 c2 false (valP L key)
  rw [← hw3]
  have HB3 := Lib.hid (HB2.out.trans (hb3.mono HB2.out.size))
  have HQ3 := Lib.hid (HQ2.out.below hb3 (by omega))
  have HZ3 := Lib.hid (HZ2.out.below hb3 hw2)
  have HX3 := Lib.hid hx3
  have HV3 := Lib.hid (HV2.out.keep (below_all hb3))
  have HP3 := Lib.hid (HP.out.keep (below_all HB3.out))
  have HR3 := Lib.hid (HRQ.out.keep (below_all HB3.out))
  have HON3 := Lib.hid (show On E w3 (RsR · ⟨A2, n2, c2, none, 0, 0⟩ ⟨0, false, valP L key, []⟩) from rsr_byt 0 false c2 HV3.out)
  have hw23 : w2.heap.size < w3.heap.size := by omega
  have hne1 : ¬ (w.heap.size = w2.heap.size) := by omega
  have hne2 : ¬ (w2.heap.size = w.heap.size) := by omega
  have hne3 : ¬ (w.heap.size + 1 = w2.heap.size) := by omega
  have hne4 : ¬ (w2.heap.size = w.heap.size + 1) := by omega
  have hne5 : ¬ (w.heap.size = w.heap.size + 1) := by omega
  have hne6 : ¬ (w.heap.size + 1 = w.heap.size) := by omega
  obtain ⟨k0, k1, k2, k3, k4, k5, k6, k7⟩ := HQ3.out.cells
  obtain ⟨x0, x1, x2, x3, x4, xf0, -, -, -, -⟩ := HX3.out.cells
  obtain ⟨t0, t1, t2, t3, t4, f0, f1, f2, f3, f4⟩ := HZ3.out.cells
  dsimp only at k0 k1 k2 k3 k4 k5 k6 k7 x0 x1 x2 x3 x4
  clear hw3 hb3 hs3 HB2 HQ2 HZ2 HV2 HP HRQ
  clear x0 x1 x2 x3 x4
  go_wp2
  refine bodyPost_ret (v := .tuple #[.slice A n c, rsV sh0 (errQ 5)]) (by simp [results, Try.results28, go_sem, t0, t1, t2, t3, t4, rsV, sh0, errQ]) rfl (DoO.of HA.out.1 HA.out.2 rfl ((HP3.out.keep (five_agree w3 (b := w.heap.size + 1) 0 _ _ _ _ _ (off_res HE.out))).mono fun b hb => .inl hb) (err_on _ _ 5) ?_)
  exact five_below HB3.out (b := w.heap.size + 1) (by omega) 0 _ _ _ _ _

set_option maxHeartbeats 16000000 in
theorem ddo_full4 {E : Nat → Prop} {w : World} {A : Option Addr} {n c : Nat} {L : List Pr} {h : Qh} {r : Rq} (hp : On E w (Prs · A n c L)) (hr : On E w (RqR · h r)) (hE : ∀ b, E b → b < w.heap.size) (hs : smallQ r = true) (hfit : Fit L) (hn : n ≤ 900) (most : Int) (hm : mayQ r = true) (hk : r.kind = 4) (hi : hasB L r.key = false) (hro : decide ((n : Int) < most) = false) :
    Calls Try.prog 28 #[.slice A n c, rqV h r, .int .i64 most] w (DoO E w (nextQ L r most) (ansQ L r most).1) := by
  obtain ⟨l1, l2, l3, l4⟩ := small_lens hs
  obtain ⟨V, hV, hVB, hVQ, hVZ, hVs⟩ := box_qs w h r
  have HMAY := dmay_lit (hr.here.below hVB) hs
  rw [hm] at HMAY
  have HMY := Lib.hid HMAY
  clear HMAY
  have hlen := hp.here.len
  have HA : Hid (nextQ L r most = L ∧ (ansQ L r most).1 = errQ 5) := Lib.hid (by
    have hans : ansQ L r most = (errQ 5, false) := by
      unfold ansQ
      rw [if_neg (by rw [hm]; decide), if_neg (by rw [hk]; decide), if_neg (by rw [hk]; decide), if_neg (by rw [hk]; decide), if_pos hk]
      rw [if_pos hi, hlen]
      unfold putQ
      exact if_pos ⟨hi, hro⟩
    unfold nextQ
    rw [hans]
    exact ⟨rfl, rfl⟩)
  have HGET := Lib.hid (fun (w1 : World) (hb : Below w.heap.size w w1) => rget_on h.c (hp.keep (below_all hb)) (hr.here.1.below hb) hfit.1 (small_fit hfit) (by rw [← hr.here.1.1]; omega))
  have HFIT := Lib.hid hfit
  have HRQ := Lib.hid hr
  have hkl : h.n ≤ 1000 := by rw [← hr.here.1.1]; omega
  have HP := Lib.hid hp
  have HQ := Lib.hid hVQ
  have HB := Lib.hid hVB
  have HZ := Lib.hid hVZ
  have HE := Lib.hid hE
  have hVe := Lib.hid hV
  have hwl : w.heap.size + 1 < V.heap.size := by omega
  clear hp hr hs hfit hm hV hVB hVQ hVZ hVs hE l1 l2 l3 l4 hlen
  obtain ⟨cl, sq, kind, key, val, old, to_, limit⟩ := r
  obtain ⟨A1, n1, c1, B1, m1, d1, C1, o1, p1, D1, q1, s1⟩ := h
  unfold rqV
  dsimp only at *
  subst hk
  have HIS := Lib.hid hi
  have hro2 : decide (most ≤ (n : Int)) = true := by simp at hro ⊢; omega
  clear hi hro
  go_enter Try.func28, Try.ntmps28
  go_wp2_with fail
  rw [← hVe.out]
  refine HMY.out.mono ?_
  rintro e w1 ⟨rfl, hb1⟩
  have HB1 := Lib.hid (HB.out.trans (hb1.mono HB.out.size))
  have HQ1 := Lib.hid (HQ.out.below hb1 (by omega))
  have HZ1 := Lib.hid (HZ.out.below hb1 hwl)
  have hw1 : w.heap.size + 1 < w1.heap.size := HZ1.out.lt
  obtain ⟨k0, k1, k2, k3, k4, k5, k6, k7⟩ := HQ1.out.cells
  dsimp only at k0 k1 k2 k3 k4 k5 k6 k7
  have HG := HGET.out w1 HB1.out
  rw [HIS.out] at HG
  have HG1 := Lib.hid HG
  clear hb1 HMY HQ HZ HB hVe HG HGET hwl
  go_wp2_with fail
  refine HG1.out.mono ?_
  rintro e w2 ⟨A2, n2, c2, rfl, hv2, hb2⟩
  have HB2 := Lib.hid (HB1.out.trans (hb2.mono HB1.out.size))
  have HQ2 := Lib.hid (HQ1.out.below hb2 (by omega))
  have HZ2 := Lib.hid (HZ1.out.below hb2 hw1)
  have HV2 := Lib.hid hv2
  have hw2 : w.heap.size + 1 < w2.heap.size := HZ2.out.lt
  clear hb2 hv2 HG1 k0 k1 k2 k3 k4 k5 k6 k7 HQ1 HZ1 HB1 hw1
  go_upto_region 8 with fail
  obtain ⟨w3, hw3, hb3, hx3, hs3⟩ := box_was2 w2 A2 n2 c2 false (valP L key)
  rw [← hw3]
  have HB3 := Lib.hid (HB2.out.trans (hb3.mono HB2.out.size))
  have HQ3 := Lib.hid (HQ2.out.below hb3 (by omega))
  have HZ3 := Lib.hid (HZ2.out.below hb3 hw2)
  have HX3 := Lib.hid hx3
  have HV3 := Lib.hid (HV2.out.keep (below_all hb3))
  have HP3 := Lib.hid (HP.out.keep (below_all HB3.out))
  have HR3 := Lib.hid (HRQ.out.keep (below_all HB3.out))
  have HON3 := Lib.hid (show On E w3 (RsR · ⟨A2, n2, c2, none, 0, 0⟩ ⟨0, false, valP L key, []⟩) from rsr_byt 0 false c2 HV3.out)
  have hw23 : w2.heap.size < w3.heap.size := by omega
  have hne1 : ¬ (w.heap.size = w2.heap.size) := by omega
  have hne2 : ¬ (w2.heap.size = w.heap.size) := by omega
  have hne3 : ¬ (w.heap.size + 1 = w2.heap.size) := by omega
  have hne4 : ¬ (w2.heap.size = w.heap.size + 1) := by omega
  have hne5 : ¬ (w.heap.size = w.heap.size + 1) := by omega
  have hne6 : ¬ (w.heap.size + 1 = w.heap.size) := by omega
  obtain ⟨k0, k1, k2, k3, k4, k5, k6, k7⟩ := HQ3.out.cells
  obtain ⟨x0, x1, x2, x3, x4, xf0, -, -, -, -⟩ := HX3.out.cells
  obtain ⟨t0, t1, t2, t3, t4, f0, f1, f2, f3, f4⟩ := HZ3.out.cells
  dsimp only at k0 k1 k2 k3 k4 k5 k6 k7 x0 x1 x2 x3 x4
  clear hw3 hb3 hs3 HB2 HQ2 HZ2 HV2 HP HRQ
  clear x0 x1 x2 x3 x4
  go_wp2
  refine bodyPost_ret (v := .tuple #[.slice A n c, rsV sh0 (errQ 5)]) (by simp [results, Try.results28, go_sem, t0, t1, t2, t3, t4, rsV, sh0, errQ]) rfl (DoO.of HA.out.1 HA.out.2 rfl ((HP3.out.keep (five_agree w3 (b := w.heap.size + 1) 0 _ _ _ _ _ (off_res HE.out))).mono fun b hb => .inl hb) (err_on _ _ 5) ?_)
  exact five_below HB3.out (b := w.heap.size + 1) (by omega) 0 _ _ _ _ _

set_option maxHeartbeats 16000000 in
theorem ddo_put_yes {E : Nat → Prop} {w : World} {A : Option Addr} {n c : Nat} {L : List Pr} {h : Qh} {r : Rq} (hp : On E w (Prs · A n c L)) (hr : On E w (RqR · h r)) (hE : ∀ b, E b → b < w.heap.size) (hs : smallQ r = true) (hfit : Fit L) (hn : n ≤ 900) (most : Int) (hm : mayQ r = true) (hk : r.kind = 2) (hi : hasB L r.key = true) :
    Calls Try.prog 28 #[.slice A n c, rqV h r, .int .i64 most] w (DoO E w (nextQ L r most) (ansQ L r most).1) := by
  obtain ⟨l1, l2, l3, l4⟩ := small_lens hs
  obtain ⟨V, hV, hVB, hVQ, hVZ, hVs⟩ := box_qs w h r
  have HMAY := dmay_lit (hr.here.below hVB) hs
  rw [hm] at HMAY
  have HMY := Lib.hid HMAY
  clear HMAY
  have hlen := hp.here.len
  have HA : Hid (nextQ L r most = putL L r.key r.val ∧ (ansQ L r most).1 = ⟨0, true, valP L r.key, []⟩) := Lib.hid (by
    have hans : ansQ L r most = (⟨0, true, valP L r.key, []⟩, true) := by
      unfold ansQ
      rw [if_neg (by rw [hm]; decide), if_neg (by rw [hk]; decide), if_pos hk]
      unfold putQ wasQ
      rw [hi]
      exact if_neg (by simp)
    unfold nextQ writeQ
    rw [hans, if_neg (show ¬ r.kind = 3 by rw [hk]; decide)]
    exact ⟨rfl, rfl⟩)
  have HGET := Lib.hid (fun (w1 : World) (hb : Below w.heap.size w w1) => rget_on h.c (hp.keep (below_all hb)) (hr.here.1.below hb) hfit.1 (small_fit hfit) (by rw [← hr.here.1.1]; omega))
  have HFIT := Lib.hid hfit
  have HRQ := Lib.hid hr
  have hkl : h.n ≤ 1000 := by rw [← hr.here.1.1]; omega
  have HP := Lib.hid hp
  have HQ := Lib.hid hVQ
  have HB := Lib.hid hVB
  have HZ := Lib.hid hVZ
  have HE := Lib.hid hE
  have hVe := Lib.hid hV
  have hwl : w.heap.size + 1 < V.heap.size := by omega
  clear hp hr hs hfit hm hV hVB hVQ hVZ hVs hE l1 l2 l3 l4 hlen
  obtain ⟨cl, sq, kind, key, val, old, to_, limit⟩ := r
  obtain ⟨A1, n1, c1, B1, m1, d1, C1, o1, p1, D1, q1, s1⟩ := h
  unfold rqV
  dsimp only at *
  subst hk
  have HIS := Lib.hid hi
  clear hi
  go_enter Try.func28, Try.ntmps28
  go_wp2_with fail
  rw [← hVe.out]
  refine HMY.out.mono ?_
  rintro e w1 ⟨rfl, hb1⟩
  have HB1 := Lib.hid (HB.out.trans (hb1.mono HB.out.size))
  have HQ1 := Lib.hid (HQ.out.below hb1 (by omega))
  have HZ1 := Lib.hid (HZ.out.below hb1 hwl)
  have hw1 : w.heap.size + 1 < w1.heap.size := HZ1.out.lt
  obtain ⟨k0, k1, k2, k3, k4, k5, k6, k7⟩ := HQ1.out.cells
  dsimp only at k0 k1 k2 k3 k4 k5 k6 k7
  have HG := HGET.out w1 HB1.out
  rw [HIS.out] at HG
  have HG1 := Lib.hid HG
  clear hb1 HMY HQ HZ HB hVe HG HGET hwl
  go_wp2_with fail
  refine HG1.out.mono ?_
  rintro e w2 ⟨A2, n2, c2, rfl, hv2, hb2⟩
  have HB2 := Lib.hid (HB1.out.trans (hb2.mono HB1.out.size))
  have HQ2 := Lib.hid (HQ1.out.below hb2 (by omega))
  have HZ2 := Lib.hid (HZ1.out.below hb2 hw1)
  have HV2 := Lib.hid hv2
  have hw2 : w.heap.size + 1 < w2.heap.size := HZ2.out.lt
  clear hb2 hv2 HG1 k0 k1 k2 k3 k4 k5 k6 k7 HQ1 HZ1 HB1 hw1
  go_upto_region 8 with fail
  obtain ⟨w3, hw3, hb3, hx3, hs3⟩ := box_was2 w2 A2 n2 c2 true (valP L key)
  rw [← hw3]
  have HB3 := Lib.hid (HB2.out.trans (hb3.mono HB2.out.size))
  have HQ3 := Lib.hid (HQ2.out.below hb3 (by omega))
  have HZ3 := Lib.hid (HZ2.out.below hb3 hw2)
  have HX3 := Lib.hid hx3
  have HV3 := Lib.hid (HV2.out.keep (below_all hb3))
  have HP3 := Lib.hid (HP.out.keep (below_all HB3.out))
  have HR3 := Lib.hid (HRQ.out.keep (below_all HB3.out))
  have HON3 := Lib.hid (show On E w3 (RsR · ⟨A2, n2, c2, none, 0, 0⟩ ⟨0, true, valP L key, []⟩) from rsr_byt 0 true c2 HV3.out)
  have hw23 : w2.heap.size < w3.heap.size := by omega
  have hne1 : ¬ (w.heap.size = w2.heap.size) := by omega
  have hne2 : ¬ (w2.heap.size = w.heap.size) := by omega
  have hne3 : ¬ (w.heap.size + 1 = w2.heap.size) := by omega
  have hne4 : ¬ (w2.heap.size = w.heap.size + 1) := by omega
  have hne5 : ¬ (w.heap.size = w.heap.size + 1) := by omega
  have hne6 : ¬ (w.heap.size + 1 = w.heap.size) := by omega
  obtain ⟨k0, k1, k2, k3, k4, k5, k6, k7⟩ := HQ3.out.cells
  obtain ⟨x0, x1, x2, x3, x4, xf0, -, -, -, -⟩ := HX3.out.cells
  obtain ⟨t0, t1, t2, t3, t4, f0, f1, f2, f3, f4⟩ := HZ3.out.cells
  dsimp only at k0 k1 k2 k3 k4 k5 k6 k7 x0 x1 x2 x3 x4
  clear hw3 hb3 hs3 HB2 HQ2 HZ2 HV2 HP HRQ
  have D := Lib.hid (rput_on (w := w3.drew) c1 d1 (HP3.out.keep (below_all (Below.refl _ _).drew)) ((show On E w3 (Byt · A1 n1 key) from fun v hv => (HR3.out v hv).1).keep (below_all (Below.refl _ _).drew)) ((show On E w3 (Byt · B1 m1 val) from fun v hv => (HR3.out v hv).2.1).keep (below_all (Below.refl _ _).drew)) HFIT.out.1 (small_fit HFIT.out) hkl (by omega))
  go_upto_region 24 with fail
  go_region_held3 (fun w' => w'.cell? ⟨w.heap.size, 3, none⟩ = some (.slice A1 n1 c1) ∧ w'.cell? ⟨w.heap.size, 4, none⟩ = some (.slice B1 m1 d1) ∧ w'.cell? ⟨w2.heap.size, 0, none⟩ = some (.int .i64 0) ∧ w'.cell? ⟨w2.heap.size, 1, none⟩ = some (.bool true) ∧ w'.cell? ⟨w2.heap.size, 2, none⟩ = some (.slice A2 n2 c2) ∧ w'.cell? ⟨w2.heap.size, 3, none⟩ = some (.slice none 0 0) ∧ w'.cell? ⟨w2.heap.size, 4, none⟩ = some (.int .u64 0)) (go_keep)
    ((go_at_call 42
      (with_reducible refine D.out.mono ?_)
      rintro e w4 ⟨A4, n4, c4, rfl, hp4, hb4⟩
      have hb4 : Below w3.heap.size w3 w4 := undrew hb4
      have HB4 := Lib.hid (HB3.out.trans (hb4.mono HB3.out.size))
      have HP4 := Lib.hid hp4
      have HON4 := Lib.hid (HON3.out.keep (below_all hb4))
      have HQ4 := Lib.hid (HQ3.out.below hb4 HQ3.out.lt)
      have HX4 := Lib.hid (HX3.out.below hb4 HX3.out.lt)
      have HZ4 := Lib.hid (HZ3.out.below hb4 HZ3.out.lt)
      obtain ⟨k0, k1, k2, k3, k4, k5, k6, k7⟩ := HQ4.out.cells
      obtain ⟨x0, x1, x2, x3, x4, -, -, -, -, -⟩ := HX4.out.cells
      obtain ⟨t0, t1, t2, t3, t4, f0, f1, f2, f3, f4⟩ := HZ4.out.cells
      dsimp only at k0 k1 k2 k3 k4 k5 k6 k7 x0 x1 x2 x3 x4
      clear hp4 hb4))
  clear k0 k1 k2 k3 k4 k5 k6 k7 x0 x1 x2 x3 x4 D
  go_wp2
  refine bodyPost_ret (v := .tuple #[.slice A4 n4 c4, rsV ⟨A2, n2, c2, none, 0, 0⟩ ⟨0, true, valP L key, []⟩]) (by simp [results, Try.results28, go_sem, t0, t1, t2, t3, t4, rsV]) rfl (DoO.of HA.out.1 HA.out.2 rfl ((HP4.out.keep (five_agree w4 (b := w.heap.size + 1) 0 _ _ _ _ _ (fun hc => by
    rcases hc with h | h
    · exact off_res HE.out h
    · have h : w3.heap.size ≤ w.heap.size + 1 := h
      omega))).mono fun b hb => hb.imp id fun h => by have h : w3.heap.size ≤ b := h; omega) ((HON4.out.keep (five_agree w4 (b := w.heap.size + 1) 0 _ _ _ _ _ (off_res HE.out))).mono fun b hb => .inl hb) ?_)
  exact five_below HB4.out (b := w.heap.size + 1) (by omega) 0 _ _ _ _ _

set_option maxHeartbeats 16000000 in
theorem ddo_put_no {E : Nat → Prop} {w : World} {A : Option Addr} {n c : Nat} {L : List Pr} {h : Qh} {r : Rq} (hp : On E w (Prs · A n c L)) (hr : On E w (RqR · h r)) (hE : ∀ b, E b → b < w.heap.size) (hs : smallQ r = true) (hfit : Fit L) (hn : n ≤ 900) (most : Int) (hm : mayQ r = true) (hk : r.kind = 2) (hi : hasB L r.key = false) (hro : decide ((n : Int) < most) = true) :
    Calls Try.prog 28 #[.slice A n c, rqV h r, .int .i64 most] w (DoO E w (nextQ L r most) (ansQ L r most).1) := by
  obtain ⟨l1, l2, l3, l4⟩ := small_lens hs
  obtain ⟨V, hV, hVB, hVQ, hVZ, hVs⟩ := box_qs w h r
  have HMAY := dmay_lit (hr.here.below hVB) hs
  rw [hm] at HMAY
  have HMY := Lib.hid HMAY
  clear HMAY
  have hlen := hp.here.len
  have HA : Hid (nextQ L r most = putL L r.key r.val ∧ (ansQ L r most).1 = ⟨0, false, valP L r.key, []⟩) := Lib.hid (by
    have hans : ansQ L r most = (⟨0, false, valP L r.key, []⟩, true) := by
      unfold ansQ
      rw [if_neg (by rw [hm]; decide), if_neg (by rw [hk]; decide), if_pos hk]
      rw [hlen, hro, putQ_room]
      unfold wasQ
      rw [hi]
    unfold nextQ writeQ
    rw [hans, if_neg (show ¬ r.kind = 3 by rw [hk]; decide)]
    exact ⟨rfl, rfl⟩)
  have HGET := Lib.hid (fun (w1 : World) (hb : Below w.heap.size w w1) => rget_on h.c (hp.keep (below_all hb)) (hr.here.1.below hb) hfit.1 (small_fit hfit) (by rw [← hr.here.1.1]; omega))
  have HFIT := Lib.hid hfit
  have HRQ := Lib.hid hr
  have hkl : h.n ≤ 1000 := by rw [← hr.here.1.1]; omega
  have HP := Lib.hid hp
  have HQ := Lib.hid hVQ
  have HB := Lib.hid hVB
  have HZ := Lib.hid hVZ
  have HE := Lib.hid hE
  have hVe := Lib.hid hV
  have hwl : w.heap.size + 1 < V.heap.size := by omega
  clear hp hr hs hfit hm hV hVB hVQ hVZ hVs hE l1 l2 l3 l4 hlen
  obtain ⟨cl, sq, kind, key, val, old, to_, limit⟩ := r
  obtain ⟨A1, n1, c1, B1, m1, d1, C1, o1, p1, D1, q1, s1⟩ := h
  unfold rqV
  dsimp only at *
  subst hk
  have HIS := Lib.hid hi
  have hro2 : decide (most ≤ (n : Int)) = false := by simp at hro ⊢; omega
  clear hro
  clear hi
  go_enter Try.func28, Try.ntmps28
  go_wp2_with fail
  rw [← hVe.out]
  refine HMY.out.mono ?_
  rintro e w1 ⟨rfl, hb1⟩
  have HB1 := Lib.hid (HB.out.trans (hb1.mono HB.out.size))
  have HQ1 := Lib.hid (HQ.out.below hb1 (by omega))
  have HZ1 := Lib.hid (HZ.out.below hb1 hwl)
  have hw1 : w.heap.size + 1 < w1.heap.size := HZ1.out.lt
  obtain ⟨k0, k1, k2, k3, k4, k5, k6, k7⟩ := HQ1.out.cells
  dsimp only at k0 k1 k2 k3 k4 k5 k6 k7
  have HG := HGET.out w1 HB1.out
  rw [HIS.out] at HG
  have HG1 := Lib.hid HG
  clear hb1 HMY HQ HZ HB hVe HG HGET hwl
  go_wp2_with fail
  refine HG1.out.mono ?_
  rintro e w2 ⟨A2, n2, c2, rfl, hv2, hb2⟩
  have HB2 := Lib.hid (HB1.out.trans (hb2.mono HB1.out.size))
  have HQ2 := Lib.hid (HQ1.out.below hb2 (by omega))
  have HZ2 := Lib.hid (HZ1.out.below hb2 hw1)
  have HV2 := Lib.hid hv2
  have hw2 : w.heap.size + 1 < w2.heap.size := HZ2.out.lt
  clear hb2 hv2 HG1 k0 k1 k2 k3 k4 k5 k6 k7 HQ1 HZ1 HB1 hw1
  go_upto_region 8 with fail
  obtain ⟨w3, hw3, hb3, hx3, hs3⟩ := box_was2 w2 A2 n2 c2 false (valP L key)
  rw [← hw3]
  have HB3 := Lib.hid (HB2.out.trans (hb3.mono HB2.out.size))
  have HQ3 := Lib.hid (HQ2.out.below hb3 (by omega))
  have HZ3 := Lib.hid (HZ2.out.below hb3 hw2)
  have HX3 := Lib.hid hx3
  have HV3 := Lib.hid (HV2.out.keep (below_all hb3))
  have HP3 := Lib.hid (HP.out.keep (below_all HB3.out))
  have HR3 := Lib.hid (HRQ.out.keep (below_all HB3.out))
  have HON3 := Lib.hid (show On E w3 (RsR · ⟨A2, n2, c2, none, 0, 0⟩ ⟨0, false, valP L key, []⟩) from rsr_byt 0 false c2 HV3.out)
  have hw23 : w2.heap.size < w3.heap.size := by omega
  have hne1 : ¬ (w.heap.size = w2.heap.size) := by omega
  have hne2 : ¬ (w2.heap.size = w.heap.size) := by omega
  have hne3 : ¬ (w.heap.size + 1 = w2.heap.size) := by omega
  have hne4 : ¬ (w2.heap.size = w.heap.size + 1) := by omega
  have hne5 : ¬ (w.heap.size = w.heap.size + 1) := by omega
  have hne6 : ¬ (w.heap.size + 1 = w.heap.size) := by omega
  obtain ⟨k0, k1, k2, k3, k4, k5, k6, k7⟩ := HQ3.out.cells
  obtain ⟨x0, x1, x2, x3, x4, xf0, -, -, -, -⟩ := HX3.out.cells
  obtain ⟨t0, t1, t2, t3, t4, f0, f1, f2, f3, f4⟩ := HZ3.out.cells
  dsimp only at k0 k1 k2 k3 k4 k5 k6 k7 x0 x1 x2 x3 x4
  clear hw3 hb3 hs3 HB2 HQ2 HZ2 HV2 HP HRQ
  have D := Lib.hid (rput_on (w := w3.drew) c1 d1 (HP3.out.keep (below_all (Below.refl _ _).drew)) ((show On E w3 (Byt · A1 n1 key) from fun v hv => (HR3.out v hv).1).keep (below_all (Below.refl _ _).drew)) ((show On E w3 (Byt · B1 m1 val) from fun v hv => (HR3.out v hv).2.1).keep (below_all (Below.refl _ _).drew)) HFIT.out.1 (small_fit HFIT.out) hkl (by omega))
  go_upto_region 24 with fail
  go_region_held3 (fun w' => w'.cell? ⟨w.heap.size, 3, none⟩ = some (.slice A1 n1 c1) ∧ w'.cell? ⟨w.heap.size, 4, none⟩ = some (.slice B1 m1 d1) ∧ w'.cell? ⟨w2.heap.size, 0, none⟩ = some (.int .i64 0) ∧ w'.cell? ⟨w2.heap.size, 1, none⟩ = some (.bool false) ∧ w'.cell? ⟨w2.heap.size, 2, none⟩ = some (.slice A2 n2 c2) ∧ w'.cell? ⟨w2.heap.size, 3, none⟩ = some (.slice none 0 0) ∧ w'.cell? ⟨w2.heap.size, 4, none⟩ = some (.int .u64 0)) (go_keep)
    ((go_at_call 42
      (with_reducible refine D.out.mono ?_)
      rintro e w4 ⟨A4, n4, c4, rfl, hp4, hb4⟩
      have hb4 : Below w3.heap.size w3 w4 := undrew hb4
      have HB4 := Lib.hid (HB3.out.trans (hb4.mono HB3.out.size))
      have HP4 := Lib.hid hp4
      have HON4 := Lib.hid (HON3.out.keep (below_all hb4))
      have HQ4 := Lib.hid (HQ3.out.below hb4 HQ3.out.lt)
      have HX4 := Lib.hid (HX3.out.below hb4 HX3.out.lt)
      have HZ4 := Lib.hid (HZ3.out.below hb4 HZ3.out.lt)
      obtain ⟨k0, k1, k2, k3, k4, k5, k6, k7⟩ := HQ4.out.cells
      obtain ⟨x0, x1, x2, x3, x4, -, -, -, -, -⟩ := HX4.out.cells
      obtain ⟨t0, t1, t2, t3, t4, f0, f1, f2, f3, f4⟩ := HZ4.out.cells
      dsimp only at k0 k1 k2 k3 k4 k5 k6 k7 x0 x1 x2 x3 x4
      clear hp4 hb4))
  clear k0 k1 k2 k3 k4 k5 k6 k7 x0 x1 x2 x3 x4 D
  go_wp2
  refine bodyPost_ret (v := .tuple #[.slice A4 n4 c4, rsV ⟨A2, n2, c2, none, 0, 0⟩ ⟨0, false, valP L key, []⟩]) (by simp [results, Try.results28, go_sem, t0, t1, t2, t3, t4, rsV]) rfl (DoO.of HA.out.1 HA.out.2 rfl ((HP4.out.keep (five_agree w4 (b := w.heap.size + 1) 0 _ _ _ _ _ (fun hc => by
    rcases hc with h | h
    · exact off_res HE.out h
    · have h : w3.heap.size ≤ w.heap.size + 1 := h
      omega))).mono fun b hb => hb.imp id fun h => by have h : w3.heap.size ≤ b := h; omega) ((HON4.out.keep (five_agree w4 (b := w.heap.size + 1) 0 _ _ _ _ _ (off_res HE.out))).mono fun b hb => .inl hb) ?_)
  exact five_below HB4.out (b := w.heap.size + 1) (by omega) 0 _ _ _ _ _

set_option maxHeartbeats 16000000 in
theorem ddo_abs_no {E : Nat → Prop} {w : World} {A : Option Addr} {n c : Nat} {L : List Pr} {h : Qh} {r : Rq} (hp : On E w (Prs · A n c L)) (hr : On E w (RqR · h r)) (hE : ∀ b, E b → b < w.heap.size) (hs : smallQ r = true) (hfit : Fit L) (hn : n ≤ 900) (most : Int) (hm : mayQ r = true) (hk : r.kind = 4) (hi : hasB L r.key = false) (hro : decide ((n : Int) < most) = true) :
    Calls Try.prog 28 #[.slice A n c, rqV h r, .int .i64 most] w (DoO E w (nextQ L r most) (ansQ L r most).1) := by
  obtain ⟨l1, l2, l3, l4⟩ := small_lens hs
  obtain ⟨V, hV, hVB, hVQ, hVZ, hVs⟩ := box_qs w h r
  have HMAY := dmay_lit (hr.here.below hVB) hs
  rw [hm] at HMAY
  have HMY := Lib.hid HMAY
  clear HMAY
  have hlen := hp.here.len
  have HA : Hid (nextQ L r most = putL L r.key r.val ∧ (ansQ L r most).1 = ⟨0, false, valP L r.key, []⟩) := Lib.hid (by
    have hans : ansQ L r most = (⟨0, false, valP L r.key, []⟩, true) := by
      unfold ansQ
      rw [if_neg (by rw [hm]; decide), if_neg (by rw [hk]; decide), if_neg (by rw [hk]; decide), if_neg (by rw [hk]; decide), if_pos hk]
      rw [if_pos hi, hlen, hro, putQ_room]
      unfold wasQ
      rw [hi]
    unfold nextQ writeQ
    rw [hans, if_neg (show ¬ r.kind = 3 by rw [hk]; decide)]
    exact ⟨rfl, rfl⟩)
  have HGET := Lib.hid (fun (w1 : World) (hb : Below w.heap.size w w1) => rget_on h.c (hp.keep (below_all hb)) (hr.here.1.below hb) hfit.1 (small_fit hfit) (by rw [← hr.here.1.1]; omega))
  have HFIT := Lib.hid hfit
  have HRQ := Lib.hid hr
  have hkl : h.n ≤ 1000 := by rw [← hr.here.1.1]; omega
  have HP := Lib.hid hp
  have HQ := Lib.hid hVQ
  have HB := Lib.hid hVB
  have HZ := Lib.hid hVZ
  have HE := Lib.hid hE
  have hVe := Lib.hid hV
  have hwl : w.heap.size + 1 < V.heap.size := by omega
  clear hp hr hs hfit hm hV hVB hVQ hVZ hVs hE l1 l2 l3 l4 hlen
  obtain ⟨cl, sq, kind, key, val, old, to_, limit⟩ := r
  obtain ⟨A1, n1, c1, B1, m1, d1, C1, o1, p1, D1, q1, s1⟩ := h
  unfold rqV
  dsimp only at *
  subst hk
  have HIS := Lib.hid hi
  have hro2 : decide (most ≤ (n : Int)) = false := by simp at hro ⊢; omega
  clear hro
  clear hi
  go_enter Try.func28, Try.ntmps28
  go_wp2_with fail
  rw [← hVe.out]
  refine HMY.out.mono ?_
  rintro e w1 ⟨rfl, hb1⟩
  have HB1 := Lib.hid (HB.out.trans (hb1.mono HB.out.size))
  have HQ1 := Lib.hid (HQ.out.below hb1 (by omega))
  have HZ1 := Lib.hid (HZ.out.below hb1 hwl)
  have hw1 : w.heap.size + 1 < w1.heap.size := HZ1.out.lt
  obtain ⟨k0, k1, k2, k3, k4, k5, k6, k7⟩ := HQ1.out.cells
  dsimp only at k0 k1 k2 k3 k4 k5 k6 k7
  have HG := HGET.out w1 HB1.out
  rw [HIS.out] at HG
  have HG1 := Lib.hid HG
  clear hb1 HMY HQ HZ HB hVe HG HGET hwl
  go_wp2_with fail
  refine HG1.out.mono ?_
  rintro e w2 ⟨A2, n2, c2, rfl, hv2, hb2⟩
  have HB2 := Lib.hid (HB1.out.trans (hb2.mono HB1.out.size))
  have HQ2 := Lib.hid (HQ1.out.below hb2 (by omega))
  have HZ2 := Lib.hid (HZ1.out.below hb2 hw1)
  have HV2 := Lib.hid hv2
  have hw2 : w.heap.size + 1 < w2.heap.size := HZ2.out.lt
  clear hb2 hv2 HG1 k0 k1 k2 k3 k4 k5 k6 k7 HQ1 HZ1 HB1 hw1
  go_upto_region 8 with fail
  obtain ⟨w3, hw3, hb3, hx3, hs3⟩ := box_was2 w2 A2 n2 c2 false (valP L key)
  rw [← hw3]
  have HB3 := Lib.hid (HB2.out.trans (hb3.mono HB2.out.size))
  have HQ3 := Lib.hid (HQ2.out.below hb3 (by omega))
  have HZ3 := Lib.hid (HZ2.out.below hb3 hw2)
  have HX3 := Lib.hid hx3
  have HV3 := Lib.hid (HV2.out.keep (below_all hb3))
  have HP3 := Lib.hid (HP.out.keep (below_all HB3.out))
  have HR3 := Lib.hid (HRQ.out.keep (below_all HB3.out))
  have HON3 := Lib.hid (show On E w3 (RsR · ⟨A2, n2, c2, none, 0, 0⟩ ⟨0, false, valP L key, []⟩) from rsr_byt 0 false c2 HV3.out)
  have hw23 : w2.heap.size < w3.heap.size := by omega
  have hne1 : ¬ (w.heap.size = w2.heap.size) := by omega
  have hne2 : ¬ (w2.heap.size = w.heap.size) := by omega
  have hne3 : ¬ (w.heap.size + 1 = w2.heap.size) := by omega
  have hne4 : ¬ (w2.heap.size = w.heap.size + 1) := by omega
  have hne5 : ¬ (w.heap.size = w.heap.size + 1) := by omega
  have hne6 : ¬ (w.heap.size + 1 = w.heap.size) := by omega
  obtain ⟨k0, k1, k2, k3, k4, k5, k6, k7⟩ := HQ3.out.cells
  obtain ⟨x0, x1, x2, x3, x4, xf0, -, -, -, -⟩ := HX3.out.cells
  obtain ⟨t0, t1, t2, t3, t4, f0, f1, f2, f3, f4⟩ := HZ3.out.cells
  dsimp only at k0 k1 k2 k3 k4 k5 k6 k7 x0 x1 x2 x3 x4
  clear hw3 hb3 hs3 HB2 HQ2 HZ2 HV2 HP HRQ
  have D := Lib.hid (rput_on (w := w3.drew) c1 d1 (HP3.out.keep (below_all (Below.refl _ _).drew)) ((show On E w3 (Byt · A1 n1 key) from fun v hv => (HR3.out v hv).1).keep (below_all (Below.refl _ _).drew)) ((show On E w3 (Byt · B1 m1 val) from fun v hv => (HR3.out v hv).2.1).keep (below_all (Below.refl _ _).drew)) HFIT.out.1 (small_fit HFIT.out) hkl (by omega))
  go_upto_region 24 with fail
  go_region_held3 (fun w' => w'.cell? ⟨w.heap.size, 3, none⟩ = some (.slice A1 n1 c1) ∧ w'.cell? ⟨w.heap.size, 4, none⟩ = some (.slice B1 m1 d1) ∧ w'.cell? ⟨w2.heap.size, 0, none⟩ = some (.int .i64 0) ∧ w'.cell? ⟨w2.heap.size, 1, none⟩ = some (.bool false) ∧ w'.cell? ⟨w2.heap.size, 2, none⟩ = some (.slice A2 n2 c2) ∧ w'.cell? ⟨w2.heap.size, 3, none⟩ = some (.slice none 0 0) ∧ w'.cell? ⟨w2.heap.size, 4, none⟩ = some (.int .u64 0)) (go_keep)
    ((go_at_call 42
      (with_reducible refine D.out.mono ?_)
      rintro e w4 ⟨A4, n4, c4, rfl, hp4, hb4⟩
      have hb4 : Below w3.heap.size w3 w4 := undrew hb4
      have HB4 := Lib.hid (HB3.out.trans (hb4.mono HB3.out.size))
      have HP4 := Lib.hid hp4
      have HON4 := Lib.hid (HON3.out.keep (below_all hb4))
      have HQ4 := Lib.hid (HQ3.out.below hb4 HQ3.out.lt)
      have HX4 := Lib.hid (HX3.out.below hb4 HX3.out.lt)
      have HZ4 := Lib.hid (HZ3.out.below hb4 HZ3.out.lt)
      obtain ⟨k0, k1, k2, k3, k4, k5, k6, k7⟩ := HQ4.out.cells
      obtain ⟨x0, x1, x2, x3, x4, -, -, -, -, -⟩ := HX4.out.cells
      obtain ⟨t0, t1, t2, t3, t4, f0, f1, f2, f3, f4⟩ := HZ4.out.cells
      dsimp only at k0 k1 k2 k3 k4 k5 k6 k7 x0 x1 x2 x3 x4
      clear hp4 hb4))
  clear k0 k1 k2 k3 k4 k5 k6 k7 x0 x1 x2 x3 x4 D
  go_wp2
  refine bodyPost_ret (v := .tuple #[.slice A4 n4 c4, rsV ⟨A2, n2, c2, none, 0, 0⟩ ⟨0, false, valP L key, []⟩]) (by simp [results, Try.results28, go_sem, t0, t1, t2, t3, t4, rsV]) rfl (DoO.of HA.out.1 HA.out.2 rfl ((HP4.out.keep (five_agree w4 (b := w.heap.size + 1) 0 _ _ _ _ _ (fun hc => by
    rcases hc with h | h
    · exact off_res HE.out h
    · have h : w3.heap.size ≤ w.heap.size + 1 := h
      omega))).mono fun b hb => hb.imp id fun h => by have h : w3.heap.size ≤ b := h; omega) ((HON4.out.keep (five_agree w4 (b := w.heap.size + 1) 0 _ _ _ _ _ (off_res HE.out))).mono fun b hb => .inl hb) ?_)
  exact five_below HB4.out (b := w.heap.size + 1) (by omega) 0 _ _ _ _ _

set_option maxHeartbeats 16000000 in
theorem ddo_swap_yes {E : Nat → Prop} {w : World} {A : Option Addr} {n c : Nat} {L : List Pr} {h : Qh} {r : Rq} (hp : On E w (Prs · A n c L)) (hr : On E w (RqR · h r)) (hE : ∀ b, E b → b < w.heap.size) (hs : smallQ r = true) (hfit : Fit L) (hn : n ≤ 900) (most : Int) (hm : mayQ r = true) (hk : r.kind = 5) (hi : hasB L r.key = true) (hsb : sameB (valP L r.key) r.old = true) :
    Calls Try.prog 28 #[.slice A n c, rqV h r, .int .i64 most] w (DoO E w (nextQ L r most) (ansQ L r most).1) := by
  obtain ⟨l1, l2, l3, l4⟩ := small_lens hs
  obtain ⟨V, hV, hVB, hVQ, hVZ, hVs⟩ := box_qs w h r
  have HMAY := dmay_lit (hr.here.below hVB) hs
  rw [hm] at HMAY
  have HMY := Lib.hid HMAY
  clear HMAY
  have hlen := hp.here.len
  have HA : Hid (nextQ L r most = putL L r.key r.val ∧ (ansQ L r most).1 = ⟨0, true, valP L r.key, []⟩) := Lib.hid (by
    have hans : ansQ L r most = (⟨0, true, valP L r.key, []⟩, true) := by
      unfold ansQ
      rw [if_neg (by rw [hm]; decide), if_neg (by rw [hk]; decide), if_neg (by rw [hk]; decide), if_neg (by rw [hk]; decide), if_neg (by rw [hk]; decide), if_pos hk]
      unfold swapQ wasQ
      rw [hi, if_neg (by simp)]
      exact if_neg (by rw [hsb]; decide)
    unfold nextQ writeQ
    rw [hans, if_neg (show ¬ r.kind = 3 by rw [hk]; decide)]
    exact ⟨rfl, rfl⟩)
  have HGET := Lib.hid (fun (w1 : World) (hb : Below w.heap.size w w1) => rget_on h.c (hp.keep (below_all hb)) (hr.here.1.below hb) hfit.1 (small_fit hfit) (by rw [← hr.here.1.1]; omega))
  have HFIT := Lib.hid hfit
  have HRQ := Lib.hid hr
  have hkl : h.n ≤ 1000 := by rw [← hr.here.1.1]; omega
  have HP := Lib.hid hp
  have HQ := Lib.hid hVQ
  have HB := Lib.hid hVB
  have HZ := Lib.hid hVZ
  have HE := Lib.hid hE
  have hVe := Lib.hid hV
  have hwl : w.heap.size + 1 < V.heap.size := by omega
  clear hp hr hs hfit hm hV hVB hVQ hVZ hVs hE l1 l2 l3 l4 hlen
  obtain ⟨cl, sq, kind, key, val, old, to_, limit⟩ := r
  obtain ⟨A1, n1, c1, B1, m1, d1, C1, o1, p1, D1, q1, s1⟩ := h
  unfold rqV
  dsimp only at *
  subst hk
  have HIS := Lib.hid hi
  have HSB := Lib.hid hsb
  clear hsb
  clear hi
  go_enter Try.func28, Try.ntmps28
  go_wp2_with fail
  rw [← hVe.out]
  refine HMY.out.mono ?_
  rintro e w1 ⟨rfl, hb1⟩
  have HB1 := Lib.hid (HB.out.trans (hb1.mono HB.out.size))
  have HQ1 := Lib.hid (HQ.out.below hb1 (by omega))
  have HZ1 := Lib.hid (HZ.out.below hb1 hwl)
  have hw1 : w.heap.size + 1 < w1.heap.size := HZ1.out.lt
  obtain ⟨k0, k1, k2, k3, k4, k5, k6, k7⟩ := HQ1.out.cells
  dsimp only at k0 k1 k2 k3 k4 k5 k6 k7
  have HG := HGET.out w1 HB1.out
  rw [HIS.out] at HG
  have HG1 := Lib.hid HG
  clear hb1 HMY HQ HZ HB hVe HG HGET hwl
  go_wp2_with fail
  refine HG1.out.mono ?_
  rintro e w2 ⟨A2, n2, c2, rfl, hv2, hb2⟩
  have HB2 := Lib.hid (HB1.out.trans (hb2.mono HB1.out.size))
  have HQ2 := Lib.hid (HQ1.out.below hb2 (by omega))
  have HZ2 := Lib.hid (HZ1.out.below hb2 hw1)
  have HV2 := Lib.hid hv2
  have hw2 : w.heap.size + 1 < w2.heap.size := HZ2.out.lt
  clear hb2 hv2 HG1 k0 k1 k2 k3 k4 k5 k6 k7 HQ1 HZ1 HB1 hw1
  go_upto_region 8 with fail
  obtain ⟨w3, hw3, hb3, hx3, hs3⟩ := box_was2 w2 A2 n2 c2 true (valP L key)
  rw [← hw3]
  have HB3 := Lib.hid (HB2.out.trans (hb3.mono HB2.out.size))
  have HQ3 := Lib.hid (HQ2.out.below hb3 (by omega))
  have HZ3 := Lib.hid (HZ2.out.below hb3 hw2)
  have HX3 := Lib.hid hx3
  have HV3 := Lib.hid (HV2.out.keep (below_all hb3))
  have HP3 := Lib.hid (HP.out.keep (below_all HB3.out))
  have HR3 := Lib.hid (HRQ.out.keep (below_all HB3.out))
  have HON3 := Lib.hid (show On E w3 (RsR · ⟨A2, n2, c2, none, 0, 0⟩ ⟨0, true, valP L key, []⟩) from rsr_byt 0 true c2 HV3.out)
  have hw23 : w2.heap.size < w3.heap.size := by omega
  have hne1 : ¬ (w.heap.size = w2.heap.size) := by omega
  have hne2 : ¬ (w2.heap.size = w.heap.size) := by omega
  have hne3 : ¬ (w.heap.size + 1 = w2.heap.size) := by omega
  have hne4 : ¬ (w2.heap.size = w.heap.size + 1) := by omega
  have hne5 : ¬ (w.heap.size = w.heap.size + 1) := by omega
  have hne6 : ¬ (w.heap.size + 1 = w.heap.size) := by omega
  obtain ⟨k0, k1, k2, k3, k4, k5, k6, k7⟩ := HQ3.out.cells
  obtain ⟨x0, x1, x2, x3, x4, xf0, -, -, -, -⟩ := HX3.out.cells
  obtain ⟨t0, t1, t2, t3, t4, f0, f1, f2, f3, f4⟩ := HZ3.out.cells
  dsimp only at k0 k1 k2 k3 k4 k5 k6 k7 x0 x1 x2 x3 x4
  clear hw3 hb3 hs3 HB2 HQ2 HZ2 HV2 HP HRQ
  have r1 := run_str (c := c2) HV3.out.here
  have r2 := run_str (c := p1) HR3.out.here.2.2.1
  have hsv : (valP L key == old) = true := by rw [str_eq]; exact HSB.out
  have D := Lib.hid (rput_on (w := w3.drew) c1 d1 (HP3.out.keep (below_all (Below.refl _ _).drew)) ((show On E w3 (Byt · A1 n1 key) from fun v hv => (HR3.out v hv).1).keep (below_all (Below.refl _ _).drew)) ((show On E w3 (Byt · B1 m1 val) from fun v hv => (HR3.out v hv).2.1).keep (below_all (Below.refl _ _).drew)) HFIT.out.1 (small_fit HFIT.out) hkl (by omega))
  go_upto_region 24 with fail
  go_region_held3 (fun w' => w'.cell? ⟨w.heap.size, 3, none⟩ = some (.slice A1 n1 c1) ∧ w'.cell? ⟨w.heap.size, 4, none⟩ = some (.slice B1 m1 d1) ∧ w'.cell? ⟨w2.heap.size, 0, none⟩ = some (.int .i64 0) ∧ w'.cell? ⟨w2.heap.size, 1, none⟩ = some (.bool true) ∧ w'.cell? ⟨w2.heap.size, 2, none⟩ = some (.slice A2 n2 c2) ∧ w'.cell? ⟨w2.heap.size, 3, none⟩ = some (.slice none 0 0) ∧ w'.cell? ⟨w2.heap.size, 4, none⟩ = some (.int .u64 0)) (go_keep)
    ((go_at_call 42
      (with_reducible refine D.out.mono ?_)
      rintro e w4 ⟨A4, n4, c4, rfl, hp4, hb4⟩
      have hb4 : Below w3.heap.size w3 w4 := undrew hb4
      have HB4 := Lib.hid (HB3.out.trans (hb4.mono HB3.out.size))
      have HP4 := Lib.hid hp4
      have HON4 := Lib.hid (HON3.out.keep (below_all hb4))
      have HQ4 := Lib.hid (HQ3.out.below hb4 HQ3.out.lt)
      have HX4 := Lib.hid (HX3.out.below hb4 HX3.out.lt)
      have HZ4 := Lib.hid (HZ3.out.below hb4 HZ3.out.lt)
      obtain ⟨k0, k1, k2, k3, k4, k5, k6, k7⟩ := HQ4.out.cells
      obtain ⟨x0, x1, x2, x3, x4, -, -, -, -, -⟩ := HX4.out.cells
      obtain ⟨t0, t1, t2, t3, t4, f0, f1, f2, f3, f4⟩ := HZ4.out.cells
      dsimp only at k0 k1 k2 k3 k4 k5 k6 k7 x0 x1 x2 x3 x4
      clear hp4 hb4))
  clear k0 k1 k2 k3 k4 k5 k6 k7 x0 x1 x2 x3 x4 D
  go_wp2
  refine bodyPost_ret (v := .tuple #[.slice A4 n4 c4, rsV ⟨A2, n2, c2, none, 0, 0⟩ ⟨0, true, valP L key, []⟩]) (by simp [results, Try.results28, go_sem, t0, t1, t2, t3, t4, rsV]) rfl (DoO.of HA.out.1 HA.out.2 rfl ((HP4.out.keep (five_agree w4 (b := w.heap.size + 1) 0 _ _ _ _ _ (fun hc => by
    rcases hc with h | h
    · exact off_res HE.out h
    · have h : w3.heap.size ≤ w.heap.size + 1 := h
      omega))).mono fun b hb => hb.imp id fun h => by have h : w3.heap.size ≤ b := h; omega) ((HON4.out.keep (five_agree w4 (b := w.heap.size + 1) 0 _ _ _ _ _ (off_res HE.out))).mono fun b hb => .inl hb) ?_)
  exact five_below HB4.out (b := w.heap.size + 1) (by omega) 0 _ _ _ _ _

theorem ddo_on {E : Nat → Prop} {w : World} {A : Option Addr} {n c : Nat} {L : List Pr} {h : Qh} {r : Rq} (hp : On E w (Prs · A n c L)) (hr : On E w (RqR · h r)) (hE : ∀ b, E b → b < w.heap.size) (hs : smallQ r = true) (hfit : Fit L) (hn : n ≤ 900) (most : Int) :
    Calls Try.prog 28 #[.slice A n c, rqV h r, .int .i64 most] w (DoO E w (nextQ L r most) (ansQ L r most).1) := by
  cases hm : mayQ r
  · exact ddo_no hp hr hE hs most hm
  by_cases h6 : r.kind = 6
  · exact ddo_scan hp hr hE hs hfit hn most hm h6
  obtain ⟨-, -, -, h1, h5, -⟩ := may_fair hm h6
  have hk : r.kind = 1 ∨ r.kind = 2 ∨ r.kind = 3 ∨ r.kind = 4 ∨ r.kind = 5 := by omega
  cases hi : hasB L r.key
  · cases hro : decide ((n : Int) < most)
    · rcases hk with hk | hk | hk | hk | hk
      · exact ddo_get_false hp hr hE hs hfit hn most hm hk hi
      · exact ddo_full2 hp hr hE hs hfit hn most hm hk hi hro
      · exact ddo_del_false hp hr hE hs hfit hn most hm hk hi
      · exact ddo_full4 hp hr hE hs hfit hn most hm hk hi hro
      · exact ddo_swap_none hp hr hE hs hfit hn most hm hk hi
    · rcases hk with hk | hk | hk | hk | hk
      · exact ddo_get_false hp hr hE hs hfit hn most hm hk hi
      · exact ddo_put_no hp hr hE hs hfit hn most hm hk hi hro
      · exact ddo_del_false hp hr hE hs hfit hn most hm hk hi
      · exact ddo_abs_no hp hr hE hs hfit hn most hm hk hi hro
      · exact ddo_swap_none hp hr hE hs hfit hn most hm hk hi
  · rcases hk with hk | hk | hk | hk | hk
    · exact ddo_get_true hp hr hE hs hfit hn most hm hk hi
    · exact ddo_put_yes hp hr hE hs hfit hn most hm hk hi
    · exact ddo_del_true hp hr hE hs hfit hn most hm hk hi
    · exact ddo_abs_yes hp hr hE hs hfit hn most hm hk hi
    · cases hsb : sameB (valP L r.key) r.old
      · exact ddo_swap_no hp hr hE hs hfit hn most hm hk hi hsb
      · exact ddo_swap_yes hp hr hE hs hfit hn most hm hk hi hsb
end Go.Proofs.Ytdhgogepjedonaa
