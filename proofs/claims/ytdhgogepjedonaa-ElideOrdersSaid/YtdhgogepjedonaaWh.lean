/- The contract of package omap's answer. Condition: a row of no more than 900 pairs; a request whose slices have at most 100 bytes; what came in can be read. -/
import Derived.Test.YtdhgogepjedonaaWg
namespace Go.Proofs.Ytdhgogepjedonaa
open Go.RowKit
set_option linter.unusedVariables false
set_option maxRecDepth 100000

/-- A request's box, and behind it that of a result. -/
theorem box_qs (w : World) (h : Qh) (r : Rq) : ∃ V, V = (w.alloc (.cells #[.int .i64 r.cl, .int .i64 r.sq, .int .i64 r.kind, .slice h.A h.n h.c, .slice h.B h.m h.d, .slice h.C h.o h.p, .slice h.D h.q h.s, .int .i64 r.limit] 41)).alloc (.cells #[.int .i64 0, .bool false, .slice none 0 0, .slice none 0 0, .int .u64 0] 52) ∧
    Below w.heap.size w V ∧ BoxQ V w.heap.size h r ∧ BoxS V (w.heap.size + 1) sh0 rs0 ∧ V.heap.size = w.heap.size + 1 + 1 := by
  obtain ⟨W, hW, hWB, hWS, hWs⟩ := box_q w h r
  obtain ⟨V, hV, hVB, hVS, hVs⟩ := box_s0 W
  subst hW
  refine ⟨V, hV, hWB.trans (hVB.mono (by omega)), hWS.below hVB (by omega), ?_, by omega⟩
  rw [hWs] at hVS
  exact hVS
theorem found_lit {w : World} {A C : Option Addr} {n c o : Nat} (q : Nat) {L : List Pr} {k : Ky} (hp : Prs w A n c L) (hk : Byt w C o k) (hs : Srt L) (hm : Small L) (hn : n ≤ 1000) :
    Calls Try.prog 53 #[.slice A n c, .slice C o q] w fun e w' => ∃ h : Sh, e = .returned (.agg #[.int .i64 0, .bool (hasB L k), .slice h.A h.n h.c, .slice h.B h.m h.d, .int .u64 0]) ∧ On (w.heap.size ≤ ·) w' (RsR · h (wasQ L k)) ∧ Below w.heap.size w w' := found_any q hp hk hs hm hn
theorem put_lit {C : Nat → Prop} {w : World} {h : Sh} {L : List Pr} {k : Ky} (room : Bool) (hr : On C w (RsR · h (wasQ L k))) :
    Calls Try.prog 54 #[.agg #[.int .i64 0, .bool (hasB L k), .slice h.A h.n h.c, .slice h.B h.m h.d, .int .u64 0], .bool room] w fun e w' => ∃ h9 : Sh, e = .returned (.tuple #[.agg #[.int .i64 (putQ (wasQ L k) room).1.code, .bool (putQ (wasQ L k) room).1.found, .slice h9.A h9.n h9.c, .slice h9.B h9.m h9.d, .int .u64 0], .bool (putQ (wasQ L k) room).2]) ∧ On C w' (RsR · h9 (putQ (wasQ L k) room).1) ∧ Below w.heap.size w w' := oput_any room hr
theorem swap_lit {C : Nat → Prop} {w : World} {h : Sh} {L : List Pr} {k : Ky} {D : Option Addr} {q : Nat} (r : Nat) {old : Ky} (hr : On C w (RsR · h (wasQ L k))) (ho : Byt w D q old) :
    Calls Try.prog 55 #[.agg #[.int .i64 0, .bool (hasB L k), .slice h.A h.n h.c, .slice h.B h.m h.d, .int .u64 0], .slice D q r] w fun e w' => ∃ h9 : Sh, e = .returned (.tuple #[.agg #[.int .i64 (swapQ (wasQ L k) old).1.code, .bool (swapQ (wasQ L k) old).1.found, .slice h9.A h9.n h9.c, .slice h9.B h9.m h9.d, .int .u64 0], .bool (swapQ (wasQ L k) old).2]) ∧ On C w' (RsR · h9 (swapQ (wasQ L k) old).1) ∧ Below w.heap.size w w' := oswap_any r hr ho
theorem may_lit {w : World} {h : Qh} {r : Rq} (hr : RqR w h r) (hs : smallQ r = true) : Calls Try.prog 34 #[.agg #[.int .i64 r.cl, .int .i64 r.sq, .int .i64 r.kind, .slice h.A h.n h.c, .slice h.B h.m h.d, .slice h.C h.o h.p, .slice h.D h.q h.s, .int .i64 r.limit]] w fun e w' => e = .returned (.bool (mayQ r)) ∧ Below w.heap.size w w' := omay_any hr hs
theorem BoxQ.three {w : World} {b : Nat} {h : Qh} {r : Rq} (hb : BoxQ w b h r) : w.cell? ⟨b, 2, none⟩ = some (.int .i64 r.kind) ∧ w.cell? ⟨b, 3, none⟩ = some (.slice h.A h.n h.c) ∧ w.cell? ⟨b, 5, none⟩ = some (.slice h.C h.o h.p) := ⟨hb.cells.2.2.1, hb.cells.2.2.2.1, hb.cells.2.2.2.2.2.1⟩
theorem told_on {w1 w2 : World} {B : Nat} {P : World → Prop} (h : On (w1.heap.size ≤ ·) w2 P) (hB : B ≤ w1.heap.size) : On (B ≤ ·) w2 P := h.mono fun b hb => Nat.le_trans hB hb

theorem box_was (w : World) (h : Sh) (L : List Pr) (k : Ky) (hb : Bool) (hhb : hb = hasB L k) : ∃ W, W = w.alloc (.cells #[.int .i64 0, .bool hb, .slice h.A h.n h.c, .slice h.B h.m h.d, .int .u64 0] 52) ∧ Below w.heap.size w W ∧ W.heap.size = w.heap.size + 1 ∧
    W.cell? ⟨w.heap.size, 0, none⟩ = some (.int .i64 0) ∧ W.cell? ⟨w.heap.size, 1, none⟩ = some (.bool hb) ∧ W.cell? ⟨w.heap.size, 2, none⟩ = some (.slice h.A h.n h.c) ∧ W.cell? ⟨w.heap.size, 3, none⟩ = some (.slice h.B h.m h.d) ∧ W.cell? ⟨w.heap.size, 4, none⟩ = some (.int .u64 0) := by
  subst hhb
  obtain ⟨W, h1, h2, h3, h4⟩ := box_s w h (wasQ L k)
  obtain ⟨x0, x1, x2, x3, x4, -⟩ := h3.cells
  exact ⟨W, h1, h2, h4, x0, x1, x2, x3, x4⟩

set_option maxHeartbeats 4000000 in
theorem ans_no {w : World} {A : Option Addr} {n c : Nat} {L : List Pr} {h : Qh} {r : Rq} (hr : RqR w h r) (hs : smallQ r = true) (most : Int) (hm : mayQ r = false) :
    Calls Try.prog 36 #[.slice A n c, rqV h r, .int .i64 most] w (AnsO (w.heap.size + 1 + 1 ≤ ·) w (ansQ L r most)) := by
  obtain ⟨V, hV, hVB, hVQ, hVZ, hVs⟩ := box_qs w h r
  have HMAY := may_lit (hr.below hVB) hs
  rw [hm] at HMAY
  have HMY := Lib.hid HMAY
  clear HMAY
  have HQ := Lib.hid hVQ
  have HB := Lib.hid hVB
  have HZ := Lib.hid hVZ
  have hVe := Lib.hid hV
  have hwl : w.heap.size + 1 < V.heap.size := by omega
  have HA := Lib.hid (show ansQ L r most = (errQ 1, false) from if_pos hm)
  obtain ⟨c0, c1, c2, c3, c4, c5, c6, c7⟩ := hVQ.cells
  clear hr hs hm hV hVB hVQ hVZ hVs
  unfold rqV
  go_enter Try.func36, Try.ntmps36
  go_wp2_with fail
  rw [← hVe.out]
  refine HMY.out.mono ?_
  rintro e w1 ⟨rfl, hb1⟩
  have hx := HZ.out.below hb1 hwl
  have HZ1 := Lib.hid hx
  have HB1 := Lib.hid (HB.out.trans (hb1.mono HB.out.size))
  have hw1 : w.heap.size + 1 < w1.heap.size := hx.lt
  clear hb1 HMY hx c0 c1 c2 c3 c4 c5 c6 c7
  go_wp2_with fail
  refine (refused_any w1 1).mono ?_
  rintro e w2 ⟨rfl, hb2⟩
  have hx := HZ1.out.below hb2 hw1
  obtain ⟨t0, t1, t2, t3, t4, f0, f1, f2, f3, f4⟩ := hx.cells
  have HB2 := Lib.hid (HB1.out.trans (hb2.mono HB1.out.size))
  clear hb2 hx
  go_wp2
  refine bodyPost_ret (v := .tuple #[rsV sh0 (errQ 1), .bool false]) (by simp [results, Try.results36, go_sem, t0, t1, t2, t3, t4, rsV, sh0, errQ]) rfl (AnsO.of HA.out rfl (err_on _ _ 1) ?_)
  exact five_below HB2.out (b := w.heap.size + 1) (by omega) 0 _ _ _ _ _

set_option maxHeartbeats 8000000 in
theorem ans_get {w : World} {A : Option Addr} {n c : Nat} {L : List Pr} {h : Qh} {r : Rq} (hp : Prs w A n c L) (hr : RqR w h r) (hs : smallQ r = true) (hfit : Fit L) (hn : n ≤ 900) (most : Int) (hm : mayQ r = true) (hk : r.kind = 1) :
    Calls Try.prog 36 #[.slice A n c, rqV h r, .int .i64 most] w (AnsO (w.heap.size + 1 + 1 ≤ ·) w (ansQ L r most)) := by
  obtain ⟨l1, l2, l3, l4⟩ := small_lens hs
  obtain ⟨V, hV, hVB, hVQ, hVZ, hVs⟩ := box_qs w h r
  have HMAY := may_lit (hr.below hVB) hs
  rw [hm] at HMAY
  have HMY := Lib.hid HMAY
  clear HMAY
  have HF := Lib.hid (fun (w1 : World) (hb : Below V.heap.size V w1) => found_lit h.c (hp.below (hVB.trans (hb.mono hVB.size))) (hr.1.below (hVB.trans (hb.mono hVB.size))) hfit.1 (small_fit hfit) (by omega))
  have HO := Lib.hid (fun (w1 : World) (hb : Below w.heap.size w w1) => hr.2.2.1.below hb)
  have hlen := hp.len
  have HA := Lib.hid (show ansQ L r most = (wasQ L r.key, false) by
    unfold ansQ
    rw [if_neg (by rw [hm]; decide), if_neg (by rw [hk]; decide), if_neg (by rw [hk]; decide), if_neg (by rw [hk]; decide), if_neg (by rw [hk]; decide), if_neg (by rw [hk]; decide)])
  have HQ := Lib.hid hVQ
  have HB := Lib.hid hVB
  have HZ := Lib.hid hVZ
  have hVe := Lib.hid hV
  have hsz := Lib.hid hVs
  have hwl : w.heap.size + 1 < V.heap.size := by omega
  clear hp hr hs hfit hm hV hVB hVQ hVZ hVs l1 l2 l3 l4 hlen
  obtain ⟨cl, sq, kind, key, val, old, to_, limit⟩ := r
  obtain ⟨A1, n1, c1, B1, m1, d1, C1, o1, p1, D1, q1, s1⟩ := h
  dsimp only at hk
  subst hk
  unfold rqV
  dsimp only at *
  go_enter Try.func36, Try.ntmps36
  go_wp2_with fail
  rw [← hVe.out]
  refine HMY.out.mono ?_
  rintro e w1 ⟨rfl, hb1⟩
  have HB1 := Lib.hid hb1
  have HQ1 := Lib.hid (HQ.out.below hb1 (by omega))
  have HZ1 := Lib.hid (HZ.out.below hb1 hwl)
  have hw1 : w.heap.size + 1 < w1.heap.size := HZ1.out.lt
  obtain ⟨k2, k3, k5⟩ := HQ1.out.three
  dsimp only at k2 k3 k5
  clear hb1 HMY HQ HZ hVe
  go_wp2_with fail
  refine (HF.out w1 HB1.out).mono ?_
  rintro e w2 ⟨h8, rfl, hon, hb2⟩
  have HB2 := Lib.hid (HB.out.trans ((HB1.out.trans (hb2.mono HB1.out.size)).mono HB.out.size))
  have HQ2 := Lib.hid (HQ1.out.below hb2 (by omega))
  have HZ2 := Lib.hid (HZ1.out.below hb2 hw1)
  have HON := Lib.hid (told_on (B := w.heap.size + 1 + 1) hon hw1)
  have hw2 : w.heap.size + 1 < w2.heap.size := HZ2.out.lt
  clear hb2 hon HF HB1 k2 k3 k5 HQ1 HZ1 hw1
  obtain ⟨hb, hhb⟩ : ∃ hb, hb = hasB L key := ⟨_, rfl⟩
  go_upto_region 6 with fail
  obtain ⟨w3, hw3, hb3, hs3, x0, x1, x2, x3, x4⟩ := box_was w2 h8 L key hb hhb
  rw [← hhb, ← hw3]
  have HB3 := Lib.hid (HB2.out.trans (hb3.mono HB2.out.size))
  have HQ3 := Lib.hid (HQ2.out.below hb3 (by omega))
  have HZ3 := Lib.hid (HZ2.out.below hb3 hw2)
  have HON3 := Lib.hid (HON.out.keep (below_all hb3))
  have hw23 : w2.heap.size < w3.heap.size := by omega
  have hne1 : ¬ (w.heap.size = w2.heap.size) := by omega
  have hne2 : ¬ (w2.heap.size = w.heap.size) := by omega
  have hne3 : ¬ (w.heap.size + 1 = w2.heap.size) := by omega
  have hne4 : ¬ (w2.heap.size = w.heap.size + 1) := by omega
  obtain ⟨k2, k3, k5⟩ := HQ3.out.three
  obtain ⟨t0, t1, t2, t3, t4, f0, f1, f2, f3, f4⟩ := HZ3.out.cells
  dsimp only at k2 k3 k5
  have HHB := Lib.hid hhb
  clear hw3 hb3 hs3 HB2 HQ2 HZ2 HON hhb
  go_wp2
  refine bodyPost_ret (v := .tuple #[rsV h8 (wasQ L key), .bool false]) (by simp [results, Try.results36, go_sem, t0, t1, t2, t3, t4, rsV, wasQ, HHB.out]) rfl (AnsO.of HA.out rfl (HON3.out.keep (five_agree w3 (b := w.heap.size + 1) 0 _ _ _ _ _ (by omega))) ?_)
  exact five_below HB3.out (b := w.heap.size + 1) (by omega) 0 _ _ _ _ _

set_option maxHeartbeats 8000000 in
theorem ans_put {w : World} {A : Option Addr} {n c : Nat} {L : List Pr} {h : Qh} {r : Rq} (hp : Prs w A n c L) (hr : RqR w h r) (hs : smallQ r = true) (hfit : Fit L) (hn : n ≤ 900) (most : Int) (hm : mayQ r = true) (hk : r.kind = 2) :
    Calls Try.prog 36 #[.slice A n c, rqV h r, .int .i64 most] w (AnsO (w.heap.size + 1 + 1 ≤ ·) w (ansQ L r most)) := by
  obtain ⟨l1, l2, l3, l4⟩ := small_lens hs
  obtain ⟨V, hV, hVB, hVQ, hVZ, hVs⟩ := box_qs w h r
  have HMAY := may_lit (hr.below hVB) hs
  rw [hm] at HMAY
  have HMY := Lib.hid HMAY
  clear HMAY
  have HF := Lib.hid (fun (w1 : World) (hb : Below V.heap.size V w1) => found_lit h.c (hp.below (hVB.trans (hb.mono hVB.size))) (hr.1.below (hVB.trans (hb.mono hVB.size))) hfit.1 (small_fit hfit) (by omega))
  have HO := Lib.hid (fun (w1 : World) (hb : Below w.heap.size w w1) => hr.2.2.1.below hb)
  have hlen := hp.len
  have HA := Lib.hid (show ansQ L r most = putQ (wasQ L r.key) (decide ((n : Int) < most)) by
    unfold ansQ
    rw [if_neg (by rw [hm]; decide), if_neg (by rw [hk]; decide), if_pos hk, hlen])
  have HQ := Lib.hid hVQ
  have HB := Lib.hid hVB
  have HZ := Lib.hid hVZ
  have hVe := Lib.hid hV
  have hsz := Lib.hid hVs
  have hwl : w.heap.size + 1 < V.heap.size := by omega
  clear hp hr hs hfit hm hV hVB hVQ hVZ hVs l1 l2 l3 l4 hlen
  obtain ⟨cl, sq, kind, key, val, old, to_, limit⟩ := r
  obtain ⟨A1, n1, c1, B1, m1, d1, C1, o1, p1, D1, q1, s1⟩ := h
  dsimp only at hk
  subst hk
  unfold rqV
  dsimp only at *
  go_enter Try.func36, Try.ntmps36
  go_wp2_with fail
  rw [← hVe.out]
  refine HMY.out.mono ?_
  rintro e w1 ⟨rfl, hb1⟩
  have HB1 := Lib.hid hb1
  have HQ1 := Lib.hid (HQ.out.below hb1 (by omega))
  have HZ1 := Lib.hid (HZ.out.below hb1 hwl)
  have hw1 : w.heap.size + 1 < w1.heap.size := HZ1.out.lt
  obtain ⟨k2, k3, k5⟩ := HQ1.out.three
  dsimp only at k2 k3 k5
  clear hb1 HMY HQ HZ hVe
  go_wp2_with fail
  refine (HF.out w1 HB1.out).mono ?_
  rintro e w2 ⟨h8, rfl, hon, hb2⟩
  have HB2 := Lib.hid (HB.out.trans ((HB1.out.trans (hb2.mono HB1.out.size)).mono HB.out.size))
  have HQ2 := Lib.hid (HQ1.out.below hb2 (by omega))
  have HZ2 := Lib.hid (HZ1.out.below hb2 hw1)
  have HON := Lib.hid (told_on (B := w.heap.size + 1 + 1) hon hw1)
  have hw2 : w.heap.size + 1 < w2.heap.size := HZ2.out.lt
  clear hb2 hon HF HB1 k2 k3 k5 HQ1 HZ1 hw1
  obtain ⟨hb, hhb⟩ : ∃ hb, hb = hasB L key := ⟨_, rfl⟩
  go_upto_region 6 with fail
  obtain ⟨w3, hw3, hb3, hs3, x0, x1, x2, x3, x4⟩ := box_was w2 h8 L key hb hhb
  rw [← hhb, ← hw3]
  have HB3 := Lib.hid (HB2.out.trans (hb3.mono HB2.out.size))
  have HQ3 := Lib.hid (HQ2.out.below hb3 (by omega))
  have HZ3 := Lib.hid (HZ2.out.below hb3 hw2)
  have HON3 := Lib.hid (HON.out.keep (below_all hb3))
  have hw23 : w2.heap.size < w3.heap.size := by omega
  have hne1 : ¬ (w.heap.size = w2.heap.size) := by omega
  have hne2 : ¬ (w2.heap.size = w.heap.size) := by omega
  have hne3 : ¬ (w.heap.size + 1 = w2.heap.size) := by omega
  have hne4 : ¬ (w2.heap.size = w.heap.size + 1) := by omega
  obtain ⟨k2, k3, k5⟩ := HQ3.out.three
  obtain ⟨t0, t1, t2, t3, t4, f0, f1, f2, f3, f4⟩ := HZ3.out.cells
  dsimp only at k2 k3 k5
  have HHB := Lib.hid hhb
  clear hw3 hb3 hs3 HB2 HQ2 HZ2 HON hhb
  have HPU := put_lit (decide ((n : Int) < most)) HON3.out
  rw [← HHB.out] at HPU
  have HPH := Lib.hid HPU
  clear HPU
  go_wp2_with fail
  refine HPH.out.mono ?_
  rintro e w4 ⟨h9, rfl, ho9, hb4⟩
  have hx4 := HZ3.out.below hb4 (by omega)
  obtain ⟨t0, t1, t2, t3, t4, f0, f1, f2, f3, f4⟩ := hx4.cells
  have HB4 := Lib.hid (HB3.out.trans (hb4.mono HB3.out.size))
  have HO9 := Lib.hid ho9
  clear hb4 hx4 ho9 k2 k3 k5 x0 x1 x2 x3 x4
  generalize putQ (wasQ L key) (decide ((n : Int) < most)) = res at HA HO9 ⊢
  go_wp2
  refine bodyPost_ret (v := .tuple #[rsV h9 res.1, .bool res.2]) (by simp [results, Try.results36, go_sem, t0, t1, t2, t3, t4, rsV]) rfl (AnsO.of HA.out rfl (HO9.out.keep (five_agree w4 (b := w.heap.size + 1) 0 _ _ _ _ _ (by omega))) ?_)
  exact five_below HB4.out (b := w.heap.size + 1) (by omega) 0 _ _ _ _ _

set_option maxHeartbeats 8000000 in
theorem ans_swap {w : World} {A : Option Addr} {n c : Nat} {L : List Pr} {h : Qh} {r : Rq} (hp : Prs w A n c L) (hr : RqR w h r) (hs : smallQ r = true) (hfit : Fit L) (hn : n ≤ 900) (most : Int) (hm : mayQ r = true) (hk : r.kind = 5) :
    Calls Try.prog 36 #[.slice A n c, rqV h r, .int .i64 most] w (AnsO (w.heap.size + 1 + 1 ≤ ·) w (ansQ L r most)) := by
  obtain ⟨l1, l2, l3, l4⟩ := small_lens hs
  obtain ⟨V, hV, hVB, hVQ, hVZ, hVs⟩ := box_qs w h r
  have HMAY := may_lit (hr.below hVB) hs
  rw [hm] at HMAY
  have HMY := Lib.hid HMAY
  clear HMAY
  have HF := Lib.hid (fun (w1 : World) (hb : Below V.heap.size V w1) => found_lit h.c (hp.below (hVB.trans (hb.mono hVB.size))) (hr.1.below (hVB.trans (hb.mono hVB.size))) hfit.1 (small_fit hfit) (by omega))
  have HO := Lib.hid (fun (w1 : World) (hb : Below w.heap.size w w1) => hr.2.2.1.below hb)
  have hlen := hp.len
  have HA := Lib.hid (show ansQ L r most = swapQ (wasQ L r.key) r.old by
    unfold ansQ
    rw [if_neg (by rw [hm]; decide), if_neg (by rw [hk]; decide), if_neg (by rw [hk]; decide), if_neg (by rw [hk]; decide), if_neg (by rw [hk]; decide), if_pos hk])
  have HQ := Lib.hid hVQ
  have HB := Lib.hid hVB
  have HZ := Lib.hid hVZ
  have hVe := Lib.hid hV
  have hsz := Lib.hid hVs
  have hwl : w.heap.size + 1 < V.heap.size := by omega
  clear hp hr hs hfit hm hV hVB hVQ hVZ hVs l1 l2 l3 l4 hlen
  obtain ⟨cl, sq, kind, key, val, old, to_, limit⟩ := r
  obtain ⟨A1, n1, c1, B1, m1, d1, C1, o1, p1, D1, q1, s1⟩ := h
  dsimp only at hk
  subst hk
  unfold rqV
  dsimp only at *
  go_enter Try.func36, Try.ntmps36
  go_wp2_with fail
  rw [← hVe.out]
  refine HMY.out.mono ?_
  rintro e w1 ⟨rfl, hb1⟩
  have HB1 := Lib.hid hb1
  have HQ1 := Lib.hid (HQ.out.below hb1 (by omega))
  have HZ1 := Lib.hid (HZ.out.below hb1 hwl)
  have hw1 : w.heap.size + 1 < w1.heap.size := HZ1.out.lt
  obtain ⟨k2, k3, k5⟩ := HQ1.out.three
  dsimp only at k2 k3 k5
  clear hb1 HMY HQ HZ hVe
  go_wp2_with fail
  refine (HF.out w1 HB1.out).mono ?_
  rintro e w2 ⟨h8, rfl, hon, hb2⟩
  have HB2 := Lib.hid (HB.out.trans ((HB1.out.trans (hb2.mono HB1.out.size)).mono HB.out.size))
  have HQ2 := Lib.hid (HQ1.out.below hb2 (by omega))
  have HZ2 := Lib.hid (HZ1.out.below hb2 hw1)
  have HON := Lib.hid (told_on (B := w.heap.size + 1 + 1) hon hw1)
  have hw2 : w.heap.size + 1 < w2.heap.size := HZ2.out.lt
  clear hb2 hon HF HB1 k2 k3 k5 HQ1 HZ1 hw1
  obtain ⟨hb, hhb⟩ : ∃ hb, hb = hasB L key := ⟨_, rfl⟩
  go_upto_region 6 with fail
  obtain ⟨w3, hw3, hb3, hs3, x0, x1, x2, x3, x4⟩ := box_was w2 h8 L key hb hhb
  rw [← hhb, ← hw3]
  have HB3 := Lib.hid (HB2.out.trans (hb3.mono HB2.out.size))
  have HQ3 := Lib.hid (HQ2.out.below hb3 (by omega))
  have HZ3 := Lib.hid (HZ2.out.below hb3 hw2)
  have HON3 := Lib.hid (HON.out.keep (below_all hb3))
  have hw23 : w2.heap.size < w3.heap.size := by omega
  have hne1 : ¬ (w.heap.size = w2.heap.size) := by omega
  have hne2 : ¬ (w2.heap.size = w.heap.size) := by omega
  have hne3 : ¬ (w.heap.size + 1 = w2.heap.size) := by omega
  have hne4 : ¬ (w2.heap.size = w.heap.size + 1) := by omega
  obtain ⟨k2, k3, k5⟩ := HQ3.out.three
  obtain ⟨t0, t1, t2, t3, t4, f0, f1, f2, f3, f4⟩ := HZ3.out.cells
  dsimp only at k2 k3 k5
  have HHB := Lib.hid hhb
  clear hw3 hb3 hs3 HB2 HQ2 HZ2 HON hhb
  have HPU := swap_lit p1 HON3.out (HO.out w3 HB3.out)
  rw [← HHB.out] at HPU
  have HPH := Lib.hid HPU
  clear HPU
  go_wp2_with fail
  refine HPH.out.mono ?_
  rintro e w4 ⟨h9, rfl, ho9, hb4⟩
  have hx4 := HZ3.out.below hb4 (by omega)
  obtain ⟨t0, t1, t2, t3, t4, f0, f1, f2, f3, f4⟩ := hx4.cells
  have HB4 := Lib.hid (HB3.out.trans (hb4.mono HB3.out.size))
  have HO9 := Lib.hid ho9
  clear hb4 hx4 ho9 k2 k3 k5 x0 x1 x2 x3 x4
  generalize swapQ (wasQ L key) old = res at HA HO9 ⊢
  go_wp2
  refine bodyPost_ret (v := .tuple #[rsV h9 res.1, .bool res.2]) (by simp [results, Try.results36, go_sem, t0, t1, t2, t3, t4, rsV]) rfl (AnsO.of HA.out rfl (HO9.out.keep (five_agree w4 (b := w.heap.size + 1) 0 _ _ _ _ _ (by omega))) ?_)
  exact five_below HB4.out (b := w.heap.size + 1) (by omega) 0 _ _ _ _ _

set_option maxHeartbeats 8000000 in
theorem ans_absent {w : World} {A : Option Addr} {n c : Nat} {L : List Pr} {h : Qh} {r : Rq} (hp : Prs w A n c L) (hr : RqR w h r) (hs : smallQ r = true) (hfit : Fit L) (hn : n ≤ 900) (most : Int) (hm : mayQ r = true) (hk : r.kind = 4) :
    Calls Try.prog 36 #[.slice A n c, rqV h r, .int .i64 most] w (AnsO (w.heap.size + 1 + 1 ≤ ·) w (ansQ L r most)) := by
  obtain ⟨l1, l2, l3, l4⟩ := small_lens hs
  obtain ⟨V, hV, hVB, hVQ, hVZ, hVs⟩ := box_qs w h r
  have HMAY := may_lit (hr.below hVB) hs
  rw [hm] at HMAY
  have HMY := Lib.hid HMAY
  clear HMAY
  have HF := Lib.hid (fun (w1 : World) (hb : Below V.heap.size V w1) => found_lit h.c (hp.below (hVB.trans (hb.mono hVB.size))) (hr.1.below (hVB.trans (hb.mono hVB.size))) hfit.1 (small_fit hfit) (by omega))
  have HO := Lib.hid (fun (w1 : World) (hb : Below w.heap.size w w1) => hr.2.2.1.below hb)
  have hlen := hp.len
  have HA := Lib.hid (show ansQ L r most = (if hasB L r.key = false then putQ (wasQ L r.key) (decide ((n : Int) < most)) else (wasQ L r.key, false)) by
    unfold ansQ
    rw [if_neg (by rw [hm]; decide), if_neg (by rw [hk]; decide), if_neg (by rw [hk]; decide), if_neg (by rw [hk]; decide), if_pos hk, hlen])
  have HQ := Lib.hid hVQ
  have HB := Lib.hid hVB
  have HZ := Lib.hid hVZ
  have hVe := Lib.hid hV
  have hsz := Lib.hid hVs
  have hwl : w.heap.size + 1 < V.heap.size := by omega
  clear hp hr hs hfit hm hV hVB hVQ hVZ hVs l1 l2 l3 l4 hlen
  obtain ⟨cl, sq, kind, key, val, old, to_, limit⟩ := r
  obtain ⟨A1, n1, c1, B1, m1, d1, C1, o1, p1, D1, q1, s1⟩ := h
  dsimp only at hk
  subst hk
  unfold rqV
  dsimp only at *
  go_enter Try.func36, Try.ntmps36
  go_wp2_with fail
  rw [← hVe.out]
  refine HMY.out.mono ?_
  rintro e w1 ⟨rfl, hb1⟩
  have HB1 := Lib.hid hb1
  have HQ1 := Lib.hid (HQ.out.below hb1 (by omega))
  have HZ1 := Lib.hid (HZ.out.below hb1 hwl)
  have hw1 : w.heap.size + 1 < w1.heap.size := HZ1.out.lt
  obtain ⟨k2, k3, k5⟩ := HQ1.out.three
  dsimp only at k2 k3 k5
  clear hb1 HMY HQ HZ hVe
  go_wp2_with fail
  refine (HF.out w1 HB1.out).mono ?_
  rintro e w2 ⟨h8, rfl, hon, hb2⟩
  have HB2 := Lib.hid (HB.out.trans ((HB1.out.trans (hb2.mono HB1.out.size)).mono HB.out.size))
  have HQ2 := Lib.hid (HQ1.out.below hb2 (by omega))
  have HZ2 := Lib.hid (HZ1.out.below hb2 hw1)
  have HON := Lib.hid (told_on (B := w.heap.size + 1 + 1) hon hw1)
  have hw2 : w.heap.size + 1 < w2.heap.size := HZ2.out.lt
  clear hb2 hon HF HB1 k2 k3 k5 HQ1 HZ1 hw1
  obtain ⟨hb, hhb⟩ : ∃ hb, hb = hasB L key := ⟨_, rfl⟩
  go_upto_region 6 with fail
  obtain ⟨w3, hw3, hb3, hs3, x0, x1, x2, x3, x4⟩ := box_was w2 h8 L key hb hhb
  rw [← hhb, ← hw3]
  have HB3 := Lib.hid (HB2.out.trans (hb3.mono HB2.out.size))
  have HQ3 := Lib.hid (HQ2.out.below hb3 (by omega))
  have HZ3 := Lib.hid (HZ2.out.below hb3 hw2)
  have HON3 := Lib.hid (HON.out.keep (below_all hb3))
  have hw23 : w2.heap.size < w3.heap.size := by omega
  have hne1 : ¬ (w.heap.size = w2.heap.size) := by omega
  have hne2 : ¬ (w2.heap.size = w.heap.size) := by omega
  have hne3 : ¬ (w.heap.size + 1 = w2.heap.size) := by omega
  have hne4 : ¬ (w2.heap.size = w.heap.size + 1) := by omega
  obtain ⟨k2, k3, k5⟩ := HQ3.out.three
  obtain ⟨t0, t1, t2, t3, t4, f0, f1, f2, f3, f4⟩ := HZ3.out.cells
  dsimp only at k2 k3 k5
  have HHB := Lib.hid hhb
  clear hw3 hb3 hs3 HB2 HQ2 HZ2 HON hhb
  cases hb
  · rw [if_pos HHB.out.symm] at HA
    have HPU := put_lit (decide ((n : Int) < most)) HON3.out
    rw [← HHB.out] at HPU
    have HPH := Lib.hid HPU
    clear HPU
    go_wp2_with fail
    refine HPH.out.mono ?_
    rintro e w4 ⟨h9, rfl, ho9, hb4⟩
    have hx4 := HZ3.out.below hb4 (by omega)
    obtain ⟨t0, t1, t2, t3, t4, f0, f1, f2, f3, f4⟩ := hx4.cells
    have HB4 := Lib.hid (HB3.out.trans (hb4.mono HB3.out.size))
    have HO9 := Lib.hid ho9
    clear hb4 hx4 ho9 k2 k3 k5 x0 x1 x2 x3 x4
    generalize putQ (wasQ L key) (decide ((n : Int) < most)) = res at HA HO9 ⊢
    go_wp2
    refine bodyPost_ret (v := .tuple #[rsV h9 res.1, .bool res.2]) (by simp [results, Try.results36, go_sem, t0, t1, t2, t3, t4, rsV]) rfl (AnsO.of HA.out rfl (HO9.out.keep (five_agree w4 (b := w.heap.size + 1) 0 _ _ _ _ _ (by omega))) ?_)
    exact five_below HB4.out (b := w.heap.size + 1) (by omega) 0 _ _ _ _ _
  · rw [if_neg (by rw [← HHB.out]; decide)] at HA
    go_wp2
    refine bodyPost_ret (v := .tuple #[rsV h8 (wasQ L key), .bool false]) (by simp [results, Try.results36, go_sem, t0, t1, t2, t3, t4, rsV, wasQ, HHB.out]) rfl (AnsO.of HA.out rfl (HON3.out.keep (five_agree w3 (b := w.heap.size + 1) 0 _ _ _ _ _ (by omega))) ?_)
    exact five_below HB3.out (b := w.heap.size + 1) (by omega) 0 _ _ _ _ _

end Go.Proofs.Ytdhgogepjedonaa
