/- Contracts of package omap's found, put, swap. Condition: what came in can be read; a row of no more than 1000 pairs. -/
import Derived.Test.YtdhgogepjedonaaWd
namespace Go.Proofs.Ytdhgogepjedonaa
open Go.RowKit
set_option linter.unusedVariables false
set_option maxRecDepth 100000

def sh0 : Sh := ⟨none, 0, 0, none, 0, 0⟩
theorem byt_none (w : World) : Byt w none 0 [] := ⟨rfl, fun h => absurd h (by omega)⟩
theorem err_on (C : Nat → Prop) (w : World) (c : Int) : On C w (RsR · sh0 (errQ c)) := fun v _ => ⟨byt_none v, prs_nil v⟩
/-- What a function that tells an answer leaves; one that tells beside it whether the pairs are written. -/
def ToldS (C : Nat → Prop) (w : World) (s : Rs) (e : Ending) (w' : World) : Prop := ∃ h, e = .returned (rsV h s) ∧ On C w' (RsR · h s) ∧ Below w.heap.size w w'
def AnsO (C : Nat → Prop) (w : World) (s : Rs × Bool) (e : Ending) (w' : World) : Prop := ∃ h, e = .returned (.tuple #[rsV h s.1, .bool s.2]) ∧ On C w' (RsR · h s.1) ∧ Below w.heap.size w w'

theorem five_agree {C : Nat → Prop} (w : World) {b : Nat} (o : Nat) (u1 u2 u3 u4 u5 : Value) (hb : ¬ C b) :
    Agree C w (((((w.setCell ⟨b, o, none⟩ u1).setCell ⟨b, o + 1, none⟩ u2).setCell ⟨b, o + 2, none⟩ u3).setCell ⟨b, o + 3, none⟩ u4).setCell ⟨b, o + 4, none⟩ u5) :=
  ((((agree_set w ⟨b, o, none⟩ u1 hb).trans (agree_set _ ⟨b, o + 1, none⟩ u2 hb)).trans (agree_set _ ⟨b, o + 2, none⟩ u3 hb)).trans (agree_set _ ⟨b, o + 3, none⟩ u4 hb)).trans (agree_set _ ⟨b, o + 4, none⟩ u5 hb)
theorem rsr_byt {C : Nat → Prop} {w : World} {A : Option Addr} {n : Nat} {l : Ky} (k : Int) (f : Bool) (c : Nat) (h : On C w (Byt · A n l)) : On C w (RsR · ⟨A, n, c, none, 0, 0⟩ ⟨k, f, l, []⟩) := fun v hv => ⟨h v hv, prs_nil v⟩
/-- The block of a result. -/
theorem box_s (w : World) (h : Sh) (s : Rs) : ∃ W, W = w.alloc (.cells #[.int .i64 s.code, .bool s.found, .slice h.A h.n h.c, .slice h.B h.m h.d, .int .u64 0] 52) ∧ Below w.heap.size w W ∧ BoxS W w.heap.size h s ∧ W.heap.size = w.heap.size + 1 :=
  ⟨_, rfl, (Below.refl _ _).alloc (Nat.le_refl _) _, Deep.blk_alloc_new _ _, by simp⟩

theorem box_s0 (w : World) : ∃ W, W = w.alloc (.cells #[.int .i64 0, .bool false, .slice none 0 0, .slice none 0 0, .int .u64 0] 52) ∧ Below w.heap.size w W ∧ BoxS W w.heap.size sh0 rs0 ∧ W.heap.size = w.heap.size + 1 := box_s w sh0 rs0

set_option maxHeartbeats 2000000 in
theorem found_any {w : World} {A C : Option Addr} {n c o : Nat} (q : Nat) {L : List Pr} {k : Ky} (hp : Prs w A n c L) (hk : Byt w C o k) (hs : Srt L) (hm : Small L) (hn : n ≤ 1000) :
    Calls Try.prog 53 #[.slice A n c, .slice C o q] w (ToldS (w.heap.size ≤ ·) w (wasQ L k)) := by
  obtain ⟨W, hW, hWB, hWS, hWs⟩ := box_s0 w
  have HF := find_any q (hp.below hWB) (hk.below hWB) hs hn
  have hlen := hp.len
  have hpl := pos_le L k
  have hpe := pos_end hs k
  rw [hlen] at hpl hpe
  have HP := Lib.hid hp
  have HM := Lib.hid hm
  have HL := Lib.hid hlen
  have HB := Lib.hid hWB
  have HS := Lib.hid hWS
  have hWe := Lib.hid hW
  have hwl : w.heap.size < W.heap.size := by omega
  clear hp hk hs hm hlen hWB hWS hW hWs
  cases hh : hasB L k
  · rw [hh] at HF
    have HW := Lib.hid (show wasQ L k = rs0 by unfold wasQ valP; rw [hh]; rfl)
    clear hpe hh
    go_enter Try.func53, Try.ntmps53
    go_wp2_with fail
    rw [← hWe.out]
    refine HF.mono ?_
    rintro e w1 ⟨rfl, hb1⟩
    have hx := HS.out.below hb1 hwl
    have HB1 := Lib.hid (HB.out.trans (hb1.mono HB.out.size))
    obtain ⟨t0, t1, t2, t3, t4, f0, f1, f2, f3, f4⟩ := hx.cells
    clear hb1 HF hx
    go_wp2
    refine bodyPost_ret (v := rsV sh0 rs0) (by simp [results, Try.results53, go_sem, t0, t1, t2, t3, t4, rsV, sh0, rs0]) rfl ⟨sh0, by rw [HW.out], by rw [HW.out]; exact err_on _ _ 0, ?_⟩
    exact five_below HB1.out (b := w.heap.size) (Nat.le_refl _) 0 _ _ _ _ _
  · rw [hh] at HF
    have hlt : pos L k < n := by
      rcases Nat.lt_or_ge (pos L k) n with h | h
      · exact h
      · have := hpe (by omega)
        rw [hh] at this; cases this
    obtain ⟨Po, hPo⟩ : ∃ Po, Po = pos L k := ⟨_, rfl⟩
    rw [← hPo] at hlt HF hpl
    have HW := Lib.hid (show wasQ L k = ⟨0, true, (gt L Po).2, []⟩ by unfold wasQ valP; rw [hh, hPo]; rfl)
    clear hpe hh hPo
    have hj : Po < L.length := by rw [HL.out]; exact hlt
    have hsm := (HM.out _ (gt_mem hj)).2
    go_enter Try.func53, Try.ntmps53
    go_wp2_with fail
    rw [← hWe.out]
    refine HF.mono ?_
    rintro e w1 ⟨rfl, hb1⟩
    have HX1 := Lib.hid (HS.out.below hb1 hwl)
    have HB1 := Lib.hid (HB.out.trans (hb1.mono HB.out.size))
    obtain ⟨b, oo, rfl, hbl, A1, n1, c1, B1, m1, d1, k0, k1, y1, y2⟩ := (HP.out.below HB1.out).at_ hlt
    have HC := clone_any d1 y2 (by rw [← y2.1]; exact hsm)
    clear hb1 HF y1 k0 hsm
    go_wp2_with fail
    refine HC.mono ?_
    rintro e w2 ⟨A2, x2, rfl, p2, n2, hb2⟩
    have hx := HX1.out.below hb2 HX1.out.lt
    obtain ⟨t0, t1, t2, t3, t4, f0, f1, f2, f3, f4⟩ := hx.cells
    have HB2 := Lib.hid (HB1.out.trans (hb2.mono HB1.out.size))
    have HN := Lib.hid (byt_new p2 n2)
    have hw1 : w.heap.size < w1.heap.size := HX1.out.lt
    clear hb2 HC hx p2 n2 y2 k1
    go_wp2
    refine bodyPost_ret (v := rsV ⟨A2, m1, x2, none, 0, 0⟩ ⟨0, true, (gt L Po).2, []⟩) (by simp [results, Try.results53, go_sem, t0, t1, t2, t3, t4, rsV]) rfl ⟨⟨A2, m1, x2, none, 0, 0⟩, by rw [HW.out], ?_, ?_⟩
    · rw [HW.out]
      exact ((rsr_byt 0 true x2 HN.out).keep (five_agree w2 (b := w.heap.size) 0 _ _ _ _ _ (by omega))).mono (fun b hb => by omega)
    · exact five_below HB2.out (b := w.heap.size) (Nat.le_refl _) 0 _ _ _ _ _

theorem AnsO.of {C : Nat → Prop} {w w' : World} {h : Sh} {s : Rs} {b : Bool} {r : Rs × Bool} (hr : r = (s, b)) {e : Ending} (he : e = .returned (.tuple #[rsV h s, .bool b])) (ho : On C w' (RsR · h s)) (hb : Below w.heap.size w w') : AnsO C w r e w' := by
  subst hr
  exact ⟨h, he, ho, hb⟩

/-- An answer's box, and behind it that of a result. -/
theorem box_ss (w : World) (h : Sh) (s : Rs) : ∃ V, V = (w.alloc (.cells #[.int .i64 s.code, .bool s.found, .slice h.A h.n h.c, .slice h.B h.m h.d, .int .u64 0] 52)).alloc (.cells #[.int .i64 0, .bool false, .slice none 0 0, .slice none 0 0, .int .u64 0] 52) ∧
    Below w.heap.size w V ∧ BoxS V w.heap.size h s ∧ BoxS V (w.heap.size + 1) sh0 rs0 ∧ V.heap.size = w.heap.size + 1 + 1 := by
  obtain ⟨W, hW, hWB, hWS, hWs⟩ := box_s w h s
  obtain ⟨V, hV, hVB, hVS, hVs⟩ := box_s0 W
  subst hW
  refine ⟨V, hV, hWB.trans (hVB.mono (by omega)), hWS.below hVB (by omega), ?_, by omega⟩
  rw [hWs] at hVS
  exact hVS
theorem two_alloc {w : World} (o o' : Obj) : Below w.heap.size w ((w.alloc o).alloc o') := ((Below.refl w.heap.size w).alloc (Nat.le_refl _) _).alloc (Nat.le_of_lt (by rw [alloc_sz]; exact Nat.lt_succ_self _)) _
theorem two_on {C : Nat → Prop} {w : World} {P : World → Prop} (h : On C w P) (o o' : Obj) : On C ((w.alloc o).alloc o') P := (h.keep (agree_alloc w o)).keep (agree_alloc _ o')

set_option maxHeartbeats 2000000 in
theorem oput_any {C : Nat → Prop} {w : World} {h : Sh} {s : Rs} (room : Bool) (hr : On C w (RsR · h s)) :
    Calls Try.prog 54 #[rsV h s, .bool room] w (AnsO C w (putQ s room)) := by
  obtain ⟨V, hV, hVB, hVS, hVZ, hVs⟩ := box_ss w h s
  have HR := Lib.hid hr
  have HB := Lib.hid hVB
  have HZ := Lib.hid hVZ
  have HREF := Lib.hid (refused_any V 5)
  have hVe := Lib.hid hV
  have hwl : w.heap.size + 1 < V.heap.size := by omega
  clear hr hV hVB hVS hVZ hVs
  obtain ⟨code, found, val, rows⟩ := s
  obtain ⟨A, n, c, B, m, d⟩ := h
  unfold rsV
  dsimp only at *
  cases found
  · cases room
    · go_enter Try.func54, Try.ntmps54
      go_wp2_with fail
      rw [← hVe.out]
      refine HREF.out.mono ?_
      rintro e w1 ⟨rfl, hb1⟩
      have hx := HZ.out.below hb1 hwl
      obtain ⟨t0, t1, t2, t3, t4, f0, f1, f2, f3, f4⟩ := hx.cells
      have HB1 := Lib.hid (HB.out.trans (hb1.mono HB.out.size))
      clear hb1 HREF hx
      go_wp2
      refine bodyPost_ret (v := .tuple #[rsV sh0 (errQ 5), .bool false]) (by simp [results, Try.results54, go_sem, t0, t1, t2, t3, t4, rsV, sh0, errQ]) rfl (AnsO.of (h := sh0) (s := errQ 5) (b := false) rfl rfl (err_on _ _ 5) ?_)
      exact five_below HB1.out (b := w.heap.size + 1) (by omega) 0 _ _ _ _ _
    · go_enter Try.func54, Try.ntmps54
      go_wp2
      refine bodyPost_ret (v := .tuple #[rsV ⟨A, n, c, B, m, d⟩ ⟨code, false, val, rows⟩, .bool true]) (by simp [results, Try.results54, go_sem, rsV]) rfl (AnsO.of (putQ_room _) rfl (two_on HR.out _ _) (two_alloc _ _))
  · go_enter Try.func54, Try.ntmps54
    go_wp2
    refine bodyPost_ret (v := .tuple #[rsV ⟨A, n, c, B, m, d⟩ ⟨code, true, val, rows⟩, .bool true]) (by simp [results, Try.results54, go_sem, rsV]) rfl (AnsO.of (by unfold putQ; simp) rfl (two_on HR.out _ _) (two_alloc _ _))

theorem run_eqb {w : World} {A B : Option Addr} {n m : Nat} (c d : Nat) {l k : Ky} (h : Byt w A n l) (h' : Byt w B m k) : Calls Try.prog 38 #[.slice A n c, .slice B m d] w fun e w' => e = .returned (.bool (sameB l k)) ∧ w = w' := by
  have h1 := run_str (c := c) h
  have h2 := run_str (c := d) h'
  clear h h'
  go_enter Try.func38, Try.ntmps38
  go_wp2
  go_ret
  exact ⟨ret_bool (str_eq l k), rfl⟩

set_option maxHeartbeats 2000000 in
theorem oswap_any {C : Nat → Prop} {w : World} {h : Sh} {s : Rs} {D : Option Addr} {q : Nat} (r : Nat) {old : Ky} (hr : On C w (RsR · h s)) (ho : Byt w D q old) :
    Calls Try.prog 55 #[rsV h s, .slice D q r] w (AnsO C w (swapQ s old)) := by
  obtain ⟨V, hV, hVB, hVS, hVZ, hVs⟩ := box_ss w h s
  have HE := Lib.hid (run_eqb h.c r (hr.here.1.below hVB) (ho.below hVB))
  have HR := Lib.hid hr
  have HB := Lib.hid hVB
  have HZ := Lib.hid hVZ
  have HS := Lib.hid hVS
  have HREF := Lib.hid (refused_any V 3)
  have hVe := Lib.hid hV
  have hwl : w.heap.size + 1 < V.heap.size := by omega
  clear hr ho hV hVB hVS hVZ hVs
  obtain ⟨code, found, val, rows⟩ := s
  obtain ⟨A, n, c, B, m, d⟩ := h
  unfold rsV
  dsimp only at *
  cases found
  · go_enter Try.func55, Try.ntmps55
    go_wp2_with fail
    rw [← hVe.out]
    refine HREF.out.mono ?_
    rintro e w1 ⟨rfl, hb1⟩
    have hx := HZ.out.below hb1 hwl
    obtain ⟨t0, t1, t2, t3, t4, f0, f1, f2, f3, f4⟩ := hx.cells
    have HB1 := Lib.hid (HB.out.trans (hb1.mono HB.out.size))
    clear hb1 HREF HE hx
    go_wp2
    refine bodyPost_ret (v := .tuple #[rsV sh0 (errQ 3), .bool false]) (by simp [results, Try.results55, go_sem, t0, t1, t2, t3, t4, rsV, sh0, errQ]) rfl (AnsO.of (h := sh0) (s := errQ 3) (b := false) rfl rfl (err_on _ _ 3) ?_)
    exact five_below HB1.out (b := w.heap.size + 1) (by omega) 0 _ _ _ _ _
  · cases he : sameB val old
    · rw [he] at HE
      have HN := Lib.hid he
      clear he HREF
      go_enter Try.func55, Try.ntmps55
      go_wp2_with fail
      rw [← hVe.out]
      refine HE.out.mono ?_
      rintro e w1 ⟨rfl, rfl⟩
      rw [hVe.out]
      clear HE HB HZ HS
      go_wp2
      refine bodyPost_ret (v := .tuple #[rsV ⟨A, n, c, B, m, d⟩ ⟨10, true, val, rows⟩, .bool false]) (by simp [results, Try.results55, go_sem, rsV]) rfl (AnsO.of (by unfold swapQ; simp [HN.out]) rfl (two_on HR.out _ _) (two_alloc _ _))
    · rw [he] at HE
      have HN := Lib.hid he
      clear he HREF
      go_enter Try.func55, Try.ntmps55
      go_wp2_with fail
      rw [← hVe.out]
      refine HE.out.mono ?_
      rintro e w1 ⟨rfl, rfl⟩
      rw [hVe.out]
      clear HE HB HZ HS
      go_wp2
      refine bodyPost_ret (v := .tuple #[rsV ⟨A, n, c, B, m, d⟩ ⟨code, true, val, rows⟩, .bool true]) (by simp [results, Try.results55, go_sem, rsV]) rfl (AnsO.of (by unfold swapQ; simp [HN.out]) rfl (two_on HR.out _ _) (two_alloc _ _))
end Go.Proofs.Ytdhgogepjedonaa
