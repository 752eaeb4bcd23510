/- The contract of package arena's apart: the walk. Condition: what came in can be read; no list longer than 1000. -/
import Derived.Test.YtbphjhmmdkaggaaNd
namespace Go.Proofs.Ytbphjhmmdkaggaa
open Go.RowKit
set_option linter.unusedVariables false

/-- What apart leaves: the same node, in new memory. -/
def Apart (w : World) (x : Nd) (e : Ending) (w' : World) : Prop := ∃ h, e = .returned (ndV h x) ∧ On (w.heap.size ≤ ·) w' (NdR · h x) ∧ Below w.heap.size w w'

/-- The same, and the kids are a row of one's own. -/
def ApartO (w : World) (x : Nd) (e : Ending) (w' : World) : Prop := ∃ h, e = .returned (ndV h x) ∧ On (w.heap.size ≤ ·) w' (NdR · h x) ∧ Below w.heap.size w w' ∧ w'.ownsRow (w.heap.size + 1 + 1) 3 1 (.slice h.K h.k h.e) h.k (x.kids.map intV)

theorem undrew {B : Nat} {w w' : World} (h : Below B w.drew w') : Below B w w' := ⟨h.os, h.tape, h.output, h.size, h.block⟩
theorem six_agree {C : Nat → Prop} (w : World) {a b : Nat} (u0 u1 u2 u3 u4 u5 : Value) (ha : ¬ C a) (hb : ¬ C b) :
    Agree C w ((((((w.setCell ⟨a, 3, none⟩ u0).setCell ⟨b, 0, none⟩ u1).setCell ⟨b, 1, none⟩ u2).setCell ⟨b, 2, none⟩ u3).setCell ⟨b, 3, none⟩ u4).setCell ⟨b, 4, none⟩ u5) :=
  (((((agree_set w ⟨a, 3, none⟩ u0 ha).trans (agree_set _ ⟨b, 0, none⟩ u1 hb)).trans (agree_set _ ⟨b, 1, none⟩ u2 hb)).trans (agree_set _ ⟨b, 2, none⟩ u3 hb)).trans (agree_set _ ⟨b, 3, none⟩ u4 hb)).trans (agree_set _ ⟨b, 4, none⟩ u5 hb)
theorem own_keep {w w' : World} {base e size n : Nat} {v : Value} {xs : List Value} (h : w.ownsRow base e size v n xs) (hb : Below w.heap.size w w') : w'.ownsRow base e size v n xs := own_agree h (C := fun _ => True) (below_all hb) (fun _ _ => trivial)
theorem box_0 (w : World) (x y : Value) (T : TypeId) : (w.alloc (.cells #[x, y] T)).cell? ⟨w.heap.size, 0, none⟩ = some x := by simp
theorem box_1 (w : World) (x y : Value) (T : TypeId) : (w.alloc (.cells #[x, y] T)).cell? ⟨w.heap.size, 1, none⟩ = some y := by simp

theorem two_new (w : World) (o1 o2 : Obj) : ∃ W, W = (w.alloc o1).alloc o2 ∧ Below w.heap.size w W ∧ W.heap.size = w.heap.size + 1 + 1 ∧ W.heap[w.heap.size]? = some o1 ∧ W.heap[w.heap.size + 1]? = some o2 := by
  refine ⟨_, rfl, ((Below.refl _ w).alloc (Nat.le_refl _) _).alloc (by simp) _, by simp, ?_, ?_⟩
  · rw [Below.heap_alloc _ _ _ (by simp)]
    exact heap_alloc_new w _
  · have := heap_alloc_new (w.alloc o1) o2
    rw [show (w.alloc o1).heap.size = w.heap.size + 1 by simp] at this
    exact this

set_option maxRecDepth 100000 in
set_option maxHeartbeats 4000000 in
theorem apart_own {w : World} {h : Nh} {x : Nd} (hr : NdR w h x) (hs : SmallN x) : Calls Try.prog 21 #[ndV h x] w (ApartO w x) := by
  obtain ⟨A, n, c, B, m, d, K, k, ee⟩ := h
  have W0 := Lib.hid (two_new w (.cells #[.bool x.leaf, .slice A n c, .slice B m d, .slice K k ee, .int .i64 x.next] 35) (.cells #[.bool false, .slice none 0 0, .slice none 0 0, .slice none 0 0, .int .i64 0] 35))
  have HR := Lib.hid hr
  have HS := Lib.hid hs
  clear hr hs
  go_enter Try.func21, Try.ntmps21
  go_wp2_with fail
  obtain ⟨W, hW, hWB, hWs, hWb0, hWb1⟩ := W0.out
  rw [← hW]
  clear hW W0
  obtain ⟨xs, rx, lx, cx⟩ := HR.out.1.cells
  simp only at rx lx cx
  have hn : n ≤ 1000 := by have := HS.out.1; have := HR.out.1.1; simp only at this; omega
  have hm : m ≤ 1000 := by have := HS.out.2.2.1; have := HR.out.2.1.1; simp only at this; omega
  have hk : k ≤ 1000 := by have := HS.out.2.2.2.2; have := HR.out.2.2.1; simp only at this; omega
  have HC1 := clonep_any (w := W) (c := c) lx hn (fun e => by have := HR.out.1.2.2.2.1 e; have := HR.out.1.2.1; simp only at *; omega) (fun a e j u hu => (hWB.cell (World.block_lt_of_cell? w _ (cx a e j u hu))).trans (cx a e j u hu)) rx.one
  have HX := Lib.hid rx
  have HWB := Lib.hid hWB
  have HWS := Lib.hid hWs
  have HB0 := Lib.hid hWb0
  have HB1 := Lib.hid hWb1
  clear rx lx cx hWB hWs hWb0 hWb1
  refine HC1.mono ?_
  rintro e w1 ⟨v1, rfl, ho1, hb1⟩
  clear HC1
  obtain ⟨P1, pc, rfl, nP1, -⟩ := own_new ho1
  have q0 := (hb1.block w.heap.size (by rw [HWS.out]; omega)).trans HB0.out
  have q1 := (hb1.block (w.heap.size + 1) (by rw [HWS.out]; omega)).trans HB1.out
  have HW1 := Lib.hid (show ∃ W1, W1 = w1.setCell ⟨w.heap.size, 1, none⟩ (.slice P1 n pc) ∧ W1.heap[w.heap.size]? = some (.cells #[.bool x.leaf, .slice P1 n pc, .slice B m d, .slice K k ee, .int .i64 x.next] 35 (0, 0)) ∧ W1.heap[w.heap.size + 1]? = some (.cells #[.bool false, .slice none 0 0, .slice none 0 0, .slice none 0 0, .int .i64 0] 35 (0, 0)) ∧
      Below w.heap.size w W1 ∧ PairsInv W1 (w.heap.size + 1 + 1) P1 n pc x.pairs 0 W1 from by
    refine ⟨_, rfl, set1 _ q0, set_other _ _ q1 (by show w.heap.size + 1 ≠ w.heap.size; omega), ((HWB.out.trans (hb1.mono HWB.out.size))).setCell (Nat.le_refl _) _, xs, ?_, ?_, Below.refl _ _, ?_⟩
    · rw [← HWS.out]
      exact ownsRow_setCell_below ho1 (by show w.heap.size < W.heap.size; rw [HWS.out]; omega) _
    · have hC : ∀ t i, i < w.heap.size → Cj P1 (w.heap.size + 1 + 1) 0 t i := fun t i hi => ⟨fun a e => by have := nP1 a e; rw [HWS.out] at this; omega, fun h => absurd h (by omega)⟩
      refine ⟨HX.out.1, fun j hj => ?_⟩
      obtain ⟨A1, n1, c1, B1, m1, d1, e1, e2, y1, y2⟩ := HX.out.2 j hj
      exact ⟨A1, n1, c1, B1, m1, d1, e1, e2, ((((byt_old y1).keep (below_all HWB.out)).keep (below_all hb1)).keep (agree_set _ _ _ (by show ¬ (w.heap.size < w.heap.size); omega))).mono (hC j), ((((byt_old y2).keep (below_all HWB.out)).keep (below_all hb1)).keep (agree_set _ _ _ (by show ¬ (w.heap.size < w.heap.size); omega))).mono (hC j)⟩
    · have := hb1.size
      rw [HWS.out] at this
      simpa [World.setCell] using this)
  have nP := Lib.hid nP1
  obtain ⟨g00, g01, g02, g03, g04, f00, f01, f02, f03, f04⟩ := five q0
  clear q0 q1 HX ho1 hb1 nP1 HB0 HB1
  go_wp2_with fail
  obtain ⟨W1, hW1, h10, h11, hBW1, hPI⟩ := HW1.out
  rw [← hW1]
  have G10 := Lib.hid h10
  have G11 := Lib.hid h11
  have BW1 := Lib.hid hBW1
  clear hW1 HW1 h10 h11 hBW1 g00 g01 g02 g03 g04 f00 f01 f02 f03 f04
  have HSM := Lib.hid HS.out.2.1
  have HL := Lib.hid (show x.pairs.length = n from HR.out.1.1)
  go_loopw [14] (fun i wr => ∃ j : Nat, j ≤ n ∧ i = .int .i64 j ∧ PairsInv W1 (w.heap.size + 1 + 1) P1 n pc x.pairs j wr) (fun i _ => n - (intOf i).toNat)
  case atStart => exact ⟨0, Nat.zero_le _, rfl, hPI⟩
  case round =>
    obtain ⟨j, hj, rfl, hI⟩ := hrel
    clear hPI
    by_cases hlt : j < n
    · have hj' : j < x.pairs.length := by rw [HL.out]; exact hlt
      have HI := Lib.hid hI
      obtain ⟨ys, hown, hr, hb, hNs⟩ := hI
      obtain ⟨g, rfl, hg1, hg2⟩ := own_at hown (by omega)
      obtain ⟨A1, n1, c1, B1, m1, d1, e1, e2, y1, y2⟩ := hr.2 j hj'
      have k0 : wr.cell? ⟨g, j * 2, none⟩ = some (.slice A1 n1 c1) := (hown.cellAt _ (by omega)).trans e1
      have k1 : wr.cell? ⟨g, j * 2 + 1, none⟩ = some (.slice B1 m1 d1) := (hown.cellAt _ (by omega)).trans e2
      have hsm := HSM.out _ (gt_mem hj')
      have hn1 : n1 ≤ 1000 := by rw [← y1.here.1]; exact hsm.1
      have hm1 : m1 ≤ 1000 := by rw [← y2.here.1]; exact hsm.2
      have qb := (hb.block w.heap.size (by omega)).trans G10.out
      obtain ⟨-, gb, -⟩ := five qb
      have hwr : w.heap.size < wr.heap.size := by omega
      have HO := Lib.hid hown
      have HB := Lib.hid hb
      have Y1 := Lib.hid y1.here
      have Y2 := Lib.hid y2.here
      clear hown hr hb y1 y2 e1 e2 hsm qb
      have HW := Lib.hid (show ∃ W, W = wr.alloc (.cells #[.slice A1 n1 c1, .slice B1 m1 d1] 66) ∧ Below wr.heap.size wr W ∧ W.cell? ⟨wr.heap.size, 0, none⟩ = some (.slice A1 n1 c1) ∧ W.cell? ⟨wr.heap.size, 1, none⟩ = some (.slice B1 m1 d1) ∧ W.heap.size = wr.heap.size + 1 from
        ⟨_, rfl, (Below.refl _ _).alloc (Nat.le_refl _) _, box_0 _ _ _ _, box_1 _ _ _ _, by simp⟩)
      go_wp2
      obtain ⟨W, hW, hWB, hW0, hW1, hWs⟩ := HW.out
      rw [← hW]
      have HS1 := Lib.hid hWs
      have HBW := Lib.hid hWB
      have K0 := Lib.hid k0
      have K1 := Lib.hid k1
      have GB := Lib.hid gb
      have hWb : W.cell? ⟨w.heap.size, 1, none⟩ = some (.slice (some ⟨g, 0, none⟩) n pc) := (hWB.cell (p := ⟨w.heap.size, 1, none⟩) hwr).trans gb
      have HCb := Lib.hid hWb
      clear hW HW hWB hWs k0 k1 gb
      have yw : Byt W A1 n1 (gt x.pairs j).1 := Y1.out.below HBW.out
      have D := Lib.hid (clone_any (w := W.drew) c1 (show Byt W.drew A1 n1 (gt x.pairs j).1 from yw) hn1)
      clear yw
      have HC0 := Lib.hid hW0
      have HC1 := Lib.hid hW1
      have z1 : ¬ (g = wr.heap.size) := by omega
      have z2 : ¬ (wr.heap.size = g) := by omega
      have z3 : ¬ (g = w.heap.size) := by omega
      have z4 : ¬ (w.heap.size = g) := by omega
      have z5 : ¬ (wr.heap.size = w.heap.size) := by omega
      have z6 : ¬ (w.heap.size = wr.heap.size) := by omega
      go_region_held3 (fun w' => w'.cell? ⟨wr.heap.size, 0, none⟩ = some (.slice A1 n1 c1) ∧ w'.cell? ⟨wr.heap.size, 1, none⟩ = some (.slice B1 m1 d1) ∧ w'.cell? ⟨w.heap.size, 1, none⟩ = some (.slice (some ⟨g, 0, none⟩) n pc)) (go_keep)
        (first
          | (go_at_call 25
             (with_reducible refine D.out.mono ?_)
             rintro e w3 ⟨A2, x2, rfl, p2, n2, hb3⟩
             have hb3 := undrew hb3
             have g0 := (hb3.cell (p := ⟨wr.heap.size, 0, none⟩) (by have := HS1.out; show wr.heap.size < W.heap.size; omega)).trans HC0.out
             have g1 := (hb3.cell (p := ⟨wr.heap.size, 1, none⟩) (by have := HS1.out; show wr.heap.size < W.heap.size; omega)).trans HC1.out
             have gb := (hb3.cell (p := ⟨w.heap.size, 1, none⟩) (by have := HS1.out; show w.heap.size < W.heap.size; omega)).trans HCb.out
             have HB3 := Lib.hid (HBW.out.trans (hb3.mono HBW.out.size))
             have HX2 := Lib.hid (And.intro p2 n2)
             have HL3 := Lib.hid (Nat.lt_of_lt_of_le (show wr.heap.size < W.heap.size by have := HS1.out; omega) hb3.size)
             have E := Lib.hid (clone_any d1 (Y2.out.below HB3.out) hm1)
             clear p2 n2 hb3)
          | (go_at_call 25
             (with_reducible refine E.out.mono ?_)
             rintro e w4 ⟨B2, x3, rfl, p3, n3, hb4⟩
             have g0 := (hb4.cell (p := ⟨wr.heap.size, 0, none⟩) HL3.out).trans g0
             have g1 := (hb4.cell (p := ⟨wr.heap.size, 1, none⟩) HL3.out).trans g1
             have gb := (hb4.cell (p := ⟨w.heap.size, 1, none⟩) (Nat.lt_trans hwr HL3.out)).trans gb
             have HB4 := Lib.hid (HB3.out.trans (hb4.mono HB3.out.size))
             have HX3 := Lib.hid (And.intro p3 (And.intro n3 hb4))
             have g4 := (HB4.out.cell (p := ⟨g, j * 2, none⟩) hg2).trans K0.out
             have g5 := (HB4.out.cell (p := ⟨g, j * 2 + 1, none⟩) hg2).trans K1.out
             have g2 := (own_keep HO.out HB4.out).frozenAt (j * 2)
             have g3 := (own_keep HO.out HB4.out).frozenAt (j * 2 + 1)
             clear p3 n3 hb4))
      have HT := Lib.hid (pairs_round (x2 := x2) (x3 := x3) HI.out hj' hg1 hg2 HB3.out HX2.out.1 (New.mono HX2.out.2 (show g + 1 ≤ W.heap.size by have := HS1.out; omega)) HX3.out.2.2 HX3.out.1 (New.mono HX3.out.2.1 (show g + 1 ≤ w3.heap.size by have := HL3.out; omega)))
      clear g0 g1 gb g2 g3 g4 g5 D E HB3 HB4 HX2 HX3 HL3 HC0 HC1 HCb HBW HS1 hW0 hW1 hWb z1 z2 z3 z4 z5 z6 K0 K1 GB HI
      go_wp2
      go_roundw
      case rel => exact ⟨j + 1, by omega, by go_num, HT.out⟩
      case measure => simp [intOf]; omega
    · obtain rfl : j = n := by omega
      obtain ⟨wo, rfl⟩ : ∃ wo : World, wo = wr := ⟨_, rfl⟩
      obtain ⟨ys, hown, hr, hb, hNs⟩ := hI
      have hBw : Below w.heap.size w wo := BW1.out.trans (hb.mono (by omega))
      have HP := Lib.hid (prs_on hown (hr.mono (C' := fun _ b => w.heap.size + 1 + 1 ≤ b) (fun t ht b hc => hc.2 (by have := HL.out; omega))) (fun a e => by have := nP.out a e; rw [HWS.out] at this; exact this)).now
      have q0 := (hb.block w.heap.size (by omega)).trans G10.out
      have q1 := (hb.block (w.heap.size + 1) (by omega)).trans G11.out
      have Q0 := Lib.hid q0
      have Q1 := Lib.hid q1
      have HBw := Lib.hid hBw
      obtain ⟨ks, lk, rk, ck⟩ := HR.out.2.1.cells
      simp only at lk rk ck
      have HC2 := clonek_any (w := wo) (c := d) (xs := ks) (by omega) hm (fun e => by have := HR.out.2.1.2.2.2.1 e; have := HR.out.2.1.2.1; simp only at *; omega) (fun a e j u hu => (hBw.cell (World.block_lt_of_cell? w _ (ck a e j u hu))).trans (ck a e j u hu)) (fun u hu => by
        obtain ⟨i, hi, rfl⟩ := List.getElem_of_mem hu
        obtain ⟨B', m', d', e1, _⟩ := rk i (by omega)
        rw [List.getElem?_eq_getElem hi] at e1
        injection e1 with e1
        rw [e1]
        rfl)
      have HKX := Lib.hid (And.intro lk rk)
      obtain ⟨g00, g01, g02, g03, g04, f00, f01, f02, f03, f04⟩ := five q0
      clear hown hr hb q0 q1 hBw lk rk ck HSM HL nP HWB HWS BW1 G10 G11
      go_wp2_with fail
      refine HC2.mono ?_
      rintro e w2 ⟨v2, rfl, ho2, hb2⟩
      clear HC2 g00 g01 g02 g03 g04 f00 f01 f02 f03 f04
      obtain ⟨P2, kc, rfl, nP2, -⟩ := own_new ho2
      have q0 := (hb2.block w.heap.size (by omega)).trans Q0.out
      have q1 := (hb2.block (w.heap.size + 1) (by omega)).trans Q1.out
      have HLK := Lib.hid (show x.keys.length = m from HR.out.2.1.1)
      have HW2 := Lib.hid (show ∃ W2, W2 = w2.setCell ⟨w.heap.size, 2, none⟩ (.slice P2 m kc) ∧ W2.heap[w.heap.size]? = some (.cells #[.bool x.leaf, .slice P1 j pc, .slice P2 m kc, .slice K k ee, .int .i64 x.next] 35 (0, 0)) ∧ W2.heap[w.heap.size + 1]? = some (.cells #[.bool false, .slice none 0 0, .slice none 0 0, .slice none 0 0, .int .i64 0] 35 (0, 0)) ∧
          Below w.heap.size w W2 ∧ On (fun b => w.heap.size + 1 + 1 ≤ b ∧ b < wo.heap.size) W2 (Prs · P1 j pc x.pairs) ∧ KeysInv W2 wo.heap.size P2 m kc x.keys 0 W2 from by
        refine ⟨_, rfl, set2 _ q0, set_other _ _ q1 (by show w.heap.size + 1 ≠ w.heap.size; omega), (HBw.out.trans (hb2.mono HBw.out.size)).setCell (Nat.le_refl _) _, (HP.out.keep (below_all hb2)).keep (agree_set _ _ _ (by show ¬ (w.heap.size + 1 + 1 ≤ w.heap.size ∧ w.heap.size < wo.heap.size); omega)), ks, ?_, ?_, Below.refl _ _, ?_⟩
        · exact ownsRow_setCell_below ho2 (by show w.heap.size < wo.heap.size; omega) _
        · have hC : ∀ t i, i < w.heap.size → Cj P2 wo.heap.size 0 t i := fun t i hi => ⟨fun a e => by have := nP2 a e; omega, fun h => absurd h (by omega)⟩
          refine ⟨by have := HKX.out.1; have := HLK.out; omega, fun j hj => ?_⟩
          obtain ⟨A1, n1, c1, e1, y1⟩ := HKX.out.2 j (by have := HLK.out; omega)
          exact ⟨A1, n1, c1, e1, ((((byt_old y1).keep (below_all HBw.out)).keep (below_all hb2)).keep (agree_set _ _ _ (by show ¬ (w.heap.size < w.heap.size); omega))).mono (hC j)⟩
        · have := hb2.size
          simpa [World.setCell] using this)
      have nP := Lib.hid nP2
      obtain ⟨g00, g01, g02, g03, g04, f00, f01, f02, f03, f04⟩ := five q0
      clear q0 q1 HKX ho2 hb2 nP2 Q0 Q1 HP HBw
      go_wp2_with fail
      obtain ⟨W2, hW2, h10, h11, hBW2, hP, hPI⟩ := HW2.out
      rw [← hW2]
      have G10 := Lib.hid h10
      have G11 := Lib.hid h11
      have BW2 := Lib.hid hBW2
      have HP := Lib.hid hP
      clear hW2 HW2 h10 h11 hBW2 hP g00 g01 g02 g03 g04 f00 f01 f02 f03 f04
      have HSM := Lib.hid HS.out.2.2.2.1
      have hwrs : w.heap.size + 1 + 1 ≤ wo.heap.size := hNs
      go_loopw [38] (fun i wq => ∃ t : Nat, t ≤ m ∧ i = .int .i64 t ∧ KeysInv W2 wo.heap.size P2 m kc x.keys t wq) (fun i _ => m - (intOf i).toNat)
      case atStart => exact ⟨0, Nat.zero_le _, rfl, hPI⟩
      case round =>
        obtain ⟨t, ht, rfl, hI⟩ := hrel
        clear hPI
        by_cases hlt : t < m
        · have hj' : t < x.keys.length := by rw [HLK.out]; exact hlt
          have HI := Lib.hid hI
          obtain ⟨ys, hown, hr, hb, hNs2⟩ := hI
          obtain ⟨g, rfl, hg1, hg2⟩ := own_at hown (by omega)
          obtain ⟨A1, n1, c1, e1, y1⟩ := hr.2 t hj'
          have k0 : wr.cell? ⟨g, t, none⟩ = some (.slice A1 n1 c1) := (hown.cellAt _ (by omega)).trans e1
          have hsm := HSM.out _ hj'
          have hn1 : n1 ≤ 1000 := by rw [← y1.here.1]; exact hsm
          have qb := (hb.block w.heap.size (by omega)).trans G10.out
          obtain ⟨-, -, gb, -⟩ := five qb
          have hwr : w.heap.size < wr.heap.size := by omega
          have HO := Lib.hid hown
          have HB := Lib.hid hb
          have Y1 := Lib.hid y1.here
          clear hown hr hb y1 e1 hsm qb
          go_wp2
          have K0 := Lib.hid k0
          have GB := Lib.hid gb
          have HCb := Lib.hid gb
          have D := Lib.hid (clone_any (w := wr.drew) c1 (show Byt wr.drew A1 n1 (kat x.keys t) from Y1.out) hn1)
          have z3 : ¬ (g = w.heap.size) := by omega
          have z4 : ¬ (w.heap.size = g) := by omega
          clear k0
          go_region_held3 (fun w' => w'.cell? ⟨w.heap.size, 2, none⟩ = some (.slice (some ⟨g, 0, none⟩) m kc)) (go_keep)
            ((go_at_call 25
              (with_reducible refine D.out.mono ?_)
              rintro e w3 ⟨A2, x2, rfl, p2, n2, hb3⟩
              have hb3 := undrew hb3
              have gb := (hb3.cell (p := ⟨w.heap.size, 2, none⟩) hwr).trans HCb.out
              have HB3 := Lib.hid hb3
              have HX2 := Lib.hid (And.intro p2 n2)
              have g4 := (hb3.cell (p := ⟨g, t, none⟩) hg2).trans K0.out
              have g2 := (own_keep HO.out hb3).frozenAt t
              clear p2 n2 hb3))
          have HT := Lib.hid (keys_round (x2 := x2) HI.out hj' hg1 hg2 HB3.out HX2.out.1 (New.mono HX2.out.2 (show g + 1 ≤ wr.heap.size by omega)))
          clear gb g2 g4 D HB3 HX2 HCb z3 z4 K0 GB HI
          go_wp2
          go_roundw
          case rel => exact ⟨t + 1, by omega, by go_num, HT.out⟩
          case measure => simp [intOf]; omega
        · obtain rfl : t = m := by omega
          obtain ⟨ys, hown, hr, hb, hNs2⟩ := hI
          have hBw : Below w.heap.size w wr := BW2.out.trans (hb.mono (by omega))
          have HP3 := Lib.hid ((HP.out.keep (below_agree hb (fun b hc _ => hc.2))).mono (C' := (w.heap.size + 1 + 1 ≤ ·)) (fun b hc => hc.1))
          have HK3 := Lib.hid (kys_on hown (hr.mono (C' := fun _ b => w.heap.size + 1 + 1 ≤ b) (fun t' ht b hc => Nat.le_trans hwrs (hc.2 (by have := HLK.out; omega)))) (fun a e => Nat.le_trans hwrs (nP.out a e)))
          have q0 := (hb.block w.heap.size (by omega)).trans G10.out
          have q1 := (hb.block (w.heap.size + 1) (by omega)).trans G11.out
          have Q0 := Lib.hid q0
          have Q1 := Lib.hid q1
          have HBw := Lib.hid hBw
          have HNS := Lib.hid (Nat.le_trans hwrs hNs2)
          obtain ⟨li, ci⟩ := HR.out.2.2.cells
          simp only at li ci
          have HC3 := clonei_any (w := wr) (c := ee) (xs := x.kids.map intV) (by omega) hk (fun e => by have := HR.out.2.2.2.2.2.1 e; have := HR.out.2.2.2.1; simp only at *; omega) (fun a e j u hu => (hBw.cell (World.block_lt_of_cell? w _ (ci a e j u hu))).trans (ci a e j u hu)) (fun u hu => by
            obtain ⟨z, _, rfl⟩ := List.mem_map.1 hu
            rfl)
          obtain ⟨g00, g01, g02, g03, g04, f00, f01, f02, f03, f04⟩ := five q0
          clear hown hr hb q0 q1 hBw li ci HSM HLK nP BW2 G10 G11 HP HS hNs hNs2
          go_wp2_with fail
          refine HC3.mono ?_
          rintro e w3 ⟨v3, rfl, ho3, hb3⟩
          clear HC3 g00 g01 g02 g03 g04 f00 f01 f02 f03 f04
          obtain ⟨P3, ic, rfl, nP3, -⟩ := own_new ho3
          have hNS := HNS.out
          have q0 := (hb3.block w.heap.size (by omega)).trans Q0.out
          have q1 := (hb3.block (w.heap.size + 1) (by omega)).trans Q1.out
          have HO3 := Lib.hid (On.imp (ins_on (C := (w.heap.size + 1 + 1 ≤ ·)) ho3 (fun a e => Nat.le_trans hNS (nP3 a e))) (fun _ h => h))
          have HOW := Lib.hid (ho3.mono hNS)
          have HP4 := Lib.hid (HP3.out.keep (below_all hb3))
          have HK4 := Lib.hid (HK3.out.keep (below_all hb3))
          have HB4 := Lib.hid (HBw.out.trans (hb3.mono HBw.out.size))
          obtain ⟨g00, g01, g02, g03, g04, f00, f01, f02, f03, f04⟩ := five q0
          obtain ⟨g10, g11, g12, g13, g14, f10, f11, f12, f13, f14⟩ := five q1
          clear q0 q1 ho3 hb3 nP3 Q0 Q1 HP3 HK3 HBw HNS
          go_wp2
          refine bodyPost_ret (v := .agg #[.bool x.leaf, .slice P1 j pc, .slice P2 t kc, .slice P3 k ic, .int .i64 x.next]) (by simp [results, Try.results21, go_sem, g10, g11, g12, g13, g14]) rfl ⟨⟨P1, j, pc, P2, t, kc, P3, k, ic⟩, rfl, ?_, ?_, ?_⟩
          · have hA := fun (u0 u1 u2 u3 u4 u5 : Value) => six_agree (C := (w.heap.size + 1 + 1 ≤ ·)) w3 (a := w.heap.size) (b := w.heap.size + 1) u0 u1 u2 u3 u4 u5 (by omega) (by omega)
            intro v hv
            have hv' := hv.mono (C' := (w.heap.size + 1 + 1 ≤ ·)) (fun b hb => by omega)
            exact ⟨HP4.out v ((hA _ _ _ _ _ _).trans hv'), HK4.out v ((hA _ _ _ _ _ _).trans hv'), HO3.out v ((hA _ _ _ _ _ _).trans hv')⟩
          · exact (((((HB4.out.setCell (Nat.le_refl _) _).setCell (Nat.le_succ _) _).setCell (Nat.le_succ _) _).setCell (Nat.le_succ _) _).setCell (Nat.le_succ _) _).setCell (Nat.le_succ _) _
          · have hlt : w.heap.size < w.heap.size + 1 + 1 := by omega
            have hlt1 : w.heap.size + 1 < w.heap.size + 1 + 1 := by omega
            exact ownsRow_setCell_below (ownsRow_setCell_below (ownsRow_setCell_below (ownsRow_setCell_below (ownsRow_setCell_below (ownsRow_setCell_below HOW.out hlt _) hlt1 _) hlt1 _) hlt1 _) hlt1 _) hlt1 _

theorem apart_any {w : World} {h : Nh} {x : Nd} (hr : NdR w h x) (hs : SmallN x) : Calls Try.prog 21 #[ndV h x] w (Apart w x) :=
  (apart_own hr hs).mono fun e w' ⟨h, h1, h2, h3, _⟩ => ⟨h, h1, h2, h3⟩
end Go.Proofs.Ytbphjhmmdkaggaa
