/- The law's head (the document's example): it returns true; nothing that was there is changed. No condition. -/
import Derived.Test.YthcchaglloggjaaJh
import Derived.Lib.SlBytesConst
import Derived.Lib.SmallJoins
namespace Go.Proofs.Ythcchaglloggjaa
open Go.RowKit
set_option linter.unusedVariables false
set_option maxRecDepth 100000

def upR17 : Rq := ⟨0, 0, 1, [97], [], [], [], 0⟩
def upA17 : An := ⟨0, true, [], [], 0⟩
theorem up17_facts : smallQ upR17 = true ∧ (∀ L, L.length = 1 → beginK [] [] L [upR17] = 0) ∧ (∀ T R L, openB T R = true → beginK T R L [upR17] = 10) := by
  refine ⟨by decide, fun L hL => ?_, fun T R L h => by unfold beginK; rw [if_pos h]⟩
  obtain ⟨x, rfl⟩ := List.length_eq_one_iff.1 hL
  have hb : batchB [x] [upR17] = true := by
    have h1 : ([x] : List Int).Nodup := by simp
    unfold batchB
    rw [decide_eq_true h1]
    have hc : (decide (0 < 1) && (decide (1 = 1) && (true && [upR17].all mayQ))) = true := by decide
    exact hc
  unfold beginK
  rw [if_neg (by decide), if_neg (by rw [hb]; decide)]
  decide
theorem up17_grp {x : Int} {g : Nat → Nat} (h : OrdI [upR17] 1 g) : grT [x] [upR17] (grpL [upR17] g 1) = [[(x, upR17)]] := by
  have h0 : g 0 = 0 := by have := h.lt 0 (by omega); omega
  unfold grpL
  rw [if_neg (by omega), grp_one]
  simp [grT, h0, it, gq]
theorem up17_sm : ∀ j, j < 1 → smallQ (gq [upR17] j) = true := fun j hj => by
  obtain rfl : j = 0 := by omega
  exact up17_facts.1
theorem up17_sma : ∀ j, j < 1 → SmA (aq [upA17] j) := fun j hj => by
  obtain rfl : j = 0 := by omega
  exact ⟨by decide, by decide, fun p hp => by cases hp⟩
theorem up17_ok : OkJ [[((4 : Int), upR17)]] [] := ⟨fun g hg => by simp at hg; subst hg; decide, fun g hg x hx => by simp at hg; subst hg; simp at hx; subst hx; exact up17_facts.1, (fun x hx => by cases hx), by decide⟩
theorem up17_ok2 : OkJ [] [((4 : Int), upA17)] := ⟨(fun g hg => by cases hg), (fun g hg => by cases hg), fun x hx => by simp at hx; subst hx; exact up17_sma 0 (by omega), by decide⟩
/-- What the first two calls hand over. -/
theorem up17_in (w : World) (x : Int) : ∃ V, V = ((w.alloc (.cells #[.int .i64 x] 3)).alloc (.cells #[.int .u8 97] 5 (1, 2))).alloc (.cells #[.int .i64 0, .int .i64 0, .int .i64 1, .slice (some ⟨w.heap.size + 1, 0, none⟩) 1 1, .slice none 0 0, .slice none 0 0, .slice none 0 0, .int .i64 0] 60) ∧
    Below w.heap.size w V ∧ On (w.heap.size ≤ ·) V (Ils · (some ⟨w.heap.size, 0, none⟩) 1 [x]) ∧ On (w.heap.size ≤ ·) V (Reqs · (some ⟨w.heap.size + 2, 0, none⟩) 1 [upR17]) := by
  obtain ⟨w1, h1⟩ : ∃ w1, w1 = w.alloc (.cells #[.int .i64 x] 3) := ⟨_, rfl⟩
  obtain ⟨w2, h2⟩ : ∃ w2, w2 = w1.alloc (.cells #[.int .u8 97] 5 (1, 2)) := ⟨_, rfl⟩
  obtain ⟨V, hV⟩ : ∃ V, V = w2.alloc (.cells #[.int .i64 0, .int .i64 0, .int .i64 1, .slice (some ⟨w.heap.size + 1, 0, none⟩) 1 1, .slice none 0 0, .slice none 0 0, .slice none 0 0, .int .i64 0] 60) := ⟨_, rfl⟩
  have s1 : w1.heap.size = w.heap.size + 1 := by rw [h1]; simp
  have s2 : w2.heap.size = w.heap.size + 2 := by rw [h2, alloc_sz, s1]
  have s3 : V.heap.size = w.heap.size + 3 := by rw [hV, alloc_sz, s2]
  have b1 : Below w.heap.size w w1 := by rw [h1]; exact (Below.refl _ _).alloc (Nat.le_refl _) _
  have b2 : Below w1.heap.size w1 w2 := by rw [h2]; exact (Below.refl _ _).alloc (Nat.le_refl _) _
  have b3 : Below w2.heap.size w2 V := by rw [hV]; exact (Below.refl _ _).alloc (Nat.le_refl _) _
  have o1 : w1.heap[w.heap.size]? = some (.cells #[.int .i64 x] 3 (0, 0)) := by rw [h1]; exact Deep.blk_alloc_new _ _
  have o1 : V.heap[w.heap.size]? = some (.cells #[.int .i64 x] 3 (0, 0)) := (b3.block _ (by omega)).trans ((b2.block _ (by omega)).trans o1)
  have hby : Byt w2 (some ⟨w1.heap.size, 0, none⟩) 1 [97] := by rw [h2]; exact byt_lit w1 97 97 rfl (1, 2)
  rw [s1] at hby
  have hby := hby.below b3
  have o3 : V.heap[w.heap.size + 2]? = some (.cells #[.int .i64 0, .int .i64 0, .int .i64 1, .slice (some ⟨w.heap.size + 1, 0, none⟩) 1 1, .slice none 0 0, .slice none 0 0, .slice none 0 0, .int .i64 0] 60 (0, 0)) := by
    rw [← s2, hV]; exact Deep.blk_alloc_new _ _
  have hbo : On (w.heap.size ≤ ·) V (Byt · (some ⟨w.heap.size + 1, 0, none⟩) 1 [97]) := byt_on hby (fun a _ e => by injection e with e; subst e; show w.heap.size ≤ w.heap.size + 1; omega)
  refine ⟨V, by rw [hV, h2, h1], (b1.trans (b2.mono (by omega))).trans (b3.mono (by omega)), fun v hv => ?_, fun v hv => ?_⟩
  · have o := (hv.2 w.heap.size (Nat.le_refl _) (by omega)).trans o1
    refine ⟨rfl, by decide, fun _ => ⟨w.heap.size, 0, rfl, by have := hv.1; omega, fun j hj => ?_⟩⟩
    obtain rfl : j = 0 := by omega
    simp [World.cell?, o, it]
  · have o := (hv.2 (w.heap.size + 2) (by show w.heap.size ≤ w.heap.size + 2; omega) (by omega)).trans o3
    refine ⟨rfl, by decide, fun _ => ⟨w.heap.size + 2, 0, rfl, by have := hv.1; omega, fun j hj => ?_⟩⟩
    obtain rfl : j = 0 := by omega
    refine ⟨⟨some ⟨w.heap.size + 1, 0, none⟩, 1, 1, none, 0, 0, none, 0, 0, none, 0, 0⟩, ?_, ?_, ?_, ?_, ?_, ?_, ?_, ?_, hbo v hv, byt_none v, byt_none v, byt_none v⟩
    all_goals simp [World.cell?, o, gq, upR17]
theorem up17_an (w : World) : ∃ V, V = w.alloc (.cells #[.int .i64 0, .bool true, .slice none 0 0, .slice none 0 0, .int .u64 0] 46) ∧ Below w.heap.size w V ∧ On (w.heap.size ≤ ·) V (Anss · (some ⟨w.heap.size, 0, none⟩) 1 [upA17]) := by
  refine ⟨_, rfl, (Below.refl _ _).alloc (Nat.le_refl _) _, fun v hv => ?_⟩
  have o := (hv.2 w.heap.size (Nat.le_refl _) (by rw [alloc_sz]; omega)).trans (Deep.blk_alloc_new w _)
  refine ⟨rfl, by decide, fun _ => ⟨w.heap.size, 0, rfl, by have := hv.1; rw [alloc_sz] at this; omega, fun j hj => ?_⟩⟩
  obtain rfl : j = 0 := by omega
  refine ⟨sh0, ?_, ?_, ?_, ?_, ?_, byt_none v, prs_nil v⟩
  all_goals simp [World.cell?, o, aq, upA17, sh0]

theorem jo_new {w : World} {p : Nat} {vt vr : Value} {C : Nat → Prop} {N : Nat} {T : List Gr} {R : List Ry} (h : JM C w N p vt vr T R) {b : Nat} (hb : w.heap.size ≤ b) : Jo p vt vr b :=
  ⟨by have := h.lt; omega, fun q hq e => by have := (h.ltt q hq).2; omega, fun q hq e => by have := (h.ltr q hq).2; omega⟩
theorem jo_low {w : World} {p : Nat} {vt vr : Value} {C : Nat → Prop} {N : Nat} {T : List Gr} {R : List Ry} (h : JM C w N p vt vr T R) {b : Nat} (hb : b < N) : Jo p vt vr b :=
  ⟨by have := h.np; omega, fun q hq e => by have := (h.ltt q hq).1; omega, fun q hq e => by have := (h.ltr q hq).1; omega⟩
/-- A journal somewhere behind N. -/
def JS (C : Nat → Prop) (w0 : World) (p : Nat) (T : List Gr) (R : List Ry) (w : World) : Prop := Below w0.heap.size w0 w ∧ ∃ vt vr, JM C w w0.heap.size p vt vr T R
theorem JS.more {C : Nat → Prop} {w0 w w' : World} {p : Nat} {T : List Gr} {R : List Ry} (h : JS C w0 p T R w) (hb : Below w.heap.size w w') : JS C w0 p T R w' := by
  obtain ⟨h1, vt, vr, h2⟩ := h
  exact ⟨h1.trans (hb.mono h1.size), vt, vr, h2.below hb⟩
theorem JS.done {C : Nat → Prop} {w0 w w' : World} {p : Nat} {vt vr vt' vr' : Value} {T T' : List Gr} {R R' : List Ry} (h1 : Below w0.heap.size w0 w) (h2 : JM C w w0.heap.size p vt vr T R) (h3 : JM C w' w0.heap.size p vt' vr' T' R') (hk : Kp (Jo p vt vr) (Jo p vt' vr') w w') : JS C w0 p T' R' w' :=
  ⟨h1.trans (hk.below (fun b hb => jo_low h2 hb) h1.size), vt', vr', h3⟩

set_option maxHeartbeats 8000000 in
theorem up_any (w : World) : Calls Try.prog 5 #[] w fun e w' => e = .returned (.bool true) ∧ Below w.heap.size w w' := by
  have HN := Lib.hid (jnew_any (fun _ => True) (w := w) (Nat.le_refl _))
  have ee := fun w => eql_err 10 10 w
  have kc := fun (w : World) (C : Array Value) (n c g : Nat) (hg : g = w.heap.size) => Joins.run_convert_bytes_const_at (P := Try.prog) w 42 5 C n c g hg Try.underlying42 Try.underlying5
  go_enter Try.func5, Try.ntmps5
  go_wp2_with fail
  refine HN.out.mono ?_
  rintro e w1 ⟨rfl, hm1, hb1, -⟩
  have HM1 := Lib.hid hm1
  have HB1 := Lib.hid hb1
  obtain ⟨V1, hV1, hVB1, hI1, hR1⟩ := up17_in w1 4
  have HP := Lib.hid (begin_any 1 1 (HM1.out.below hVB1) okj_nil (fun _ _ => trivial) (hI1.mono fun b hb => jo_new HM1.out hb) (hR1.mono fun b hb => jo_new HM1.out hb) up17_sm (by omega))
  rw [up17_facts.2.1 [4] rfl] at HP
  have HVE := Lib.hid hV1
  have HVB := Lib.hid (HB1.out.trans (hVB1.mono HB1.out.size))
  have HMV := Lib.hid (HM1.out.below hVB1)
  clear hm1 hb1 hV1 hVB1 hI1 hR1 HN
  go_wp2_with fail
  rw [← HVE.out]
  refine HP.out.mono ?_
  rintro e w2 (⟨h0, -⟩ | ⟨-, g, hg, vt, vr, rfl, hm2, hk2⟩)
  · exact absurd rfl h0
  rw [up17_grp hg] at hm2
  have HS2 := Lib.hid (JS.done HVB.out HMV.out hm2 hk2)
  clear hg hm2 hk2 HP HVE HVB HMV HM1 HB1
  obtain ⟨hb2, vt2, vr2, hm2⟩ := HS2.out
  obtain ⟨V2, hV2, hVB2, hI2, hR2⟩ := up17_in w2 5
  have HB2 := Lib.hid hb2
  have HM2 := Lib.hid hm2
  have HP := Lib.hid (begin_any 1 1 (HM2.out.below hVB2) up17_ok (fun _ _ => trivial) (hI2.mono fun b hb => jo_new HM2.out hb) (hR2.mono fun b hb => jo_new HM2.out hb) up17_sm (by omega))
  rw [up17_facts.2.2 _ _ [5] (by decide)] at HP
  have HVE := Lib.hid hV2
  have HVB := Lib.hid (HB2.out.trans (hVB2.mono HB2.out.size))
  have HMV := Lib.hid (HM2.out.below hVB2)
  clear hm2 hb2 hV2 hVB2 hI2 hR2 HS2
  go_wp2_with fail
  rw [← HVE.out]
  refine HP.out.mono ?_
  rintro e w3 (⟨-, vt, vr, rfl, hm3, hk3⟩ | ⟨h0, -⟩)
  rotate_left
  · exact absurd h0 (by decide)
  have HS3 := Lib.hid (JS.done HVB.out HMV.out hm3 hk3)
  rw [errV_some (show (10 : Int) ≠ 0 by decide)]
  clear hm3 hk3 HP HVE HVB HMV HM2 HB2
  obtain ⟨hb3, vt3, vr3, hm3⟩ := HS3.out
  obtain ⟨V3, hV3, hVB3, hA3⟩ := up17_an w3
  have HB3 := Lib.hid hb3
  have HM3 := Lib.hid hm3
  have HP := Lib.hid (apply_any 1 (HM3.out.below hVB3) up17_ok (fun _ _ => trivial) (hA3.mono fun b hb => jo_new HM3.out hb) up17_sma)
  rw [show applyK [[((4 : Int), upR17)]] 1 = 0 from rfl, show applyT [[((4 : Int), upR17)]] 1 = [] from rfl, show applyR [[((4 : Int), upR17)]] [] [upA17] = [(4, upA17)] from rfl] at HP
  have HVE := Lib.hid hV3
  have HVB := Lib.hid (HB3.out.trans (hVB3.mono HB3.out.size))
  have HMV := Lib.hid (HM3.out.below hVB3)
  clear hm3 hb3 hV3 hVB3 hA3 HS3
  go_wp2_with fail
  rw [← HVE.out]
  refine HP.out.mono ?_
  rintro e w4 ⟨vt, vr, rfl, hm4, hk4⟩
  have HS4 := Lib.hid (JS.done HVB.out HMV.out hm4 hk4)
  clear hm4 hk4 HP HVE HVB HMV HM3 HB3
  obtain ⟨hb4, vt4, vr4, hm4⟩ := HS4.out
  have HB4 := Lib.hid hb4
  have HM4 := Lib.hid hm4
  have HP := Lib.hid (jready_any hm4 up17_ok2)
  clear hm4 hb4 HS4
  go_wp2_with fail
  refine HP.out.mono ?_
  rintro e w5 ⟨k5, rfl, -, hb5⟩
  rw [show rdyS [((4 : Int), upA17)] = 4 from rfl, show rdyA [((4 : Int), upA17)] = upA17 from rfl, show rdyB [((4 : Int), upA17)] = true from rfl]
  have HX := Lib.hid (box_a w5 k5 upA17)
  have HB5 := Lib.hid (HB4.out.trans (hb5.mono HB4.out.size))
  have HM5 := Lib.hid (HM4.out.below hb5)
  clear hb5 HP HM4 HB4
  go_upto_region 8 with fail
  obtain ⟨W, hW, hWB, hWA, hWs⟩ := HX.out
  rw [← hW]
  have HB6 := Lib.hid (HB5.out.trans (hWB.mono HB5.out.size))
  have HM6 := Lib.hid (HM5.out.below hWB)
  have HXA := Lib.hid (hWA)
  have HP := Lib.hid (answered_any HM6.out (by decide))
  rw [show doneK [((4 : Int), upA17)] = 0 from rfl, show ([((4 : Int), upA17)] : List Ry).tail = [] from rfl] at HP
  have hj5 := jo_new HM5.out (Nat.le_refl w5.heap.size)
  have HJ5 := Lib.hid hj5
  clear hW hWB hWA hWs HX HB5 HM5 hj5
  go_wp2_with fail
  refine HP.out.mono ?_
  rintro e w7 ⟨vt, vr, rfl, hm7, hk7⟩
  have HB7 := Lib.hid ((JS.done HB6.out HM6.out hm7 hk7).1)
  have HXA7 := Lib.hid (show BoxA w7 w5.heap.size k5 upA17 from (hk7.block _ HXA.out.lt HJ5.out).trans HXA.out)
  have HP := Lib.hid (open_any hm7 (by decide))
  rw [show openB ([] : List Gr) ([] : List Ry) = false from rfl] at HP
  rw [errV_zero]
  obtain ⟨b0, b1, b2, b3, b4⟩ := HXA7.out.cells
  clear hm7 hk7 HB6 HM6 HXA HJ5
  go_wp2_with fail
  refine HP.out.mono ?_
  rintro e w8 ⟨rfl, hb8⟩
  have HB8 := Lib.hid (HB7.out.trans (hb8.mono HB7.out.size))
  clear hb8 b0 b1 b2 b3 b4
  go_wp2
  go_ret
  exact ⟨rfl, HB8.out⟩
end Go.Proofs.Ythcchaglloggjaa
