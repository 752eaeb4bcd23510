/- The contract of package elide's isGroup. Condition: no more than 1000 requests, whose slices have at most 100 bytes; what came in can be read. -/
import Derived.Test.YtdhgogepjedonaaYl
namespace Go.Proofs.Ytdhgogepjedonaa
open Go.RowKit
set_option linter.unusedVariables false
set_option maxRecDepth 100000

/-- May requests be run together? -/
def isGrp (M : List Rq) (n : Nat) : Bool := decide (0 < n) && (List.range n).all fun j => mayQ (gq M j) && togQ (gq M 0) (gq M j)
theorem isgrp_no {M : List Rq} {n j : Nat} (hj : j < n) (h : (mayQ (gq M j) && togQ (gq M 0) (gq M j)) = false) : isGrp M n = false := by
  unfold isGrp
  rw [List.all_eq_false.2 ⟨j, List.mem_range.2 hj, by simp [h]⟩, Bool.and_false]
theorem isgrp_all {M : List Rq} {n : Nat} (h : ∀ j, j < n → (mayQ (gq M j) && togQ (gq M 0) (gq M j)) = true) : isGrp M n = decide (0 < n) := by
  unfold isGrp
  rw [List.all_eq_true.2 fun j hj => h j (List.mem_range.1 hj), Bool.and_true]
theorem isgrp_yes {M : List Rq} {n : Nat} (h : isGrp M n = true) : 0 < n ∧ ∀ j, j < n → mayQ (gq M j) = true ∧ togQ (gq M 0) (gq M j) = true := by
  unfold isGrp at h
  rw [Bool.and_eq_true, decide_eq_true_eq, List.all_eq_true] at h
  exact ⟨h.1, fun j hj => by simpa using h.2 j (List.mem_range.2 hj)⟩

set_option maxHeartbeats 8000000 in
theorem isgroup_any {w : World} {A : Option Addr} {n : Nat} (c : Nat) {M : List Rq} (h : Reqs w A n M) (hs : ∀ j, j < n → smallQ (gq M j) = true) (hn : n ≤ 1000) :
    Calls Try.prog 22 #[.slice A n c] w fun e w' => e = .returned (.bool (isGrp M n)) ∧ Below w.heap.size w w' := by
  have H := Lib.hid h
  have HS := Lib.hid hs
  clear h hs
  go_enter Try.func22, Try.ntmps22
  go_wp2
  go_loopw [7] (fun s wr => ∃ j : Nat, j ≤ n ∧ s = .int .i64 j ∧ Hid (∀ k, k < j → (mayQ (gq M k) && togQ (gq M 0) (gq M k)) = true) ∧ Below w.heap.size w wr) (fun s _ => n - (intOf s).toNat)
  case atStart => exact ⟨0, Nat.zero_le _, rfl, Lib.hid (fun k hk => by omega), Below.refl _ _⟩
  case round =>
    obtain ⟨j, hj, rfl, HI, hb⟩ := hrel
    have HB := Lib.hid hb
    clear hb
    by_cases hlt : j < n
    · have HN := Lib.hid (fun h => isgrp_no (M := M) hlt h)
      have HST := Lib.hid (show ∀ b, (mayQ (gq M j) && togQ (gq M 0) (gq M j)) = b → b = true → ∀ k, k < j + 1 → (mayQ (gq M k) && togQ (gq M 0) (gq M k)) = true from fun b hb hb2 k hk => by
        by_cases e : k = j
        · rw [e, hb, hb2]
        · exact HI.out k (by omega))
      have hsj := HS.out j hlt
      obtain ⟨b, o, rfl, hbl, h1, x0, x1, x2, x3, x4, x5, x6, x7, hr1⟩ := (H.out.below HB.out).at_ hlt
      obtain ⟨b', o', e', -, h0, y0, y1, y2, y3, y4, y5, y6, y7, hr0⟩ := (H.out.below HB.out).at_ (show 0 < n by omega)
      injection e' with e'
      injection e' with e1 e2
      subst e1
      subst e2
      simp only [Nat.zero_mul, Nat.add_zero] at y0 y1 y2 y3 y4 y5 y6 y7
      go_upto_region 4 with fail
      obtain ⟨w1, hw1, hwb1, hwq1, hws1⟩ := box_q wr h1 (gq M j)
      rw [← hw1]
      have HB1 := Lib.hid (HB.out.trans (hwb1.mono HB.out.size))
      have HQ1 := Lib.hid hwq1
      have hwl : wr.heap.size < w1.heap.size := by omega
      have D := Lib.hid (may_lit (w := w1.drew) ((hr1.below hwb1).below (Below.refl _ _).drew) hsj)
      have HTG := Lib.hid (fun (w2 : World) (hb2 : Below w1.heap.size w1 w2) => together_any (w := w2) ((hr0.below hwb1).below hb2) ((hr1.below hwb1).below hb2))
      have hbl1 : b < w1.heap.size := by omega
      have y0 := (hwb1.cell (p := ⟨b, o, none⟩) hbl).trans y0
      have y1 := (hwb1.cell (p := ⟨b, o + 1, none⟩) hbl).trans y1
      have y2 := (hwb1.cell (p := ⟨b, o + 2, none⟩) hbl).trans y2
      have y3 := (hwb1.cell (p := ⟨b, o + 3, none⟩) hbl).trans y3
      have y4 := (hwb1.cell (p := ⟨b, o + 4, none⟩) hbl).trans y4
      have y5 := (hwb1.cell (p := ⟨b, o + 5, none⟩) hbl).trans y5
      have y6 := (hwb1.cell (p := ⟨b, o + 6, none⟩) hbl).trans y6
      have y7 := (hwb1.cell (p := ⟨b, o + 7, none⟩) hbl).trans y7
      clear hw1 hwb1 hwq1 hws1 x0 x1 x2 x3 x4 x5 x6 x7 hr1 hr0 hsj
      obtain ⟨q0, q1, q2, q3, q4, q5, q6, q7⟩ := HQ1.out.cells
      generalize mayQ (gq M j) = mb at D HN HST
      generalize togQ (gq M 0) (gq M j) = tb at HTG HN HST
      generalize gq M j = r1 at D HTG HQ1 q0 q1 q2 q3 q4 q5 q6 q7
      generalize gq M 0 = r0 at HTG y0 y1 y2 y3 y4 y5 y6 y7
      have b0 : (0 : Int) < (n : Int) := by omega
      have b1 : 0 < n := by omega
      have b2 : (0 : Int) ≤ (0 : Int) := by omega
      have b3 : 1 ≤ n := by omega
      have b4 : (1 : Int) ≤ (n : Int) := by omega
      cases mb
      · clear HTG y0 y1 y2 y3 y4 y5 y6 y7
        refine wp_region_held_drew (S := (fun w' => w'.cell? ⟨wr.heap.size, 0, none⟩ = some (.int .i64 r1.cl) ∧ w'.cell? ⟨wr.heap.size, 1, none⟩ = some (.int .i64 r1.sq) ∧ w'.cell? ⟨wr.heap.size, 2, none⟩ = some (.int .i64 r1.kind) ∧ w'.cell? ⟨wr.heap.size, 3, none⟩ = some (.slice h1.A h1.n h1.c) ∧ w'.cell? ⟨wr.heap.size, 4, none⟩ = some (.slice h1.B h1.m h1.d) ∧ w'.cell? ⟨wr.heap.size, 5, none⟩ = some (.slice h1.C h1.o h1.p) ∧ w'.cell? ⟨wr.heap.size, 6, none⟩ = some (.slice h1.D h1.q h1.s) ∧ w'.cell? ⟨wr.heap.size, 7, none⟩ = some (.int .i64 r1.limit))) (by kernel_rfl) ?_ (fun hHeld => ?_)
        · go_keep
        refine wpAnyH_take (i := 0) (v := .agg #[.int .i64 r1.cl, .int .i64 r1.sq, .int .i64 r1.kind, .slice h1.A h1.n h1.c, .slice h1.B h1.m h1.d, .slice h1.C h1.o h1.p, .slice h1.D h1.q h1.s, .int .i64 r1.limit]) rfl (by kernel_rfl) (by kernel_rfl) (by kernel_rfl) (fun _ _ _ h => h) (Or.inl ⟨by rfl, fun w' hSw => ?_⟩) hHeld ?_
        · (try dsimp only at hSw)
          go_simp
        try simp only [Act.put, List.getElem_toArray, List.getElem_cons_zero, List.setIfInBounds_toArray, List.set_cons_zero, List.set_cons_succ]
        refine wpAnyH_ready (rs := [1]) (by kernel_rfl) (by simp) ?_
        refine AllReadyH.cons rfl (fun K hK => ?_) AllReadyH.nil
        go_simp
        go_at_call 34
        (with_reducible refine D.out.mono ?_)
        rintro e w2 ⟨rfl, hb2⟩
        have hb2 : Below w1.heap.size w1 w2 := undrew hb2
        have HB2 := Lib.hid (HB1.out.trans (hb2.mono HB1.out.size))
        obtain ⟨k0, k1, k2, k3, k4, k5, k6, k7⟩ := (HQ1.out.below hb2 hwl).cells
        clear hb2 hHeld
        refine hK.out _ _ ⟨k0, k1, k2, k3, k4, k5, k6, k7⟩ (fun hHeld => ?_)
        clear hK K
        try simp only [Act.put, List.getElem_toArray, List.getElem_cons_zero, List.getElem_cons_succ, List.setIfInBounds_toArray, List.set_cons_zero, List.set_cons_succ]
        refine wpAnyH_take (i := 2) (v := .bool true) rfl (by kernel_rfl) (by kernel_rfl) (by kernel_rfl) (fun _ _ _ h => h) (Or.inl ⟨by rfl, fun w' hSw => ?_⟩) hHeld ?_
        · (try dsimp only at hSw)
          go_simp
        try simp only [Act.put, List.getElem_toArray, List.getElem_cons_zero, List.getElem_cons_succ, List.setIfInBounds_toArray, List.set_cons_zero, List.set_cons_succ]
        refine wpAnyH_take (i := 3) (v := .bool true) rfl (by kernel_rfl) (by kernel_rfl) (by kernel_rfl) (fun _ _ _ h => h) (Or.inl ⟨by rfl, fun w' hSw => ?_⟩) hHeld ?_
        · (try dsimp only at hSw)
          go_simp
        try simp only [Act.put, List.getElem_toArray, List.getElem_cons_zero, List.getElem_cons_succ, List.setIfInBounds_toArray, List.set_cons_zero, List.set_cons_succ]
        refine wpAnyH_take (i := 4) (v := undef) rfl (by kernel_rfl) (by kernel_rfl) (by kernel_rfl) (fun _ _ _ h => h) (Or.inr ⟨by rfl, rfl⟩) hHeld ?_
        try simp only [Act.put, List.getElem_toArray, List.getElem_cons_zero, List.getElem_cons_succ, List.setIfInBounds_toArray, List.set_cons_zero, List.set_cons_succ]
        refine wpAnyH_take (i := 5) (v := undef) rfl (by kernel_rfl) (by kernel_rfl) (by kernel_rfl) (fun _ _ _ h => h) (Or.inr ⟨by rfl, rfl⟩) hHeld ?_
        try simp only [Act.put, List.getElem_toArray, List.getElem_cons_zero, List.getElem_cons_succ, List.setIfInBounds_toArray, List.set_cons_zero, List.set_cons_succ]
        refine wpAnyH_take (i := 6) (v := undef) rfl (by kernel_rfl) (by kernel_rfl) (by kernel_rfl) (fun _ _ _ h => h) (Or.inr ⟨by rfl, rfl⟩) hHeld ?_
        try simp only [Act.put, List.getElem_toArray, List.getElem_cons_zero, List.getElem_cons_succ, List.setIfInBounds_toArray, List.set_cons_zero, List.set_cons_succ]
        refine wpAnyH_take (i := 7) (v := undef) rfl (by kernel_rfl) (by kernel_rfl) (by kernel_rfl) (fun _ _ _ h => h) (Or.inr ⟨by rfl, rfl⟩) hHeld ?_
        try simp only [Act.put, List.getElem_toArray, List.getElem_cons_zero, List.getElem_cons_succ, List.setIfInBounds_toArray, List.set_cons_zero, List.set_cons_succ]
        refine wpAnyH_take (i := 8) (v := undef) rfl (by kernel_rfl) (by kernel_rfl) (by kernel_rfl) (fun _ _ _ h => h) (Or.inr ⟨by rfl, rfl⟩) hHeld ?_
        try simp only [Act.put, List.getElem_toArray, List.getElem_cons_zero, List.getElem_cons_succ, List.setIfInBounds_toArray, List.set_cons_zero, List.set_cons_succ]
        refine wpAnyH_take (i := 9) (v := undef) rfl (by kernel_rfl) (by kernel_rfl) (by kernel_rfl) (fun _ _ _ h => h) (Or.inr ⟨by rfl, rfl⟩) hHeld ?_
        try simp only [Act.put, List.getElem_toArray, List.getElem_cons_zero, List.getElem_cons_succ, List.setIfInBounds_toArray, List.set_cons_zero, List.set_cons_succ]
        refine wpAnyH_take (i := 10) (v := .bool true) rfl (by kernel_rfl) (by kernel_rfl) (by kernel_rfl) (fun _ _ _ h => h) (Or.inl ⟨by rfl, fun w' hSw => ?_⟩) hHeld ?_
        · (try dsimp only at hSw)
          go_simp
        try simp only [Act.put, List.getElem_toArray, List.getElem_cons_zero, List.getElem_cons_succ, List.setIfInBounds_toArray, List.set_cons_zero, List.set_cons_succ]
        refine wpAnyH_done (by kernel_rfl) ?_ _
        have HR := Lib.hid (HN.out (by simp))
        clear k0 k1 k2 k3 k4 k5 k6 k7 q0 q1 q2 q3 q4 q5 q6 q7 hHeld D HN HST
        go_wp2
        go_ret
        exact ⟨ret_bool HR.out.symm, HB2.out⟩
      · cases tb
        all_goals
          go_region_held3 (fun w' => w'.cell? ⟨wr.heap.size, 0, none⟩ = some (.int .i64 r1.cl) ∧ w'.cell? ⟨wr.heap.size, 1, none⟩ = some (.int .i64 r1.sq) ∧ w'.cell? ⟨wr.heap.size, 2, none⟩ = some (.int .i64 r1.kind) ∧ w'.cell? ⟨wr.heap.size, 3, none⟩ = some (.slice h1.A h1.n h1.c) ∧ w'.cell? ⟨wr.heap.size, 4, none⟩ = some (.slice h1.B h1.m h1.d) ∧ w'.cell? ⟨wr.heap.size, 5, none⟩ = some (.slice h1.C h1.o h1.p) ∧ w'.cell? ⟨wr.heap.size, 6, none⟩ = some (.slice h1.D h1.q h1.s) ∧ w'.cell? ⟨wr.heap.size, 7, none⟩ = some (.int .i64 r1.limit) ∧ w'.cell? ⟨b, o, none⟩ = some (.int .i64 r0.cl) ∧ w'.cell? ⟨b, o + 1, none⟩ = some (.int .i64 r0.sq) ∧ w'.cell? ⟨b, o + 2, none⟩ = some (.int .i64 r0.kind) ∧ w'.cell? ⟨b, o + 3, none⟩ = some (.slice h0.A h0.n h0.c) ∧ w'.cell? ⟨b, o + 4, none⟩ = some (.slice h0.B h0.m h0.d) ∧ w'.cell? ⟨b, o + 5, none⟩ = some (.slice h0.C h0.o h0.p) ∧ w'.cell? ⟨b, o + 6, none⟩ = some (.slice h0.D h0.q h0.s) ∧ w'.cell? ⟨b, o + 7, none⟩ = some (.int .i64 r0.limit)) (go_keep)
            (first
              | (go_at_call 34
                 (with_reducible refine D.out.mono ?_)
                 rintro e w2 ⟨rfl, hb2⟩
                 have hb2 : Below w1.heap.size w1 w2 := undrew hb2
                 have HB2 := Lib.hid hb2
                 have E := Lib.hid (HTG.out w2 hb2)
                 obtain ⟨q0, q1, q2, q3, q4, q5, q6, q7⟩ := (HQ1.out.below hb2 hwl).cells
                 have y0 := (hb2.cell (p := ⟨b, o, none⟩) hbl1).trans y0
                 have y1 := (hb2.cell (p := ⟨b, o + 1, none⟩) hbl1).trans y1
                 have y2 := (hb2.cell (p := ⟨b, o + 2, none⟩) hbl1).trans y2
                 have y3 := (hb2.cell (p := ⟨b, o + 3, none⟩) hbl1).trans y3
                 have y4 := (hb2.cell (p := ⟨b, o + 4, none⟩) hbl1).trans y4
                 have y5 := (hb2.cell (p := ⟨b, o + 5, none⟩) hbl1).trans y5
                 have y6 := (hb2.cell (p := ⟨b, o + 6, none⟩) hbl1).trans y6
                 have y7 := (hb2.cell (p := ⟨b, o + 7, none⟩) hbl1).trans y7
                 clear hb2)
              | (go_at_call 17
                 (with_reducible refine E.out.mono ?_)
                 rintro e w3 ⟨rfl, hb3⟩
                 have hb3 : Below w2.heap.size w2 w3 := hb3
                 have hbb : b < w2.heap.size := Nat.lt_of_lt_of_le hbl1 HB2.out.size
                 have HB3 := Lib.hid (HB1.out.trans ((HB2.out.trans (hb3.mono HB2.out.size)).mono HB1.out.size))
                 obtain ⟨q0, q1, q2, q3, q4, q5, q6, q7⟩ := (HQ1.out.below (HB2.out.trans (hb3.mono HB2.out.size)) hwl).cells
                 have y0 := (hb3.cell (p := ⟨b, o, none⟩) hbb).trans y0
                 have y1 := (hb3.cell (p := ⟨b, o + 1, none⟩) hbb).trans y1
                 have y2 := (hb3.cell (p := ⟨b, o + 2, none⟩) hbb).trans y2
                 have y3 := (hb3.cell (p := ⟨b, o + 3, none⟩) hbb).trans y3
                 have y4 := (hb3.cell (p := ⟨b, o + 4, none⟩) hbb).trans y4
                 have y5 := (hb3.cell (p := ⟨b, o + 5, none⟩) hbb).trans y5
                 have y6 := (hb3.cell (p := ⟨b, o + 6, none⟩) hbb).trans y6
                 have y7 := (hb3.cell (p := ⟨b, o + 7, none⟩) hbb).trans y7
                 clear hb3 hbb))
          clear D E HTG y0 y1 y2 y3 y4 y5 y6 y7 q0 q1 q2 q3 q4 q5 q6 q7
        · have HR := Lib.hid (HN.out (by simp))
          clear HN HST
          go_wp2
          go_ret
          exact ⟨ret_bool HR.out.symm, HB3.out⟩
        · have HR := Lib.hid (HST.out true (by simp) rfl)
          clear HN HST
          go_wp2
          go_roundw
          case rel => exact ⟨j + 1, by omega, by go_num, HR, HB3.out⟩
          case measure => simp [intOf]; omega
    · obtain rfl : j = n := by omega
      have HR := Lib.hid (isgrp_all (M := M) HI.out)
      by_cases h0 : 0 < j
      all_goals
        go_wp2
        go_ret
        exact ⟨ret_bool (by rw [HR.out]; simp [h0]), HB.out⟩
end Go.Proofs.Ytdhgogepjedonaa
