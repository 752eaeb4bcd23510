/- The contract of package elide's Run. Condition: no more than 300 requests, whose slices have at most 100 bytes; what came in can be read. -/
import Derived.Test.YtdhgogepjedonaaYp
namespace Go.Proofs.Ytdhgogepjedonaa
open Go.RowKit
set_option linter.unusedVariables false
set_option maxRecDepth 100000

def rowR (has : Bool) (k v : Ky) : List Pr := if has then [(k, v)] else []
def mostR (has room : Bool) : Int := if has || room then 1 else 0
def fitR (has : Bool) (v : Ky) (M : List Rq) (n : Nat) : Bool := isGrp M n && (!has || decide (v.length ≤ 32))
theorem sq_one {w : World} {A B : Option Addr} {n m : Nat} (c d : Nat) {k v : Ky} (h : Byt w A n k) (h' : Byt w B m v) : Prs (w.alloc (.cells #[.slice A n c, .slice B m d] 45)) (some ⟨w.heap.size, 0, none⟩) 1 1 [(k, v)] := by
  have hb := (Below.refl w.heap.size w).alloc (Nat.le_refl _) (.cells #[.slice A n c, .slice B m d] 45)
  refine ⟨rfl, Nat.le_refl _, by unfold maxLen; omega, (fun e => by cases e), fun _ => ⟨w.heap.size, 0, rfl, by simp, fun j hj => ?_⟩⟩
  obtain rfl : j = 0 := by omega
  exact ⟨A, n, c, B, m, d, by simp, by simp, h.below hb, h'.below hb⟩
/-- How the answers stand. -/
structure FitR (has room : Bool) (val : Ky) (M : List Rq) (n : Nat) : Prop where
  fit : Fit (rowR has (gq M 0).key val)
  len : (rowR has (gq M 0).key val).length ≤ 1
  top : (thenQ (rowR has (gq M 0).key val) M (mostR has room) n).length ≤ 1
theorem then_top {L : List Pr} (h : Fit L) (M : List Rq) {most : Int} (hl : (L.length : Int) ≤ most) : ∀ j, ((thenQ L M most j).length : Int) ≤ most
  | 0 => hl
  | j + 1 => by
    have h1 := then_top h M hl j
    have h2 := next_room (then_fit h M most j).1 (gq M j) most
    show ((nextQ (thenQ L M most j) (gq M j) most).length : Int) ≤ most
    omega
theorem fitr {has room : Bool} {val : Ky} {M : List Rq} {n : Nat} (h : fitR has val M n = true) : FitR has room val M n := by
  unfold fitR at h
  rw [Bool.and_eq_true] at h
  obtain ⟨h1, h2⟩ := h
  obtain ⟨h0, hall⟩ := isgrp_yes h1
  obtain ⟨hm, ht⟩ := hall 0 h0
  have h6 : (gq M 0).kind ≠ 6 := by
    unfold togQ scanQ at ht
    simp at ht
    exact ht.1
  have hf := may_fair hm h6
  have hfit : Fit (rowR has (gq M 0).key val) := by
    unfold rowR
    cases has
    · exact ⟨List.Pairwise.nil, fun p hp => by cases hp⟩
    · refine ⟨List.pairwise_singleton _ _, fun p hp => ?_⟩
      obtain rfl : p = ((gq M 0).key, val) := by simpa using hp
      unfold fairB
      have h3 : val.length ≤ 32 := by simpa using h2
      rw [hf.1]
      simp [h3]
  refine ⟨hfit, by unfold rowR; split <;> simp, ?_⟩
  have hl : ((rowR has (gq M 0).key val).length : Int) ≤ mostR has room := by
    unfold rowR mostR
    cases has <;> cases room <;> simp
  have h4 := then_top hfit M hl n
  have h5 : mostR has room ≤ 1 := by
    unfold mostR
    split <;> omega
  omega

/-- What Run tells where it fits. -/
def RunO (w : World) (has : Bool) (val : Ky) (room : Bool) (M : List Rq) (n : Nat) (e : Ending) (w' : World) : Prop :=
  ∃ (A2 : Option Addr) (c2 : Nat) (B : Option Addr) (mb db : Nat), e = .returned (.tuple #[.agg #[.slice A2 n c2, .bool (decide (0 < (thenQ (rowR has (gq M 0).key val) M (mostR has room) n).length)), .slice B mb db, .bool (chgQ (rowR has (gq M 0).key val).length (thenQ (rowR has (gq M 0).key val) M (mostR has room) n) val)], .nilIface]) ∧
    Ress w' A2 n (allQ (rowR has (gq M 0).key val) M (mostR has room) n) ∧ Byt w' B mb (topV (thenQ (rowR has (gq M 0).key val) M (mostR has room) n)) ∧ Below w.heap.size w w'

set_option maxHeartbeats 8000000 in
theorem run_no {w : World} {V A : Option Addr} {nv cv n c : Nat} {has room : Bool} {val : Ky} {M : List Rq} (hv : Byt w V nv val) (h : Reqs w A n M) (hs : ∀ j, j < n → smallQ (gq M j) = true) (hn : n ≤ 300) (hf : fitR has val M n = false) :
    Calls Try.prog 12 #[.bool has, .slice V nv cv, .bool room, .slice A n c] w fun e w' => e = .returned (.tuple #[.agg #[.slice none 0 0, .bool false, .slice none 0 0, .bool false], .iface 42 (.int .i64 1)]) ∧ Below w.heap.size w w' := by
  obtain ⟨W, hW, hWB, hWN, hWs⟩ := box_n w
  have HG := Lib.hid (isgroup_any c (h.below hWB) hs (by omega))
  have HFV := Lib.hid (fun (w1 : World) (hb : Below W.heap.size W w1) => kfair_any (w := w1) cv ((hv.below hWB).below hb))
  have HWN := Lib.hid hWN
  have HB := Lib.hid hWB
  have hWe := Lib.hid hW
  have hwl : w.heap.size < W.heap.size := by omega
  have HF := Lib.hid (show (isGrp M n && (!has || decide (val.length ≤ 32))) = false from hf)
  clear h hs hf hv hW hWB hWN hWs
  generalize isGrp M n = gb at HG HF
  generalize decide (val.length ≤ 32) = fb at HFV HF
  cases gb
  · go_enter Try.func12, Try.ntmps12
    go_upto_region 1 with fail
    rw [← hWe.out]
    go_wp2_with fail
    refine HG.out.mono ?_
    rintro e w1 ⟨rfl, hb1⟩
    have HB1 := Lib.hid (HB.out.trans (hb1.mono HB.out.size))
    obtain ⟨t0, t1, t2, t3, f0, f1, f2, f3⟩ := (HWN.out.below hb1 hwl).cells
    clear hb1
    go_wp2
    refine bodyPost_ret (v := .tuple #[.agg #[.slice none 0 0, .bool false, .slice none 0 0, .bool false], .iface 42 (.int .i64 1)]) (by simp [results, Try.results12, go_sem, t0, t1, t2, t3]) rfl ⟨rfl, ?_⟩
    exact four_below HB1.out (b := w.heap.size) (Nat.le_refl _) _ _ _ _
  · have hh : has = true ∧ fb = false := by
      have := HF.out
      cases has <;> cases fb <;> simp_all
    obtain ⟨rfl, rfl⟩ := hh
    go_enter Try.func12, Try.ntmps12
    go_upto_region 1 with fail
    rw [← hWe.out]
    go_wp2_with fail
    refine HG.out.mono ?_
    rintro e w1 ⟨rfl, hb1⟩
    have HB1 := Lib.hid (HB.out.trans (hb1.mono HB.out.size))
    have HF1 := Lib.hid (HFV.out w1 hb1)
    obtain ⟨t0, t1, t2, t3, f0, f1, f2, f3⟩ := (HWN.out.below hb1 hwl).cells
    clear hb1
    go_wp2_with fail
    refine HF1.out.mono ?_
    rintro e w2 ⟨rfl, rfl⟩
    go_wp2
    refine bodyPost_ret (v := .tuple #[.agg #[.slice none 0 0, .bool false, .slice none 0 0, .bool false], .iface 42 (.int .i64 1)]) (by simp [results, Try.results12, go_sem, t0, t1, t2, t3]) rfl ⟨rfl, ?_⟩
    exact four_below HB1.out (b := w.heap.size) (Nat.le_refl _) _ _ _ _
end Go.Proofs.Ytdhgogepjedonaa
