/- Contracts of package row's Delete once more (new memory), of Merge with nothing, and of package omap's copied and written. Condition: a row of no more than 1000 pairs; what came in can be read. -/
import Derived.Test.YtdhgogepjedonaaWf
namespace Go.Proofs.Ytdhgogepjedonaa
open Go.RowKit
set_option linter.unusedVariables false
set_option maxRecDepth 100000

/-- What Delete leaves. -/
def DeldN (w : World) (L : List Pr) (b : Bool) (e : Ending) (w' : World) : Prop := ∃ A n c, e = .returned (.tuple #[.slice A n c, .bool b]) ∧ On (w.heap.size ≤ ·) w' (Prs · A n c L) ∧ Below w.heap.size w w'

set_option maxHeartbeats 2000000 in
theorem del_new {w : World} {A C : Option Addr} {n c o : Nat} (q : Nat) {L : List Pr} {k : List UInt8} (h : Prs w A n c L) (h' : Byt w C o k) (hs : Srt L) (hn : n ≤ 1000) (hm : Small L) :
    Calls Try.prog 56 #[.slice A n c, .slice C o q] w (DeldN w (delL L k) (hasB L k)) := by
  have HF := find_any q h h' hs hn
  have H := Lib.hid h
  have H' := Lib.hid h'
  have HP := Lib.hid (pos_le L k)
  have HL := Lib.hid h.len
  have HD := Lib.hid (del_is hs k)
  have HPE := Lib.hid (pos_end hs k)
  have HM := Lib.hid hm
  clear h h' hs hm
  go_enter Try.func56, Try.ntmps56
  go_wp2_with fail
  refine HF.mono ?_
  rintro e w1 ⟨rfl, hb⟩
  have HB := Lib.hid hb
  have H1 := Lib.hid (H.out.below hb)
  clear HF hb H
  generalize pos L k = P at HP HD HPE
  cases hh : hasB L k
  · rw [hh] at HD
    have hd : delL L k = L := by rw [HD.out]; rfl
    have HD := Lib.hid hd
    have HT := Lib.hid (told_new (pieces1 H1.out 43) (by omega) (show sumN _ 1 ≤ 3000 by simp [sumN, pick3]; omega) (show Small (catL _ 1) from HM.out))
    have HH := Lib.hid hh
    clear hd hh
    go_wp2_with fail
    refine HT.out.mono ?_
    rintro e w2 ⟨A2, n2, c2, rfl, hp, hb2⟩
    have HP2 := Lib.hid hp
    have HB2 := Lib.hid hb2
    clear hp hb2
    go_wp2
    go_ret2
    refine ⟨A2, n2, c2, by rw [HH.out]; rfl, ?_, (HB.out.alloc HB.out.size _).trans (HB2.out.mono (by have := HB.out.size; simp; omega))⟩
    rw [HD.out]
    exact HP2.out.mono (fun b hb => by have := HB.out.size; have hb' := hb; simp at hb'; omega)
  · rw [hh] at HD
    have hP1 : P < n := by
      have h1 := HP.out
      have h2 := HPE.out
      rw [hh, HL.out] at h2
      rw [HL.out] at h1
      rcases Nat.lt_or_ge P n with h3 | h3
      · exact h3
      · cases h2 (by omega)
    have hPc : P ≤ c := Nat.le_trans (Nat.le_of_lt hP1) H1.out.2.1
    have hd : delL L k = L.take P ++ L.drop (P + 1) := by rw [HD.out]; rfl
    have HD := Lib.hid hd
    have HH := Lib.hid hh
    clear hd hh HPE
    have hp2 : Pieces (w1.alloc (.cells #[.slice A P c, .slice (cutA A (P + 1) c) (n - (P + 1)) (c - (P + 1))] 43)).drew w1.heap.size 2 _ _ _ _ := pieces2 (H1.out.upto (Nat.le_of_lt hP1)) (H1.out.from (k := P + 1) hP1) 43
    have HT := told_new hp2 (by omega) (show sumN _ 2 ≤ 3000 by simp [sumN, pick3]; omega) (show Small (catL _ 2) from small_app (small_take HM.out P) (small_drop HM.out (P + 1)))
    clear hp2
    have s1 : IntKind.i64.wrap ((P : Int) + 1) = (P : Int) + 1 := IntWalk.i64_in _ (by omega)
    have s2 : (0 : Int) ≤ (P : Int) + 1 := by omega
    have s3 : ((P : Int) + 1).toNat = P + 1 := by omega
    have s4 : (P : Int) + 1 ≤ n := by omega
    have hX : (if c = P + 1 then A else A.map (fun x => x.add ((P + 1) * 2))) = cutA A (P + 1) c := rfl
    have HT := Lib.hid HT
    go_wp2
    go_still_tail 7, (by kernel_rfl)
    clear s1 s2 s3 s4 hX
    change wpList _ _ _ _ _ w1.drew
    go_wp2_with fail
    refine HT.out.mono ?_
    rintro e w2 ⟨A2, n2, c2, rfl, hp, hb2⟩
    have HP2 := Lib.hid hp
    have HB2 := Lib.hid hb2
    clear hp hb2
    go_wp2
    go_ret2
    refine ⟨A2, n2, c2, by rw [HH.out]; rfl, ?_, ((HB.out.alloc HB.out.size _).drew).trans (HB2.out.mono (by have := HB.out.size; simp; omega))⟩
    rw [HD.out]
    exact HP2.out.mono (fun b hb => by have := HB.out.size; have hb' := hb; simp at hb'; omega)

set_option maxHeartbeats 2000000 in
theorem merge_nil {w : World} {A : Option Addr} {n c : Nat} {L : List Pr} (h : Prs w A n c L) (hm : Small L) (hn : n ≤ 1000) :
    Calls Try.prog 50 #[.slice A n c, .slice none 0 0] w (MadeN w L) := by
  have HT := told_new (pieces3 (prs_nil w) h (prs_nil w) 43 : Pieces (w.alloc (.cells #[.slice none 0 0, .slice A n c, .slice none 0 0] 43)) w.heap.size 3 _ _ _ _) (by omega) (show sumN _ 3 ≤ 3000 by simp [sumN, pick3]; omega) (show Small (catL _ 3) from by
    simp [catL, pick3]
    exact hm)
  rw [show catL (pick3 ([] : List Pr) L []) 3 = L by simp [catL, pick3]] at HT
  have HT := Lib.hid HT
  by_cases h0 : 0 < n
  case' pos => have g0 : decide ((0 : Int) < (n : Int)) = true := by simp; omega
  case' neg => have g0 : decide ((0 : Int) < (n : Int)) = false := by simp; omega
  all_goals
    clear h hm
    go_enter Try.func50, Try.ntmps50
    go_wp2
    go_loopw [0, 1, 5] (fun s0 s1 s5 wr => s0 = .slice A n c ∧ s1 = .slice none 0 0 ∧ s5 = .slice none 0 0 ∧ wr = w) (fun _ _ _ _ => 0)
    case atStart => exact ⟨rfl, rfl, rfl, rfl⟩
    case round =>
      obtain ⟨rfl, rfl, rfl, rfl⟩ := hrel
      go_wp2_with fail
      refine HT.out.mono ?_
      rintro e w1 ⟨A2, n2, c2, rfl, hp, hb⟩
      have HP := Lib.hid hp
      have HB := Lib.hid hb
      clear hp hb
      go_wp2
      go_ret
      exact ⟨A2, n2, c2, rfl, HP.out.mono (fun b hb => by have hb' := hb; simp at hb'; omega), ((Below.refl _ _).alloc (Nat.le_refl _) _).trans (HB.out.mono (by simp))⟩

set_option maxHeartbeats 400000 in
theorem copied_any {w : World} {A : Option Addr} {n c : Nat} {L : List Pr} (h : Prs w A n c L) (hm : Small L) (hn : n ≤ 1000) :
    Calls Try.prog 35 #[.slice A n c] w (MadeN w L) := by
  have H := Lib.hid (merge_nil h hm hn)
  clear h hm
  go_enter Try.func35, Try.ntmps35
  go_wp2_with fail
  refine H.out.mono ?_
  rintro e w1 ⟨A2, n2, c2, rfl, hp, hb⟩
  have HP := Lib.hid hp
  have HB := Lib.hid hb
  clear hp hb
  go_wp2
  go_ret
  exact ⟨A2, n2, c2, rfl, HP.out, HB.out⟩

set_option maxHeartbeats 2000000 in
theorem written_any {w : World} {A : Option Addr} {n c : Nat} {L : List Pr} {h : Qh} {r : Rq} (hp : Prs w A n c L) (hr : RqR w h r) (hs : smallQ r = true) (hf : fairB (r.key, r.val) = true) (hfit : Fit L) (hn : n ≤ 900) :
    Calls Try.prog 37 #[.slice A n c, rqV h r] w (MadeN w (writeQ L r)) := by
  obtain ⟨l1, l2, l3, l4⟩ := small_lens hs
  obtain ⟨W, hW, hWB, hWQ, hWs⟩ := box_q w h r
  have HD := Lib.hid (del_new h.c (hp.below hWB) (hr.1.below hWB) hfit.1 (by omega) (small_fit hfit))
  have HPU := Lib.hid (put_new h.c h.d (hp.below hWB) (hr.1.below hWB) (hr.2.1.below hWB) hfit.1 (by omega) (small_fit hfit) hf (by rw [← hr.1.1]; omega) (by rw [← hr.2.1.1]; omega))
  have HB := Lib.hid hWB
  have hWe := Lib.hid hW
  have hsz := Lib.hid hWs
  obtain ⟨k0, k1, k2, k3, k4, k5, k6, k7⟩ := hWQ.cells
  clear hp hr hs hf hfit hW hWB hWQ hWs l1 l2 l3 l4 k0 k1 k2 k3 k4 k5 k6 k7
  obtain ⟨cl, sq, kind, key, val, old, to_, limit⟩ := r
  obtain ⟨A1, n1, c1, B1, m1, d1, C1, o1, p1, D1, q1, s1⟩ := h
  unfold rqV
  dsimp only at *
  by_cases h3 : kind = 3
  · subst h3
    have HWQ := Lib.hid (show writeQ L ⟨cl, sq, 3, key, val, old, to_, limit⟩ = delL L key from rfl)
    clear HPU
    go_enter Try.func37, Try.ntmps37
    go_wp2_with fail
    rw [← hWe.out]
    refine HD.out.mono ?_
    rintro e w1 ⟨A2, n2, c2, rfl, hp, hb⟩
    have HP := Lib.hid hp
    have HB1 := Lib.hid hb
    clear hp hb HD
    go_wp2
    go_ret
    refine ⟨A2, n2, c2, rfl, ?_, HB.out.trans (HB1.out.mono HB.out.size)⟩
    rw [HWQ.out]
    exact HP.out.mono (fun b hb => by have := hsz.out; omega)
  · have HWQ := Lib.hid (show writeQ L ⟨cl, sq, kind, key, val, old, to_, limit⟩ = putL L key val from if_neg h3)
    have g3 : (kind == 3) = false := by simpa using h3
    clear HD h3
    go_enter Try.func37, Try.ntmps37
    go_wp2_with fail
    rw [← hWe.out]
    refine HPU.out.mono ?_
    rintro e w1 ⟨A2, n2, c2, rfl, hp, hb⟩
    have HP := Lib.hid hp
    have HB1 := Lib.hid hb
    clear hp hb HPU
    go_wp2
    go_ret
    refine ⟨A2, n2, c2, rfl, ?_, HB.out.trans (HB1.out.mono HB.out.size)⟩
    rw [HWQ.out]
    exact HP.out.mono (fun b hb => by have := hsz.out; omega)
end Go.Proofs.Ytdhgogepjedonaa
