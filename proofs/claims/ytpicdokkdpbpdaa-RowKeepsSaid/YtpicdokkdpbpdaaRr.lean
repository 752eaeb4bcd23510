/- The contracts of package row's Put: what may not be is an error; else the row with the pair. Condition: what came in can be read; a row of no more than 1000 pairs; keys and values of at most 1000 bytes. -/
import Derived.Test.YtpicdokkdpbpdaaRq
namespace Go.Proofs.Ytpicdokkdpbpdaa
open Go.RowKit
set_option linter.unusedVariables false

set_option maxHeartbeats 1000000 in
theorem put_no {w : World} {A C D : Option Addr} {n c o p : Nat} (q r : Nat) {k v : List UInt8} (h' : Byt w C o k) (h'' : Byt w D p v) (hf : fairB (k, v) = false) :
    Calls Try.prog 15 #[.slice A n c, .slice C o q, .slice D p r] w fun e w' => e = .returned (.tuple #[.slice none 0 0, .bool false, .iface 39 (.int .i64 1)]) ∧ w = w' := by
  have HF := rowmay_any q r h' h''
  rw [hf] at HF
  clear h' h'' hf
  go_enter Try.func15, Try.ntmps15
  go_wp2_with (go_at_call 18; refine HF.mono ?_; rintro e w' ⟨rfl, rfl⟩)
  go_ret3
  exact ⟨rfl, rfl⟩

set_option maxHeartbeats 2000000 in
theorem put_yes {w : World} {A C D : Option Addr} {n c o p : Nat} (q r : Nat) {L : List Pr} {k v : List UInt8} (h : Prs w A n c L) (h' : Byt w C o k) (h'' : Byt w D p v) (hs : Srt L) (hn : n ≤ 1000) (hm : Small L) (hf : fairB (k, v) = true) (ho : o ≤ 1000) (hp : p ≤ 1000) :
    Calls Try.prog 15 #[.slice A n c, .slice C o q, .slice D p r] w (Putted w (putL L k v) (!hasB L k)) := by
  have HY := rowmay_any q r h' h''
  rw [hf] at HY
  have HF := find_any q h h' hs hn
  have hsk : Small [(k, v)] := by
    intro x hx
    simp at hx
    subst hx
    exact ⟨by rw [h'.1]; exact ho, by rw [h''.1]; exact hp⟩
  have HSK := Lib.hid hsk
  have H := Lib.hid h
  have H' := Lib.hid h'
  have H'' := Lib.hid h''
  have HP := Lib.hid (pos_le L k)
  have HL := Lib.hid h.len
  have HD := Lib.hid (put_is hs k v)
  have HPE := Lib.hid (pos_end hs k)
  have HM := Lib.hid hm
  clear h h' h'' hs hm hf hsk
  go_enter Try.func15, Try.ntmps15
  go_wp2_with fail
  refine HY.mono ?_
  rintro e w' ⟨rfl, rfl⟩
  clear HY
  go_wp2_with fail
  refine HF.mono ?_
  rintro e w1 ⟨rfl, hb⟩
  have HB := Lib.hid hb
  have H1 := Lib.hid (H.out.below hb)
  have HO := Lib.hid (one_prs q r (H'.out.below hb) (H''.out.below hb) 43)
  clear HF hb H
  generalize pos L k = P at HP HD HPE
  have hPn : P ≤ n := by have h1 := HP.out; rw [HL.out] at h1; exact h1
  have hPc : P ≤ c := Nat.le_trans hPn H1.out.2.1
  have hX : (if c = P then A else A.map (fun x => x.add (P * 2))) = cutA A P c := rfl
  have H2 := Lib.hid (H1.out.from (k := P) hPn)
  cases hh : hasB L k
  · rw [hh] at HD
    have hd : putL L k v = L.take P ++ [(k, v)] ++ L.drop P := by rw [HD.out]; simp
    have HE := Lib.hid hd
    have HH := Lib.hid hh
    clear hd hh HPE HD
    have HT := told_any (pieces3 ((H1.out.upto hPn).alloc (.cells #[.slice C o q, .slice D p r] 43)) HO.out (H2.out.alloc (.cells #[.slice C o q, .slice D p r] 43)) 22) (by omega) (show sumN _ 3 ≤ 3000 by simp [sumN, pick3]; omega) (show Small (catL _ 3) from small_app (small_app (small_take HM.out P) HSK.out) (small_drop HM.out P))
    rw [show (w1.alloc (.cells #[.slice C o q, .slice D p r] 43)).heap.size = w1.heap.size + 1 by simp] at HT
    have HT := Lib.hid HT
    go_wp2_with fail
    refine HT.out.mono ?_
    rintro e w2 ⟨A2, n2, c2, rfl, hp, hb2⟩
    have HP2 := Lib.hid hp
    have HB2 := Lib.hid hb2
    clear hp hb2 hX
    go_wp2
    go_ret3
    refine ⟨A2, n2, c2, by rw [HH.out]; rfl, ?_, ((HB.out.alloc HB.out.size _).alloc (by have := HB.out.size; simp; omega) _).trans (HB2.out.mono (by have := HB.out.size; simp; omega))⟩
    rw [HE.out]
    exact HP2.out
  · rw [hh] at HD
    have hP1 : P < n := by
      have h2 := HPE.out
      rw [hh, HL.out] at h2
      rcases Nat.lt_or_ge P n with h3 | h3
      · exact h3
      · cases h2 (by omega)
    have hd : putL L k v = L.take P ++ [(k, v)] ++ (L.drop P).drop 1 := by rw [HD.out]; simp
    have HE := Lib.hid hd
    have HH := Lib.hid hh
    clear hd hh HPE HD
    have H3 := Lib.hid (H2.out.from (k := 1) (by omega))
    have hX2 : (if c - P = 1 then cutA A P c else (cutA A P c).map (fun x => (⟨x.block, x.off + 2, none⟩ : Addr))) = cutA (cutA A P c) 1 (c - P) := rfl
    have s1 : 1 ≤ n - P := by omega
    have HT := told_any (pieces3 ((H1.out.upto hPn).alloc (.cells #[.slice C o q, .slice D p r] 43)) HO.out (H3.out.alloc (.cells #[.slice C o q, .slice D p r] 43)) 22) (by omega) (show sumN _ 3 ≤ 3000 by simp [sumN, pick3]; omega) (show Small (catL _ 3) from small_app (small_app (small_take HM.out P) HSK.out) (small_drop (small_drop HM.out P) 1))
    rw [show (w1.alloc (.cells #[.slice C o q, .slice D p r] 43)).heap.size = w1.heap.size + 1 by simp] at HT
    have HT := Lib.hid HT
    go_wp2_with fail
    refine HT.out.mono ?_
    rintro e w2 ⟨A2, n2, c2, rfl, hp, hb2⟩
    have HP2 := Lib.hid hp
    have HB2 := Lib.hid hb2
    clear hp hb2 hX hX2 s1
    go_wp2
    go_ret3
    refine ⟨A2, n2, c2, by rw [HH.out]; rfl, ?_, ((HB.out.alloc HB.out.size _).alloc (by have := HB.out.size; simp; omega) _).trans (HB2.out.mono (by have := HB.out.size; simp; omega))⟩
    rw [HE.out]
    exact HP2.out
end Go.Proofs.Ytpicdokkdpbpdaa
