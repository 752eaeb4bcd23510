/- Contracts of package row's Put and Delete. Condition: what came in can be read; a row of no more than 1000 pairs; keys and values of at most 1000 bytes. -/
import Derived.Test.YtpicdokkdpbpdaaRt
import Derived.IntWalk
namespace Go.Proofs.Ytpicdokkdpbpdaa
open Go.RowKit
set_option linter.unusedVariables false

def pick3 {α : Type} (x y z : α) : Nat → α
  | 0 => x
  | 1 => y
  | _ => z

/-- What Delete leaves. -/
def Deld (w : World) (L : List Pr) (b : Bool) (e : Ending) (w' : World) : Prop := ∃ A n c, e = .returned (.tuple #[.slice A n c, .bool b]) ∧ Prs w' A n c L ∧ Below w.heap.size w w'
/-- What Put leaves. -/
def Putted (w : World) (L : List Pr) (b : Bool) (e : Ending) (w' : World) : Prop := ∃ A n c, e = .returned (.tuple #[.slice A n c, .bool b, .nilIface]) ∧ Prs w' A n c L ∧ Below w.heap.size w w'

theorem small_take {L : List Pr} (h : Small L) (i : Nat) : Small (L.take i) := fun p hp => h p (List.mem_of_mem_take hp)
theorem small_drop {L : List Pr} (h : Small L) (i : Nat) : Small (L.drop i) := fun p hp => h p (List.mem_of_mem_drop hp)
theorem small_app {L M : List Pr} (h : Small L) (h' : Small M) : Small (L ++ M) := fun p hp => (List.mem_append.1 hp).elim (h p) (h' p)

/-- One, two, three pieces in a new block. -/
theorem pieces1 {w : World} {A : Option Addr} {n c : Nat} {L : List Pr} (h : Prs w A n c L) (T : TypeId) :
    Pieces (w.alloc (.cells #[.slice A n c] T)) w.heap.size 1 (pick3 A A A) (pick3 n n n) (pick3 c c c) (pick3 L L L) := by
  refine ⟨by simp, fun j hj => ?_⟩
  obtain rfl : j = 0 := by omega
  exact ⟨by simp [pick3], h.alloc _⟩
theorem pieces2 {w : World} {A B : Option Addr} {n c m d : Nat} {L M : List Pr} (h : Prs w A n c L) (h' : Prs w B m d M) (T : TypeId) :
    Pieces (w.alloc (.cells #[.slice A n c, .slice B m d] T)) w.heap.size 2 (pick3 A B B) (pick3 n m m) (pick3 c d d) (pick3 L M M) := by
  refine ⟨by simp, fun j hj => ?_⟩
  obtain rfl | rfl : j = 0 ∨ j = 1 := by omega
  · exact ⟨by simp [pick3], h.alloc _⟩
  · exact ⟨by simp [pick3], h'.alloc _⟩
theorem pieces3 {w : World} {A B C : Option Addr} {n c m d o q : Nat} {L M N : List Pr} (h : Prs w A n c L) (h' : Prs w B m d M) (h'' : Prs w C o q N) (T : TypeId) :
    Pieces (w.alloc (.cells #[.slice A n c, .slice B m d, .slice C o q] T)) w.heap.size 3 (pick3 A B C) (pick3 n m o) (pick3 c d q) (pick3 L M N) := by
  refine ⟨by simp, fun j hj => ?_⟩
  obtain rfl | rfl | rfl : j = 0 ∨ j = 1 ∨ j = 2 := by omega
  · exact ⟨by simp [pick3], h.alloc _⟩
  · exact ⟨by simp [pick3], h'.alloc _⟩
  · exact ⟨by simp [pick3], h''.alloc _⟩

/-- One pair in a new block. -/
theorem one_prs {w : World} {C D : Option Addr} {o p : Nat} (q r : Nat) {k v : List UInt8} (h : Byt w C o k) (h' : Byt w D p v) (T : TypeId) :
    Prs (w.alloc (.cells #[.slice C o q, .slice D p r] T)) (some ⟨w.heap.size, 0, none⟩) 1 1 [(k, v)] := by
  refine ⟨rfl, Nat.le_refl _, by unfold maxLen; omega, (fun e => by cases e), fun _ => ⟨w.heap.size, 0, rfl, by simp, fun j hj => ?_⟩⟩
  obtain rfl : j = 0 := by omega
  exact ⟨C, o, q, D, p, r, by simp, by simp, h.alloc _, h'.alloc _⟩

set_option maxHeartbeats 2000000 in
theorem del_any {w : World} {A C : Option Addr} {n c o : Nat} (q : Nat) {L : List Pr} {k : List UInt8} (h : Prs w A n c L) (h' : Byt w C o k) (hs : Srt L) (hn : n ≤ 1000) (hm : Small L) :
    Calls Try.prog 12 #[.slice A n c, .slice C o q] w (Deld w (delL L k) (hasB L k)) := by
  have HF := find_any q h h' hs hn
  have H := Lib.hid h
  have H' := Lib.hid h'
  have HP := Lib.hid (pos_le L k)
  have HL := Lib.hid h.len
  have HD := Lib.hid (del_is hs k)
  have HPE := Lib.hid (pos_end hs k)
  have HM := Lib.hid hm
  clear h h' hs hm
  go_enter Try.func12, Try.ntmps12
  go_wp2_with fail
  refine HF.mono ?_
  rintro e w1 ⟨rfl, hb⟩
  have HB := Lib.hid hb
  have H1 := Lib.hid (H.out.below hb)
  clear HF hb H
  generalize pos L k = P at HP HD HPE
  cases hh : hasB L k
  · rw [hh] at HD
    have hd : delL L k = L := by rw [HD.out]; rfl
    have HD := Lib.hid hd
    have HT := Lib.hid (told_any (pieces1 H1.out 22) (by omega) (show sumN _ 1 ≤ 3000 by simp [sumN, pick3]; omega) (show Small (catL _ 1) from HM.out))
    have HH := Lib.hid hh
    clear hd hh
    go_wp2_with fail
    refine HT.out.mono ?_
    rintro e w2 ⟨A2, n2, c2, rfl, hp, hb2⟩
    have HP2 := Lib.hid hp
    have HB2 := Lib.hid hb2
    clear hp hb2
    go_wp2
    go_ret2
    refine ⟨A2, n2, c2, by rw [HH.out]; rfl, ?_, (HB.out.alloc HB.out.size _).trans (HB2.out.mono (by have := HB.out.size; simp; omega))⟩
    rw [HD.out]
    exact HP2.out
  · rw [hh] at HD
    have hP1 : P < n := by
      have h1 := HP.out
      have h2 := HPE.out
      rw [hh, HL.out] at h2
      rw [HL.out] at h1
      rcases Nat.lt_or_ge P n with h3 | h3
      · exact h3
      · cases h2 (by omega)
    have hPc : P ≤ c := Nat.le_trans (Nat.le_of_lt hP1) H1.out.2.1
    have hd : delL L k = L.take P ++ L.drop (P + 1) := by rw [HD.out]; rfl
    have HD := Lib.hid hd
    have HH := Lib.hid hh
    clear hd hh HPE
    have hp2 : Pieces (w1.alloc (.cells #[.slice A P c, .slice (cutA A (P + 1) c) (n - (P + 1)) (c - (P + 1))] 22)).drew w1.heap.size 2 _ _ _ _ := pieces2 (H1.out.upto (Nat.le_of_lt hP1)) (H1.out.from (k := P + 1) hP1) 22
    have HT := told_any hp2 (by omega) (show sumN _ 2 ≤ 3000 by simp [sumN, pick3]; omega) (show Small (catL _ 2) from small_app (small_take HM.out P) (small_drop HM.out (P + 1)))
    clear hp2
    have s1 : IntKind.i64.wrap ((P : Int) + 1) = (P : Int) + 1 := IntWalk.i64_in _ (by omega)
    have s2 : (0 : Int) ≤ (P : Int) + 1 := by omega
    have s3 : ((P : Int) + 1).toNat = P + 1 := by omega
    have s4 : (P : Int) + 1 ≤ n := by omega
    have hX : (if c = P + 1 then A else A.map (fun x => x.add ((P + 1) * 2))) = cutA A (P + 1) c := rfl
    have HT := Lib.hid HT
    go_wp2
    go_still_tail 7, (by kernel_rfl)
    clear s1 s2 s3 s4 hX
    change wpList _ _ _ _ _ w1.drew
    go_wp2_with fail
    refine HT.out.mono ?_
    rintro e w2 ⟨A2, n2, c2, rfl, hp, hb2⟩
    have HP2 := Lib.hid hp
    have HB2 := Lib.hid hb2
    clear hp hb2
    go_wp2
    go_ret2
    refine ⟨A2, n2, c2, by rw [HH.out]; rfl, ?_, ((HB.out.alloc HB.out.size _).drew).trans (HB2.out.mono (by have := HB.out.size; simp; omega))⟩
    rw [HD.out]
    exact HP2.out
end Go.Proofs.Ytpicdokkdpbpdaa
