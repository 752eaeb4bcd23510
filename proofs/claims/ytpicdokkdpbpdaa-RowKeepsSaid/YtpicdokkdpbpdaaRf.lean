/- Contracts of row.Find (with slices.BinarySearchFunc and its closure) and of the document's own Find: the key's place in a row, and whether it is there; nothing that was there is changed. Condition: a row (keys rise), no longer than 1000 pairs. -/
import Derived.Test.YtpicdokkdpbpdaaRy
namespace Go.Proofs.Ytpicdokkdpbpdaa
open Go.RowKit
set_option linter.unusedVariables false

theorem Drawn.below {w w' : World} (h : Drawn w w') (B : Nat) : Below B w w' := by
  obtain ⟨d, rfl⟩ := h
  exact ⟨rfl, rfl, rfl, Nat.le_refl _, fun _ _ => rfl⟩
theorem ret_two {i j : Int} {a b : Bool} (h : i = j) (h' : a = b) : Ending.returned (.tuple #[.int .i64 i, .bool a]) = .returned (.tuple #[.int .i64 j, .bool b]) := by rw [h, h']

set_option maxHeartbeats 400000 in
theorem closure_any {w : World} {A B C : Option Addr} {n m o : Nat} (c d q : Nat) {k v x : List UInt8} (h : Byt w A n k) (h' : Byt w C o x) :
    Calls Try.prog 22 #[.agg #[.slice A n c, .slice B m d], .slice C o q] w fun e w' => e = .returned (.int .i64 (cmpB k x)) ∧ Below w.heap.size w w' := by
  have H := Lib.hid (fun ob => compare_any c q (h.alloc ob) (h'.alloc ob))
  clear h h'
  go_enter Try.func22, Try.ntmps22
  go_wp2_with (go_at_call 19; refine (H.out _).mono ?_; rintro e w' ⟨rfl, rfl⟩)
  go_ret
  exact ⟨rfl, (Below.refl _ _).alloc (Nat.le_refl _) _⟩

/-- How far the search has come. -/
def Srch (L : List Pr) (k : List UInt8) (i j : Nat) : Prop := i ≤ pos L k ∧ pos L k ≤ j

theorem meas_up (i j : Nat) (h : i < j) : (intOf (.int .i64 (j : Int))).toNat - (intOf (.int .i64 (((i : Int) + (j : Int)) / 2 + 1))).toNat < (intOf (.int .i64 (j : Int))).toNat - (intOf (.int .i64 (i : Int))).toNat := by
  show (j : Int).toNat - (((i : Int) + (j : Int)) / 2 + 1).toNat < (j : Int).toNat - (i : Int).toNat
  omega
theorem meas_down (i j : Nat) (h : i < j) : (intOf (.int .i64 (((i : Int) + (j : Int)) / 2))).toNat - (intOf (.int .i64 (i : Int))).toNat < (intOf (.int .i64 (j : Int))).toNat - (intOf (.int .i64 (i : Int))).toNat := by
  show (((i : Int) + (j : Int)) / 2).toNat - (i : Int).toNat < (j : Int).toNat - (i : Int).toNat
  omega
theorem mid_cast (i j : Nat) : ((i : Int) + (j : Int)) / 2 = (((i + j) / 2 : Nat) : Int) := by omega

set_option maxHeartbeats 2000000 in
theorem search_any {w : World} {A C : Option Addr} {n c o : Nat} (q : Nat) {L : List Pr} {k : List UInt8} (h : Prs w A n c L) (h' : Byt w C o k) (hs : Srt L) (hn : n ≤ 1000) :
    Calls Try.prog 21 #[.slice A n c, .slice C o q, .func (.func 22) #[] #[]] w fun e w' => e = .returned (.tuple #[.int .i64 (pos L k), .bool (hasB L k)]) ∧ Below w.heap.size w w' := by
  have H := Lib.hid h
  have H' := Lib.hid h'
  have HS := Lib.hid hs
  have hlen := h.len
  have HL := Lib.hid hlen
  clear h h' hs hlen
  have HP := Lib.hid (pos_le L k)
  go_enter Try.func21, Try.ntmps21
  go_wp2
  go_loopw [9, 10] (fun s9 s10 wr => ∃ i j : Nat, s9 = .int .i64 i ∧ s10 = .int .i64 j ∧ i ≤ j ∧ j ≤ n ∧ Srch L k i j ∧ Below w.heap.size w wr) (fun s9 s10 _ => (intOf s10).toNat - (intOf s9).toNat)
  case atStart => exact ⟨0, n, rfl, rfl, Nat.zero_le _, Nat.le_refl _, ⟨Nat.zero_le _, by rw [← HL.out]; exact HP.out⟩, Below.refl _ _⟩
  case round =>
    obtain ⟨i, j, rfl, rfl, hij, hjn, hsr, hb⟩ := hrel
    have HSR := Lib.hid hsr
    clear hsr
    by_cases hlt : i < j
    · obtain ⟨b, oo, rfl, hbl, A1, n1, c1, B1, m1, d1, k0, k1, y1, y2⟩ := (H.out.below hb).at_ (show (i + j) / 2 < n by omega)
      have HC := closure_any (B := B1) (m := m1) (d := d1) (v := []) c1 q y1 (H'.out.below hb)
      clear y1 y2
      have hpl := pos_lt HS.out k (show (i + j) / 2 < L.length by have := HL.out; omega)
      generalize gt L ((i + j) / 2) = y at HC hpl
      have HPL := Lib.hid hpl
      clear hpl
      have HLT := Lib.hid (cmp_lt y.1 k)
      by_cases hy : cmpB y.1 k < 0
      · have h1 : (i + j) / 2 < pos L k := by
          have := HPL.out
          rw [← HLT.out] at this
          simpa [hy] using this
        have H1 := Lib.hid h1
        clear h1
        go_wp2_with fail
        refine HC.mono ?_
        rintro e w' ⟨rfl, hb'⟩
        go_wp2
        exact ⟨⟨(i + j) / 2 + 1, j, by rw [mid_cast]; rfl, rfl, by omega, hjn, ⟨H1.out, HSR.out.2⟩, hb.trans (hb'.mono hb.size)⟩, meas_up i j hlt⟩
      · have h1 : ¬ (i + j) / 2 < pos L k := by
          have := HPL.out
          rw [← HLT.out] at this
          simpa [hy] using this
        have H1 := Lib.hid h1
        clear h1
        go_wp2_with fail
        refine HC.mono ?_
        rintro e w' ⟨rfl, hb'⟩
        go_wp2
        exact ⟨⟨i, (i + j) / 2, rfl, by rw [mid_cast], by omega, by omega, ⟨HSR.out.1, Nat.le_of_not_lt H1.out⟩, hb.trans (hb'.mono hb.size)⟩, meas_down i j hlt⟩
    · obtain rfl : j = i := by omega
      have hp : pos L k = j := by have := HSR.out; unfold Srch at this; omega
      have HPJ := Lib.hid hp
      clear hp
      by_cases hjl : j < n
      · obtain ⟨b, oo, rfl, hbl, A1, n1, c1, B1, m1, d1, k0, k1, y1, y2⟩ := (H.out.below hb).at_ hjl
        have HC := closure_any (B := B1) (m := m1) (d := d1) (v := []) c1 q y1 (H'.out.below hb)
        clear y1 y2
        have hsm := pos_same HS.out k (by rw [HPJ.out, HL.out]; exact hjl)
        rw [HPJ.out] at hsm
        generalize gt L j = y at HC hsm
        have HSM := Lib.hid hsm
        clear hsm
        have HZ := Lib.hid (cmp_zero y.1 k)
        go_wp2_with fail
        refine HC.mono ?_
        rintro e w' ⟨rfl, hb'⟩
        go_wp2
        go_ret2
        exact ⟨ret_two (by rw [HPJ.out]) (by rw [← HSM.out, ← HZ.out]), hb.trans (hb'.mono hb.size)⟩
      · have hz := pos_end HS.out k (by rw [HPJ.out, HL.out]; omega)
        have HZ := Lib.hid hz
        clear hz
        go_wp2
        go_ret2
        exact ⟨ret_two (by rw [HPJ.out]) (by rw [HZ.out]), hb⟩

set_option maxHeartbeats 400000 in
theorem find_any {w : World} {A C : Option Addr} {n c o : Nat} (q : Nat) {L : List Pr} {k : List UInt8} (h : Prs w A n c L) (h' : Byt w C o k) (hs : Srt L) (hn : n ≤ 1000) :
    Calls Try.prog 10 #[.slice A n c, .slice C o q] w fun e w' => e = .returned (.tuple #[.int .i64 (pos L k), .bool (hasB L k)]) ∧ Below w.heap.size w w' := by
  have H := Lib.hid (search_any q h h' hs hn)
  clear h h' hs
  go_enter Try.func10, Try.ntmps10
  go_wp2_with (go_at_call 21; refine H.out.mono ?_; rintro e w' ⟨rfl, hb⟩)
  go_ret2
  exact ⟨rfl, hb⟩
end Go.Proofs.Ytpicdokkdpbpdaa
