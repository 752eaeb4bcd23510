/- The contract of slices.Concat of pairs: a row of its own, in new memory; nothing that was there is changed. Condition: what came in can be read; no more than 3 pieces, no more than 3000 pairs. -/
import Derived.Test.YtpicdokkdpbpdaaRc
namespace Go.Proofs.Ytpicdokkdpbpdaa
open Go.RowKit
set_option linter.unusedVariables false

/-- The sum, and the one list, of the first pieces. -/
def sumN (f : Nat → Nat) : Nat → Nat
  | 0 => 0
  | j + 1 => sumN f j + f j
def catL (f : Nat → List Pr) : Nat → List Pr
  | 0 => []
  | j + 1 => catL f j ++ f j
theorem sum_mono (f : Nat → Nat) {i j : Nat} (h : i ≤ j) : sumN f i ≤ sumN f j := by
  induction h with
  | refl => exact Nat.le_refl _
  | step h ih => exact Nat.le_trans ih (Nat.le_add_right _ _)

/-- Pieces: cells of block b, each a slice of pairs that can be read. -/
def Pieces (w : World) (b m : Nat) (A : Nat → Option Addr) (n c : Nat → Nat) (L : Nat → List Pr) : Prop :=
  b < w.heap.size ∧ ∀ j, j < m → w.cell? ⟨b, j, none⟩ = some (.slice (A j) (n j) (c j)) ∧ Prs w (A j) (n j) (c j) (L j)

theorem Pieces.below {w w' : World} {b m : Nat} {A : Nat → Option Addr} {n c : Nat → Nat} {L : Nat → List Pr} (h : Pieces w b m A n c L) (hb : Below w.heap.size w w') : Pieces w' b m A n c L :=
  ⟨Nat.lt_of_lt_of_le h.1 hb.size, fun j hj => ⟨(hb.cell (p := ⟨b, j, none⟩) h.1).trans (h.2 j hj).1, (h.2 j hj).2.below hb⟩⟩

/-- What Concat leaves: a row of its own. -/
def Catted (w : World) (L : List Pr) (e : Ending) (w' : World) : Prop := ∃ v n xs, e = .returned v ∧ w'.ownsRow w.heap.size 43 2 v n xs ∧ Reads w xs L ∧ Below w.heap.size w w'

def CatInv (w : World) (L : Nat → List Pr) (s j : Nat) (v : Value) (wr : World) : Prop :=
  ∃ xs, wr.ownsRow w.heap.size 43 2 v s xs ∧ Reads w xs (catL L j) ∧ Below w.heap.size w wr

set_option maxHeartbeats 2000000 in
theorem concat_any {w : World} {b m : Nat} {A : Nat → Option Addr} {n c : Nat → Nat} {L : Nat → List Pr} (h : Pieces w b m A n c L) (hm : m ≤ 3) (hs : sumN n m ≤ 3000) :
    Calls Try.prog 28 #[.slice (some ⟨b, 0, none⟩) m m] w (Catted w (catL L m)) := by
  have H := Lib.hid h
  have HS := Lib.hid hs
  clear h hs
  go_enter Try.func28, Try.ntmps28
  go_wp2
  go_loop [3, 11] (fun s i => ∃ j : Nat, j ≤ m ∧ i = .int .i64 j ∧ s = .int .i64 (sumN n j : Nat)) (fun _ i => m - (intOf i).toNat)
  case atStart => exact ⟨0, Nat.zero_le _, rfl, rfl⟩
  case round =>
    obtain ⟨j, hj, rfl, rfl⟩ := hrel
    by_cases hlt : j < m
    · obtain ⟨k0, _⟩ := H.out.2 j hlt
      have hle : sumN n j + n j ≤ 3000 := Nat.le_trans (sum_mono n (show j + 1 ≤ m from hlt)) HS.out
      have hsm : sumN n (j + 1) = sumN n j + n j := rfl
      have HSM := Lib.hid hsm
      clear hsm
      go_wp2
      go_round
      case rel => exact ⟨j + 1, by omega, by go_num, by rw [HSM.out]; go_num⟩
      case measure => simp [intOf]; omega
    · obtain rfl : j = m := by omega
      have HG := grow_nil (w := w) (sumN n j) HS.out
      have hsl := HS.out
      go_wp2_with fail
      refine HG.mono ?_
      rintro e w1 ⟨v, rfl, hown, hb⟩
      have HO := Lib.hid hown
      have HB := Lib.hid hb
      clear hown hb HG
      go_wp2
      go_loopw [6, 27] (fun v i wr => ∃ t : Nat, t ≤ j ∧ i = .int .i64 t ∧ CatInv w L (sumN n t) t v wr) (fun _ i _ => j - (intOf i).toNat)
      case atStart => exact ⟨0, Nat.zero_le _, rfl, [], HO.out, reads_nil w, HB.out⟩
      case round =>
        obtain ⟨t, ht, rfl, xs, hown, hr, hb⟩ := hrel
        have HO2 := Lib.hid hown
        have HR := Lib.hid hr
        have HB2 := Lib.hid hb
        clear hown hr hb
        by_cases htl : t < j
        · obtain ⟨k0, hp⟩ := H.out.2 t htl
          have k1 : wr.cell? ⟨b, t, none⟩ = some (.slice (A t) (n t) (c t)) := (HB2.out.cell (p := ⟨b, t, none⟩) H.out.1).trans k0
          have HP := Lib.hid hp
          have hle : sumN n t + n t ≤ 3000 := Nat.le_trans (sum_mono n (show t + 1 ≤ j from htl)) HS.out
          clear k0 hp
          go_wp2_with (at_builtin; refine wpList_append_prs rfl _ _ rfl w.heap.size _ (sumN n t) xs rfl HO2.out (A t) (n t) (c t) (L t) rfl HP.out HB2.out hle HB2.out.size ?_)
          intro v' w2 ys hr hown hg
          have HB3 := Lib.hid (own_below HB2.out HO2.out hg)
          have HO3 := Lib.hid hown
          have HR3 := Lib.hid (HR.out.append hr)
          clear hr hown hg
          go_wp2
          go_roundw
          case rel => exact ⟨t + 1, by omega, by go_num, _, HO3.out, HR3.out, HB3.out⟩
          case measure => simp [intOf]; omega
        · obtain rfl : t = j := by omega
          go_wp2
          go_ret
          exact ⟨_, _, xs, rfl, HO2.out, HR.out, HB2.out⟩
end Go.Proofs.Ytpicdokkdpbpdaa
