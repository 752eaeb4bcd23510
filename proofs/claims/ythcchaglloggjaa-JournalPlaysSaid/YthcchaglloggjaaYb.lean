/- Contracts of slices.swapRangeCmpFunc and rotateCmpFunc at numbers: they turn nothing but the row. Condition: the row lies in a block of its own, no longer than 1000. -/
import Derived.Test.YthcchaglloggjaaYa
import Derived.BigRegion
namespace Go.Proofs.Ythcchaglloggjaa
open Go.RowKit
set_option linter.unusedVariables false
set_option maxRecDepth 100000

/-- A block whose first n cells hold the numbers that g tells. -/
def RowG (w : World) (B n : Nat) (g : Nat → Nat) : Prop := B < w.heap.size ∧ ∀ k, k < n → w.cell? ⟨B, k, none⟩ = some (.int .i64 (g k)) ∧ w.frozen? ⟨B, k, none⟩ = false
theorem RowG.at_ {w : World} {B n k : Nat} {g : Nat → Nat} (h : RowG w B n g) (hk : k < n) : w.cell? ⟨B, k, none⟩ = some (.int .i64 (g k)) := (h.2 k hk).1
theorem RowG.fr {w : World} {B n k : Nat} {g : Nat → Nat} (h : RowG w B n g) (hk : k < n) : w.frozen? ⟨B, k, none⟩ = false := (h.2 k hk).2
theorem frozen_block {w w' : World} {a : Addr} (h : w'.heap[a.block]? = w.heap[a.block]?) : w'.frozen? a = w.frozen? a := by
  unfold World.frozen?
  rw [h]
theorem RowG.below {w w' : World} {B n : Nat} {g : Nat → Nat} (h : RowG w B n g) (hb : Below w.heap.size w w') : RowG w' B n g :=
  ⟨Nat.lt_of_lt_of_le h.1 hb.size, fun k hk => ⟨(hb.cell (p := ⟨B, k, none⟩) h.1).trans (h.at_ hk), (frozen_block (a := ⟨B, k, none⟩) (hb.block B h.1)).trans (h.fr hk)⟩⟩
theorem RowG.swap {w : World} {B n i j : Nat} {g : Nat → Nat} (h : RowG w B n g) (hi : i < n) (hj : j < n) : RowG ((w.setCell ⟨B, i, none⟩ (.int .i64 (g j))).setCell ⟨B, j, none⟩ (.int .i64 (g i))) B n (swpF g i j) := by
  refine ⟨by simpa [World.setCell] using h.1, fun k hk => ⟨?_, ?_⟩⟩
  · unfold swpF
    by_cases kj : k = j
    · subst kj
      have hc : (w.setCell ⟨B, i, none⟩ (.int .i64 (g k))).cell? ⟨B, k, none⟩ = some (.int .i64 (g k)) := by
        by_cases ki : k = i
        · subst ki
          exact World.cell?_setCell_same _ _ _ (h.at_ hk)
        · rw [World.cell?_setCell_other _ _ _ _ (by intro e; simp only [Addr.mk.injEq] at e; omega)]
          exact h.at_ hk
      rw [World.cell?_setCell_same _ _ _ hc]
      by_cases ki : k = i
      · rw [if_pos ki, ki]
      · rw [if_neg ki, if_pos rfl]
    · rw [World.cell?_setCell_other _ _ _ _ (by intro e; simp only [Addr.mk.injEq] at e; omega)]
      by_cases ki : k = i
      · subst ki
        rw [if_pos rfl]
        exact World.cell?_setCell_same _ _ _ (h.at_ hk)
      · rw [if_neg ki, if_neg kj, World.cell?_setCell_other _ _ _ _ (by intro e; simp only [Addr.mk.injEq] at e; omega)]
        exact h.at_ hk
  · rw [World.frozen?_setCell, World.frozen?_setCell]
    exact h.fr hk
theorem RowG.second {w : World} {B n i j : Nat} {g : Nat → Nat} (h : RowG w B n g) (hj : j < n) (hne : j ≠ i) (v : Value) : (w.setCell ⟨B, i, none⟩ v).cell? ⟨B, j, none⟩ = some (.int .i64 (g j)) :=
  (World.cell?_setCell_other _ _ _ _ (by intro e; simp only [Addr.mk.injEq] at e; omega)).trans (h.at_ hj)

theorem swp_below {N B : Nat} {a w : World} (h : Below N a w) (hB : N ≤ B) (i j : Nat) (u v : Value) : Below N a ((w.setCell ⟨B, i, none⟩ u).setCell ⟨B, j, none⟩ v) := (h.setCell hB _).setCell hB _
/-- What turns nothing but a row of its own: whatever lies below N stays. -/
def SortO (N B n : Nat) (w : World) (g : Nat → Nat) (e : Ending) (w' : World) : Prop := e = .returned (.tuple #[]) ∧ RowG w' B n g ∧ Below N w w'

set_option maxHeartbeats 4000000 in
theorem srange_any {w : World} {N B n c a b m : Nat} {g : Nat → Nat} (h : RowG w B n g) (hN : N ≤ B) (hn : n ≤ 1000) (hab : a + m ≤ b) (hb : b + m ≤ n) (v : Value) :
    Calls Try.prog 87 #[.slice (some ⟨B, 0, none⟩) n c, .int .i64 a, .int .i64 b, .int .i64 m, v] w (SortO N B n w (srF g a b m)) := by
  have H := Lib.hid h
  have HN := Lib.hid hN
  clear h hN
  go_enter Try.func87, Try.ntmps87
  go_wp2
  go_loopw [10] (fun s wr => ∃ i : Nat, i ≤ m ∧ s = .int .i64 i ∧ RowG wr B n (srF g a b i) ∧ Below N w wr) (fun s _ => m - (intOf s).toNat)
  case atStart => exact ⟨0, Nat.zero_le _, rfl, by rw [sr_zero]; exact H.out, Below.refl _ _⟩
  case round =>
    obtain ⟨i, hi, rfl, hg, hbl⟩ := hrel
    have HG := Lib.hid hg
    have HB := Lib.hid hbl
    clear hg hbl
    by_cases hlt : i < m
    · obtain ⟨x, hx⟩ : ∃ x : Nat, x = a + i := ⟨_, rfl⟩
      obtain ⟨y, hy⟩ : ∃ y : Nat, y = b + i := ⟨_, rfl⟩
      have hxn : x < n := by omega
      have hyn : y < n := by omega
      have hne : y ≠ x := by omega
      have cx := HG.out.at_ hxn
      have cy := HG.out.at_ hyn
      have fx := HG.out.fr hxn
      have fy := HG.out.fr hyn
      have cz := HG.out.second (i := x) hyn hne (.int .i64 (srF g a b i y))
      have HS := Lib.hid (show RowG _ B n (srF g a b (i + 1)) from by
        have := HG.out.swap hxn hyn
        rw [hx, hy, sr_succ hab hlt] at this
        rw [← hx, ← hy] at this
        exact this)
      have ex : (a : Int) + (i : Int) = (x : Int) := by omega
      have ey : (b : Int) + (i : Int) = (y : Int) := by omega
      generalize srF g a b i x = p at cx HS cz
      generalize srF g a b i y = q at cy HS cz
      have HS2 := Lib.hid (And.intro (HS.out.below (Below.refl _ _).drew) (swp_below HB.out HN.out x y (.int .i64 q) (.int .i64 p)).drew)
      clear hx hy HS
      go_wp2_with fail
      go_region
      clear cx cy fx fy cz
      generalize ((wr.setCell ⟨B, x, none⟩ (.int .i64 q)).setCell ⟨B, y, none⟩ (.int .i64 p)).drew = w3 at HS2 ⊢
      go_wp2
      go_roundw
      case rel => exact ⟨i + 1, by omega, by go_num, HS2.out⟩
      case measure => simp [intOf]; omega
    · obtain rfl : i = m := by omega
      go_wp2
      go_end0
      exact ⟨rfl, HG.out, HB.out⟩

set_option maxHeartbeats 4000000 in
theorem rotate_any {w : World} {N B n c a m b : Nat} {g : Nat → Nat} (h : RowG w B n g) (hN : N ≤ B) (hn : n ≤ 1000) (h1 : a < m) (h2 : m < b) (hb : b ≤ n) (v : Value) :
    Calls Try.prog 85 #[.slice (some ⟨B, 0, none⟩) n c, .int .i64 a, .int .i64 m, .int .i64 b, v] w (SortO N B n w (rotF g a m b)) := by
  have H := Lib.hid h
  have HN := Lib.hid hN
  clear h hN
  have ei : (m : Int) - (a : Int) = ((m - a : Nat) : Int) := by omega
  have ej : (b : Int) - (m : Int) = ((b - m : Nat) : Int) := by omega
  go_enter Try.func85, Try.ntmps85
  go_wp2
  go_loopw [10, 11] (fun s t wr => ∃ (i j : Nat) (f : Nat → Nat), s = .int .i64 i ∧ t = .int .i64 j ∧ 0 < i ∧ 0 < j ∧ i ≤ m ∧ m + j ≤ n ∧ i + j ≤ n ∧ RowG wr B n f ∧ Below N w wr ∧ Hid (rotF f (m - i) m (m + j) = rotF g a m b)) (fun s t _ => (intOf s).toNat + (intOf t).toNat)
  case atStart => exact ⟨m - a, b - m, g, rfl, rfl, by omega, by omega, by omega, by omega, by omega, H.out, Below.refl _ _, by rw [show m - (m - a) = a by omega, show m + (b - m) = b by omega]; exact Lib.hid rfl⟩
  case round =>
    clear ei ej
    obtain ⟨i, j, f, rfl, rfl, hi, hj, him, hjn, hij, hf, hbl, HE⟩ := hrel
    have HF := Lib.hid hf
    have HB := Lib.hid hbl
    clear hf hbl
    rcases Nat.lt_trichotomy i j with c1 | c1 | c1
    · have HSR := Lib.hid (srange_any (c := c) HF.out HN.out hn (show (m - i) + i ≤ m + j - i by omega) (show m + j - i + i ≤ n by omega) v)
      have HR := Lib.hid (rot_right (g := f) c1 him)
      have e1 : (m : Int) - (i : Int) = ((m - i : Nat) : Int) := by omega
      have e2 : (m : Int) + (j : Int) - (i : Int) = ((m + j - i : Nat) : Int) := by omega
      have e3 : ((i : Int) != (j : Int)) = true := by simp; omega
      go_wp2_with fail
      refine HSR.out.mono ?_
      rintro e w2 ⟨rfl, hf2, hb2⟩
      have HF2 := Lib.hid hf2
      have HB2 := Lib.hid (HB.out.trans hb2)
      clear hf2 hb2 HSR e1 e2 e3
      go_wp2
      go_roundw
      case rel => exact ⟨i, j - i, _, rfl, by go_num, hi, by omega, him, by omega, by omega, HF2.out, HB2.out, Lib.hid (HR.out.trans HE.out)⟩
      case measure => simp [intOf]; omega
    · subst c1
      have HSR := Lib.hid (srange_any (c := c) HF.out HN.out hn (show (m - i) + i ≤ m by omega) (show m + i ≤ n by omega) v)
      have HR := Lib.hid (rot_even (g := f) him)
      have e1 : (m : Int) - (i : Int) = ((m - i : Nat) : Int) := by omega
      have e3 : ((i : Int) != (i : Int)) = false := by simp
      go_wp2_with fail
      refine HSR.out.mono ?_
      rintro e w2 ⟨rfl, hf2, hb2⟩
      have HF2 := Lib.hid hf2
      have HB2 := Lib.hid (HB.out.trans hb2)
      clear hf2 hb2 HSR e1 e3
      go_wp2
      go_end0
      exact ⟨rfl, by rw [← HE.out, ← HR.out]; exact HF2.out, HB2.out⟩
    · have HSR := Lib.hid (srange_any (c := c) HF.out HN.out hn (show (m - i) + j ≤ m by omega) (show m + j ≤ n by omega) v)
      have HR := Lib.hid (rot_left (g := f) c1 him)
      have e1 : (m : Int) - (i : Int) = ((m - i : Nat) : Int) := by omega
      have e3 : ((i : Int) != (j : Int)) = true := by simp; omega
      go_wp2_with fail
      refine HSR.out.mono ?_
      rintro e w2 ⟨rfl, hf2, hb2⟩
      have HF2 := Lib.hid hf2
      have HB2 := Lib.hid (HB.out.trans hb2)
      clear hf2 hb2 HSR e1 e3
      go_wp2
      go_roundw
      case rel => exact ⟨i - j, j, _, by go_num, rfl, by omega, hj, by omega, hjn, by omega, HF2.out, HB2.out, Lib.hid (HR.out.trans HE.out)⟩
      case measure => simp [intOf]; omega
end Go.Proofs.Ythcchaglloggjaa
