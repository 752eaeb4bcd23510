/- Contracts of the arena's Get and Set. Condition: at most 10000 numbers; no list of a node longer than 1000. -/
import Derived.Test.YtbphjhmmdkaggaaNf
namespace Go.Proofs.Ytbphjhmmdkaggaa
open Go.RowKit
set_option linter.unusedVariables false

/-- What Get tells. -/
def gotNd (L : List (Option Nd)) (i : Int) : Nd := if usedB L i then (lat L i.toNat).getD nd0 else nd0
def Got (w : World) (L : List (Option Nd)) (i : Int) (e : Ending) (w' : World) : Prop :=
  ∃ h, e = .returned (.tuple #[ndV h (gotNd L i), .bool (usedB L i)]) ∧ On (w.heap.size ≤ ·) w' (NdR · h (gotNd L i)) ∧ Below w.heap.size w w'

/-- The same, and the kids are a row of one's own. -/
def GotO (w : World) (L : List (Option Nd)) (i : Int) (e : Ending) (w' : World) : Prop :=
  ∃ h, e = .returned (.tuple #[ndV h (gotNd L i), .bool (usedB L i)]) ∧ On (w.heap.size ≤ ·) w' (NdR · h (gotNd L i)) ∧ Below w.heap.size w w' ∧ w'.ownsRow (w.heap.size + 1) 3 1 (.slice h.K h.k h.e) h.k ((gotNd L i).kids.map intV)
theorem alloc_sz (w : World) (o : Obj) : (w.alloc o).heap.size = w.heap.size + 1 := by simp
theorem five_agree {C : Nat → Prop} (w : World) {b : Nat} (o : Nat) (u1 u2 u3 u4 u5 : Value) (hb : ¬ C b) :
    Agree C w (((((w.setCell ⟨b, o, none⟩ u1).setCell ⟨b, o + 1, none⟩ u2).setCell ⟨b, o + 2, none⟩ u3).setCell ⟨b, o + 3, none⟩ u4).setCell ⟨b, o + 4, none⟩ u5) :=
  ((((agree_set w ⟨b, o, none⟩ u1 hb).trans (agree_set _ ⟨b, o + 1, none⟩ u2 hb)).trans (agree_set _ ⟨b, o + 2, none⟩ u3 hb)).trans (agree_set _ ⟨b, o + 3, none⟩ u4 hb)).trans (agree_set _ ⟨b, o + 4, none⟩ u5 hb)

theorem five_below {B b : Nat} {a w : World} (h : Below B a w) (hb : B ≤ b) (o : Nat) (u1 u2 u3 u4 u5 : Value) :
    Below B a (((((w.setCell ⟨b, o, none⟩ u1).setCell ⟨b, o + 1, none⟩ u2).setCell ⟨b, o + 2, none⟩ u3).setCell ⟨b, o + 3, none⟩ u4).setCell ⟨b, o + 4, none⟩ u5) :=
  ((((h.setCell hb _).setCell hb _).setCell hb _).setCell hb _).setCell hb _

set_option maxRecDepth 100000 in
set_option maxHeartbeats 2000000 in
theorem get_no {w : World} {D : Nat → Prop} {g : Nat} {L : List (Option Nd)} {F : List Nat} (h : Ar w D g L F) (i : Int) (hi : i ≤ 9223372036854775807) (hu : usedB L i = false) :
    Calls Try.prog 16 #[.pointer (some ⟨g, 0, none⟩), .int .i64 i] w (GotO w L i) := by
  obtain ⟨C, P, Q, pc, qc, xs, h⟩ := h
  have HU := uses_any (h.keep (agree_alloc w (.cells #[.bool false, .slice none 0 0, .slice none 0 0, .slice none 0 0, .int .i64 0] 35))) i hi
  rw [hu] at HU
  have HG := Lib.hid (show gotNd L i = nd0 from by unfold gotNd; rw [hu]; rfl)
  have HUU := Lib.hid hu
  clear h hu
  go_enter Try.func16, Try.ntmps16
  go_wp2_with fail
  refine HU.mono ?_
  rintro e w1 ⟨rfl, rfl⟩
  clear HU
  go_wp2
  refine bodyPost_ret (v := .tuple #[ndV nh0 nd0, .bool false]) (by simp [results, Try.results16, go_sem, nh0, nd0]) rfl ⟨nh0, ?_, ?_, ?_, ?_⟩
  · rw [HG.out, HUU.out]
  · rw [HG.out]
    exact nd0_on _ _
  · exact (Below.refl _ w).alloc (Nat.le_refl _) _
  · rw [HG.out]
    exact World.ownsRow_nil _ _ _ _

theorem ArW.six {w : World} {C D : Nat → Prop} {g : Nat} {L : List (Option Nd)} {F : List Nat} {P Q : Option Addr} {pc qc : Nat} {xs : List Value} (h : ArW w C D g L F P Q pc qc xs) {k : Nat} {x : Nd} (hk : k < L.length) (hx : lat L k = some x) :
    ∃ p h, P = some ⟨p, 0, none⟩ ∧ D p ∧ p ≠ g ∧ ¬ C p ∧ SmallN x ∧ On C w (NdR · h x) ∧ w.cell? ⟨p, k * 6, none⟩ = some (.bool x.leaf) ∧ w.cell? ⟨p, k * 6 + 1, none⟩ = some (.slice h.A h.n h.c) ∧ w.cell? ⟨p, k * 6 + 2, none⟩ = some (.slice h.B h.m h.d) ∧
      w.cell? ⟨p, k * 6 + 3, none⟩ = some (.slice h.K h.k h.e) ∧ w.cell? ⟨p, k * 6 + 4, none⟩ = some (.int .i64 x.next) ∧ w.cell? ⟨p, k * 6 + 5, none⟩ = some (.bool true) ∧ ∀ o, w.frozen? ⟨p, o, none⟩ = false := by
  obtain ⟨h1, h2, h3, h4, h5, h6⟩ := h
  obtain ⟨p, rfl, -, -⟩ := own_at h2 (by omega)
  have hp := h6.p _ rfl
  have := h4 k hk
  rw [hx] at this
  obtain ⟨h, e0, e1, e2, e3, e4, e5, hs, e6⟩ := this
  exact ⟨p, h, rfl, hp.1, hp.2.2, hp.2.1, hs, e6, (h2.cellAt _ (by omega)).trans e0, (h2.cellAt _ (by omega)).trans e1, (h2.cellAt _ (by omega)).trans e2, (h2.cellAt _ (by omega)).trans e3, (h2.cellAt _ (by omega)).trans e4, (h2.cellAt _ (by omega)).trans e5, fun o => h2.frozenAt o⟩

set_option maxRecDepth 100000 in
set_option maxHeartbeats 2000000 in
theorem get_yes {w : World} {D : Nat → Prop} {g : Nat} {L : List (Option Nd)} {F : List Nat} (h : Ar w D g L F) (k : Nat) {x : Nd} (hx : lat L k = some x) :
    Calls Try.prog 16 #[.pointer (some ⟨g, 0, none⟩), .int .i64 k] w (GotO w L k) := by
  obtain ⟨C, P, Q, pc, qc, xs, h⟩ := h
  have hk : k < L.length := by
    rcases Nat.lt_or_ge k L.length with hk | hk
    · exact hk
    · rw [lat_out hk] at hx; cases hx
  have hN : L.length ≤ maxLen := Nat.le_trans (own_caps h.2.1).1 (own_caps h.2.1).2.1
  unfold maxLen at hN
  have hu : usedB L (k : Int) = true := by unfold usedB; simp [hx]
  have hg : gotNd L (k : Int) = x := by unfold gotNd; rw [hu]; simp [hx]
  have h' := h.keep (agree_alloc w (.cells #[.bool false, .slice none 0 0, .slice none 0 0, .slice none 0 0, .int .i64 0] 35))
  have HU := uses_any h' k (by omega)
  rw [hu] at HU
  obtain ⟨c0, -, -, -⟩ := pair_cells h'.1
  obtain ⟨p, hh, rfl, hDp, hpg, hCp, hs, hon, g0, g1, g2, g3, g4, -, -⟩ := h'.six hk hx
  have HA := Lib.hid (apart_own hon.here hs)
  have HGU := Lib.hid (And.intro hg hu)
  have HZ := Lib.hid (heap_alloc_new w (.cells #[.bool false, .slice none 0 0, .slice none 0 0, .slice none 0 0, .int .i64 0] 35))
  generalize hn : L.length = n at *
  clear h h' hx hu hg hDp hpg hCp hs hon hn
  go_enter Try.func16, Try.ntmps16
  go_wp2_with fail
  refine HU.mono ?_
  rintro e w1 ⟨rfl, rfl⟩
  clear HU
  go_wp2_with fail
  refine HA.out.mono ?_
  rintro e w2 ⟨h2, rfl, hon, hb, hown⟩
  clear HA
  have HOWN := Lib.hid hown
  clear hown
  have q := (hb.block w.heap.size (by simp)).trans HZ.out
  have HON := Lib.hid hon
  have HB := Lib.hid hb
  obtain ⟨t0, t1, t2, t3, t4, f0, f1, f2, f3, f4⟩ := five q
  clear q HZ hon hb g0 g1 g2 g3 g4 c0
  go_wp2
  refine bodyPost_ret (v := .tuple #[ndV h2 x, .bool true]) (by simp [results, Try.results16, go_sem, t0, t1, t2, t3, t4]) rfl ⟨h2, ?_, ?_, ?_, ?_⟩
  · rw [HGU.out.1, HGU.out.2]
  · rw [HGU.out.1]
    refine (HON.out.keep (five_agree (C := ((w.alloc _).heap.size ≤ ·)) w2 (b := w.heap.size) 0 _ _ _ _ _ (by simp))).mono (fun b hb => ?_)
    simp at hb
    omega
  · exact five_below (((Below.refl _ w).alloc (Nat.le_refl _) _).trans (HB.out.mono (by simp))) (b := w.heap.size) (Nat.le_refl _) 0 _ _ _ _ _
  · rw [HGU.out.1]
    have hlt : w.heap.size < w.heap.size + 1 := by omega
    have ho : w2.ownsRow (w.heap.size + 1) 3 1 (.slice h2.K h2.k h2.e) h2.k (x.kids.map intV) := HOWN.out.mono (by rw [alloc_sz]; omega)
    exact ownsRow_setCell_below (ownsRow_setCell_below (ownsRow_setCell_below (ownsRow_setCell_below (ownsRow_setCell_below ho hlt _) hlt _) hlt _) hlt _) hlt _

theorem get_own {w : World} {D : Nat → Prop} {g : Nat} {L : List (Option Nd)} {F : List Nat} (h : Ar w D g L F) (i : Int) (hi : i ≤ 9223372036854775807) :
    Calls Try.prog 16 #[.pointer (some ⟨g, 0, none⟩), .int .i64 i] w (GotO w L i) := by
  cases hu : usedB L i
  · exact get_no h i hi hu
  · unfold usedB at hu
    simp at hu
    obtain ⟨k, rfl⟩ := Int.eq_ofNat_of_zero_le hu.1
    obtain ⟨x, hx⟩ := Option.isSome_iff_exists.1 hu.2
    exact get_yes h k (by simpa using hx)

theorem get_any {w : World} {D : Nat → Prop} {g : Nat} {L : List (Option Nd)} {F : List Nat} (h : Ar w D g L F) (i : Int) (hi : i ≤ 9223372036854775807) :
    Calls Try.prog 16 #[.pointer (some ⟨g, 0, none⟩), .int .i64 i] w (Got w L i) :=
  (get_own h i hi).mono fun e w' ⟨h, h1, h2, h3, _⟩ => ⟨h, h1, h2, h3⟩
end Go.Proofs.Ytbphjhmmdkaggaa
