/- Contracts of package omap's found, put, swap. Condition: what came in can be read; a row of no more than 1000 pairs. -/
import Derived.Test.YthcchaglloggjaaWd
namespace Go.Proofs.Ythcchaglloggjaa
open Go.RowKit
set_option linter.unusedVariables false
set_option maxRecDepth 100000

def sh0 : Sh := ⟨none, 0, 0, none, 0, 0⟩
theorem byt_none (w : World) : Byt w none 0 [] := ⟨rfl, fun h => absurd h (by omega)⟩
theorem err_on (C : Nat → Prop) (w : World) (c : Int) : On C w (RsR · sh0 (errQ c)) := fun v _ => ⟨byt_none v, prs_nil v⟩
/-- What a function that tells an answer leaves; one that tells beside it whether the pairs are written. -/
def ToldS (C : Nat → Prop) (w : World) (s : Rs) (e : Ending) (w' : World) : Prop := ∃ h, e = .returned (rsV h s) ∧ On C w' (RsR · h s) ∧ Below w.heap.size w w'
def AnsO (C : Nat → Prop) (w : World) (s : Rs × Bool) (e : Ending) (w' : World) : Prop := ∃ h, e = .returned (.tuple #[rsV h s.1, .bool s.2]) ∧ On C w' (RsR · h s.1) ∧ Below w.heap.size w w'

theorem five_agree {C : Nat → Prop} (w : World) {b : Nat} (o : Nat) (u1 u2 u3 u4 u5 : Value) (hb : ¬ C b) :
    Agree C w (((((w.setCell ⟨b, o, none⟩ u1).setCell ⟨b, o + 1, none⟩ u2).setCell ⟨b, o + 2, none⟩ u3).setCell ⟨b, o + 3, none⟩ u4).setCell ⟨b, o + 4, none⟩ u5) :=
  ((((agree_set w ⟨b, o, none⟩ u1 hb).trans (agree_set _ ⟨b, o + 1, none⟩ u2 hb)).trans (agree_set _ ⟨b, o + 2, none⟩ u3 hb)).trans (agree_set _ ⟨b, o + 3, none⟩ u4 hb)).trans (agree_set _ ⟨b, o + 4, none⟩ u5 hb)
theorem rsr_byt {C : Nat → Prop} {w : World} {A : Option Addr} {n : Nat} {l : Ky} (k : Int) (f : Bool) (c : Nat) (h : On C w (Byt · A n l)) : On C w (RsR · ⟨A, n, c, none, 0, 0⟩ ⟨k, f, l, []⟩) := fun v hv => ⟨h v hv, prs_nil v⟩
/-- The block of a result. -/
theorem box_s (w : World) (h : Sh) (s : Rs) : ∃ W, W = w.alloc (.cells #[.int .i64 s.code, .bool s.found, .slice h.A h.n h.c, .slice h.B h.m h.d, .int .u64 0] 46) ∧ Below w.heap.size w W ∧ BoxS W w.heap.size h s ∧ W.heap.size = w.heap.size + 1 :=
  ⟨_, rfl, (Below.refl _ _).alloc (Nat.le_refl _) _, Deep.blk_alloc_new _ _, by simp⟩

theorem box_s0 (w : World) : ∃ W, W = w.alloc (.cells #[.int .i64 0, .bool false, .slice none 0 0, .slice none 0 0, .int .u64 0] 46) ∧ Below w.heap.size w W ∧ BoxS W w.heap.size sh0 rs0 ∧ W.heap.size = w.heap.size + 1 := box_s w sh0 rs0

theorem AnsO.of {C : Nat → Prop} {w w' : World} {h : Sh} {s : Rs} {b : Bool} {r : Rs × Bool} (hr : r = (s, b)) {e : Ending} (he : e = .returned (.tuple #[rsV h s, .bool b])) (ho : On C w' (RsR · h s)) (hb : Below w.heap.size w w') : AnsO C w r e w' := by
  subst hr
  exact ⟨h, he, ho, hb⟩

/-- An answer's box, and behind it that of a result. -/
theorem box_ss (w : World) (h : Sh) (s : Rs) : ∃ V, V = (w.alloc (.cells #[.int .i64 s.code, .bool s.found, .slice h.A h.n h.c, .slice h.B h.m h.d, .int .u64 0] 46)).alloc (.cells #[.int .i64 0, .bool false, .slice none 0 0, .slice none 0 0, .int .u64 0] 46) ∧
    Below w.heap.size w V ∧ BoxS V w.heap.size h s ∧ BoxS V (w.heap.size + 1) sh0 rs0 ∧ V.heap.size = w.heap.size + 1 + 1 := by
  obtain ⟨W, hW, hWB, hWS, hWs⟩ := box_s w h s
  obtain ⟨V, hV, hVB, hVS, hVs⟩ := box_s0 W
  subst hW
  refine ⟨V, hV, hWB.trans (hVB.mono (by omega)), hWS.below hVB (by omega), ?_, by omega⟩
  rw [hWs] at hVS
  exact hVS
theorem two_alloc {w : World} (o o' : Obj) : Below w.heap.size w ((w.alloc o).alloc o') := ((Below.refl w.heap.size w).alloc (Nat.le_refl _) _).alloc (Nat.le_of_lt (by rw [alloc_sz]; exact Nat.lt_succ_self _)) _
theorem two_on {C : Nat → Prop} {w : World} {P : World → Prop} (h : On C w P) (o o' : Obj) : On C ((w.alloc o).alloc o') P := (h.keep (agree_alloc w o)).keep (agree_alloc _ o')

end Go.Proofs.Ythcchaglloggjaa
