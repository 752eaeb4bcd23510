/- Contracts of bytes.Clone, of slices.Grow of nothing, and of slices.Concat of pairs: new memory; nothing that was there is changed. Condition: what came in can be read; no more than 3000 pairs, slices of at most 1000 bytes. -/
import Derived.Test.YtpicdokkdpbpdaaRp
import Derived.Lib.AppendZeros
import Derived.Deep.RegionHeld3
namespace Go.Proofs.Ytpicdokkdpbpdaa
open Go.RowKit
set_option linter.unusedVariables false

theorem Try.infoU8 : (Try.prog.info? 5).map (fun i => (i.zero, i.size, i.bytes)) = some (some (.int .u8 0), 1, 1) := by kernel_rfl

def cellsB (l : List UInt8) : List Value := l.map fun u => Value.int .u8 (u.toNat : Int)

theorem New.mono {N M : Nat} {A : Option Addr} (h : New N A) (hm : M ≤ N) : New M A := fun a e => Nat.le_trans hm (h a e)

theorem byt_own {w : World} {B : Nat} {e : TypeId} {v : Value} {n : Nat} {l : List UInt8} (h : w.ownsRow B e 1 v n (cellsB l)) : ∃ A c, v = .slice A n c ∧ Byt w A n l ∧ New B A := by
  have hl : l.length = n := by have := h.1; simpa [cellsB] using this
  rcases h.2 with ⟨rfl, rfl⟩ | ⟨g, cap, cur, rfl, hB, hh, _⟩
  · exact ⟨none, 0, rfl, ⟨hl, fun h0 => absurd h0 (by omega)⟩, fun a e => by cases e⟩
  · refine ⟨_, _, rfl, ⟨hl, fun h0 => ⟨_, rfl, (Array.getElem?_eq_some_iff.1 hh).1, fun j hj => ?_⟩⟩, fun a e => by injection e with e; subst e; exact hB⟩
    exact h.cells (g := g) rfl j _ (by simp [cellsB, List.getElem?_eq_getElem hj])

/-- What Clone leaves. -/
def Cloned (w : World) (n : Nat) (l : List UInt8) (e : Ending) (w' : World) : Prop := ∃ A c, e = .returned (.slice A n c) ∧ Byt w' A n l ∧ New w.heap.size A ∧ Below w.heap.size w w'

set_option maxHeartbeats 1000000 in
theorem clone_some {w : World} (a : Addr) {n : Nat} (c : Nat) {l : List UInt8} (h : Byt w (some a) n l) (hn : n ≤ 1000) :
    Calls Try.prog 29 #[.slice (some a) n c] w (Cloned w n l) := by
  obtain ⟨i0, hi, hz0, hz1, hz2⟩ := info_parts Try.infoU8
  have hq : ∀ (w : World) (a : Option Addr) (n c n' c' : Nat), (binOp .eql 23 (.slice a n c) (.slice none n' c')).run Try.prog w = .ok (.bool a.isNone) w := fun w a n c n' c' => Lib.run_eql_slice_nil w _ _ a n c n' c' Try.underlying23
  have H := Lib.hid h
  clear h
  go_enter Try.func29, Try.ntmps29
  go_wp2_with (at_builtin; refine wpList_append_own _ rfl _ _ 23 rfl w.heap.size 5 i0 (.int .u8 0) 1 1 Try.underlying23 hi hz0 hz1 hz2 rfl (by decide) _ _ _ rfl (World.ownsRow_made w #[] 0 (Nat.le_refl _) (Nat.zero_le _) rfl) a n c (cellsB l) rfl ?q1 ?q2 ?q3 ?q4 ?q5 ?q6 ?_)
  case q1 => simp [cellsB, H.out.1]
  case q2 =>
    intro j u hj
    have hl : j < l.length := by
      have := (List.getElem?_eq_some_iff.1 hj).1
      simpa [cellsB] using this
    obtain ⟨a', e, _, hc⟩ := (H.out.alloc (.cells #[] 5)).2 (by have := H.out.1; omega)
    injection e with e
    subst e
    rw [hc j hl]
    simp [cellsB, List.getElem?_eq_getElem hl] at hj
    rw [hj]
  case q3 =>
    intro u hu
    obtain ⟨x, _, rfl⟩ := List.mem_map.1 hu
    rfl
  case q4 => unfold maxLen; omega
  case q5 => omega
  case q6 => simp
  intro v' w1 hown hgrow hnil
  clear hnil
  go_wp2
  go_ret
  obtain ⟨A, c', rfl, hb, hN⟩ := byt_own hown
  exact ⟨A, c', rfl, hb, hN, ((Below.refl _ w).alloc (Nat.le_refl _) _).grown hgrow (by simp) (by intro k hk; simp [Value.ownBlock] at hk; omega)⟩

set_option maxHeartbeats 400000 in
theorem clone_nil {w : World} {n : Nat} (c : Nat) {l : List UInt8} (h : Byt w none n l) :
    Calls Try.prog 29 #[.slice none n c] w (Cloned w n l) := by
  have hq : ∀ (w : World) (a : Option Addr) (n c n' c' : Nat), (binOp .eql 23 (.slice a n c) (.slice none n' c')).run Try.prog w = .ok (.bool a.isNone) w := fun w a n c n' c' => Lib.run_eql_slice_nil w _ _ a n c n' c' Try.underlying23
  have h0 : n = 0 := by
    rcases Nat.eq_zero_or_pos n with h0 | h0
    · exact h0
    · obtain ⟨a, e, _⟩ := h.2 h0
      cases e
  subst h0
  have H := Lib.hid h
  clear h
  go_enter Try.func29, Try.ntmps29
  go_wp2
  go_ret
  exact ⟨none, 0, rfl, H.out, (fun a e => by cases e), Below.refl _ _⟩

theorem clone_any {w : World} {A : Option Addr} {n : Nat} (c : Nat) {l : List UInt8} (h : Byt w A n l) (hn : n ≤ 1000) :
    Calls Try.prog 29 #[.slice A n c] w (Cloned w n l) := by
  cases A with
  | none => exact clone_nil c h
  | some a => exact clone_some a c h hn

/-- What Grow of nothing leaves. -/
def Grown (w : World) (e : Ending) (w' : World) : Prop := ∃ v, e = .returned v ∧ w'.ownsRow w.heap.size 43 2 v 0 [] ∧ Below w.heap.size w w'

set_option maxHeartbeats 1000000 in
theorem grow_nil {w : World} (n : Nat) (hn : n ≤ 3000) :
    Calls Try.prog 31 #[.slice none 0 0, .int .i64 n] w (Grown w) := by
  obtain ⟨i0, hi, hz0, hz1, hz2⟩ := info_parts Try.infoPair
  rcases Nat.eq_zero_or_pos n with h0 | h0
  · subst h0
    clear hn
    go_enter Try.func31, Try.ntmps31
    go_wp2
    go_ret
    exact ⟨_, rfl, World.ownsRow_nil _ _ _ _, Below.refl _ _⟩
  · have HR := Lib.hid (Lib.run_append_nil_zeros (P := Try.prog) w 22 3 22 43 i0 (.agg #[.slice none 0 0, .slice none 0 0]) .i64 .i64 Try.underlying22 Try.underlying3 hi hz0 n h0 (by rw [hz1]; decide) (by omega) (by rw [hz2]; omega))
    have hge := grownCap_ge w n 0 43
    have hle := grownCap_le_maxLen w n 0 43 (by unfold maxLen; omega)
    generalize grownCap w n 0 43 = g at HR hge hle
    clear hi hz0 hz1 hz2
    go_enter Try.func31, Try.ntmps31
    go_wp2_with (at_builtin; refine Lib.wpList_append_run _ rfl _ _ _ _ rfl _ _ rfl rfl _ _ HR.out ?_)
    go_ret
    refine ⟨_, rfl, ?_, ?_⟩
    · refine World.ownsRow_made (base := w.heap.size) w.drew _ g (Nat.le_refl _) hle ?_
      simp [size_zeroCells]
      omega
    · exact ((Below.refl w.heap.size w).drew).alloc (Nat.le_refl _) _
end Go.Proofs.Ytpicdokkdpbpdaa
