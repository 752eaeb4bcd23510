/- The text of a Trapped: it begins with "panic". The library's variables hold what the program's text lays (the statement's own condition). -/
import Derived.Test.YthijiomaaiefaaaDoorTb
import Derived.Test.YthijiomaaiefaaaDoorLaid
import Derived.Lib.ItoaLen
import Derived.Stop.Asserts
namespace Go.Proofs.YthijiomaaiefaaaDoor
open Go.RowKit

/-- The name of the library's table of powers, off the given row's list. -/
def tabName : String := (Rows.trapCallsRow.laid.getD 2 (Rows.trapCallsRow.func, .nil)).1
theorem Tryd.gTab : Tryd.prog.globalNamed tabName = some 1 := by kernel_rfl

/-- What the library's two variables hold. -/
structure Libs (w : World) : Prop where
  et : w.cell? ⟨0, 0, none⟩ = some (.iface 71 (.agg #[.pointer (some ⟨4, 26, none⟩)]))
  tab : Lib.TabIs Tryd.prog w tabName .u64 Lib.pow10Tab

theorem Libs.size {w : World} (h : Libs w) : 1 < w.heap.size := by
  have hgn := Tryd.gTab
  have ht := h.tab
  unfold Lib.TabIs World.var? at ht
  rw [hgn] at ht
  simp only [Option.bind_some] at ht
  rcases Nat.lt_or_ge 1 w.heap.size with h' | h'
  · exact h'
  · rw [Array.getElem?_eq_none h'] at ht; cases ht
theorem Libs.on {w w' : World} (h : Libs w) (hb : ∀ k, k < 2 → w'.heap[k]? = w.heap[k]?) : Libs w' := by
  refine ⟨?_, ?_⟩
  · rw [World.cell?_of_block (w := w) (hb _ (by show 0 < 2; omega))]
    exact h.et
  · have hgn := Tryd.gTab
    have ht := h.tab
    unfold Lib.TabIs World.var? at ht ⊢
    rw [hgn] at ht ⊢
    simp only [Option.bind_some] at ht ⊢
    rw [hb _ (by omega)]
    exact ht
theorem Libs.below {w w' : World} {B : Nat} (h : Libs w) (hb : Below B w w') (hB : 2 ≤ B) : Libs w' := h.on fun k hk => hb.block k (by omega)
theorem Libs.alloc {w : World} (h : Libs w) (o : Obj) : Libs (w.alloc o) := h.on fun k hk => Below.heap_alloc w o k (by have := h.size; omega)

/-- Some text, and nothing that was there has turned. -/
def SomeText (w : World) (e : Ending) (w' : World) : Prop := ∃ s : ByteArray, s.size ≤ 100 ∧ e = .returned (.string s) ∧ Below w.heap.size w w'

theorem itoa_any (n : Int) (h0 : -9223372036854775808 ≤ n) (h1 : n ≤ 9223372036854775807) (w : World) (hl : Libs w) :
    Calls Tryd.prog 33 #[.int .i64 n] w (SomeText w) :=
  (Any.strconv_Itoa Tryd.laysM171 n h0 h1 w hl.tab).mono fun e w' ⟨he, k, os, hw⟩ => ⟨_, by have := Lib.itoa_length_le n h0 h1; show (Lib.itoa n).toArray.size ≤ 100; simp; omega, he, by
    rw [hw]
    exact ⟨rfl, rfl, rfl, by show w.heap.size ≤ (w.heap ++ os).size; rw [Array.size_append]; omega, fun j hj => by show (w.heap ++ os)[j]? = w.heap[j]?; exact Array.getElem?_append_left hj⟩⟩

def CodeText (w : World) (e : Ending) (w' : World) : Prop := ∃ s : ByteArray, s.size ≤ 127 ∧ e = .returned (.string s) ∧ Below w.heap.size w w'

set_option maxHeartbeats 400000 in
theorem code_text (n : Int) (h0 : -9223372036854775808 ≤ n) (h1 : n ≤ 9223372036854775807) (w : World) (hl : Libs w) :
    Calls Tryd.prog 32 #[.int .i64 n] w (CodeText w) := by
  go_enter Tryd.func32, Tryd.ntmps32
  go_wp2_with (go_at_call 33; refine (itoa_any n h0 h1 _ hl).mono ?_; rintro e w' ⟨s, hs, rfl, hb⟩)
  go_ret
  exact ⟨_, by rw [ByteArray.size_append]; show 6 + s.size ≤ 127; omega, rfl, hb⟩

/-- A text that begins with "panic". -/
def PanicText (w : World) (e : Ending) (w' : World) : Prop := ∃ s : ByteArray, s.size ≤ 140737488351300 ∧ e = .returned (.string (⟨#[112, 97, 110, 105, 99]⟩ ++ s)) ∧ Below w.heap.size w w'

theorem Tryd.asText (v : Value) (w : World) : (Instr.typeAssert (.iface 9 v) 20 9 true).run Tryd.prog w = .ok (.tuple #[v, .bool true]) w := by kernel_rfl
theorem Tryd.asText42 (v : Value) (w : World) : (Instr.typeAssert (.iface 42 v) 20 9 true).run Tryd.prog w = .ok (.tuple #[.string ⟨#[]⟩, .bool false]) w := by kernel_rfl
theorem Tryd.asCode (v : Value) (w : World) : (Instr.typeAssert (.iface 42 v) 20 42 true).run Tryd.prog w = .ok (.tuple #[v, .bool true]) w := by kernel_rfl
theorem Tryd.asText8 (v : Value) (w : World) : (Instr.typeAssert (.iface 8 v) 20 9 true).run Tryd.prog w = .ok (.tuple #[.string ⟨#[]⟩, .bool false]) w := by kernel_rfl
theorem Tryd.asCode8 (v : Value) (w : World) : (Instr.typeAssert (.iface 8 v) 20 42 true).run Tryd.prog w = .ok (.tuple #[.int .i64 0, .bool false]) w := by kernel_rfl

set_option maxHeartbeats 800000 in
theorem error_code (tb : Nat) (n : Int) (h0 : -9223372036854775808 ≤ n) (h1 : n ≤ 9223372036854775807) (w : World) (hl : Libs w) (hc : w.cell? ⟨tb, 0, none⟩ = some (.iface 42 (.int .i64 n))) :
    Calls Tryd.prog 21 #[.pointer (some ⟨tb, 0, none⟩)] w (PanicText w) := by
  have a1 := Tryd.asText
  have a2 := Tryd.asText42
  have a3 := Tryd.asCode
  have a4 := Tryd.asText8
  have a5 := Tryd.asCode8
  go_enter Tryd.func21, Tryd.ntmps21
  go_wp2_with (first | (go_at_call 29; go_in) | (go_at_call 32; refine (code_text n h0 h1 _ hl).mono ?_; rintro e w' ⟨s, hs, rfl, hb⟩))
  go_ret
  exact ⟨_, by rw [ByteArray.size_append]; show 2 + s.size ≤ _; omega, rfl, hb⟩

set_option maxHeartbeats 800000 in
theorem error_text (tb : Nat) (tx : ByteArray) (w : World) (ht : tx.size ≤ 140737488351232) (hc : w.cell? ⟨tb, 0, none⟩ = some (.iface 9 (.string tx))) :
    Calls Tryd.prog 21 #[.pointer (some ⟨tb, 0, none⟩)] w (PanicText w) := by
  have a1 := Tryd.asText
  have a2 := Tryd.asText42
  have a3 := Tryd.asCode
  have a4 := Tryd.asText8
  have a5 := Tryd.asCode8
  go_enter Tryd.func21, Tryd.ntmps21
  go_wp2
  go_ret
  exact ⟨_, by rw [ByteArray.size_append]; show 2 + tx.size ≤ _; omega, rfl, Below.refl _ _⟩

set_option maxHeartbeats 800000 in
theorem error_out (tb : Nat) (x : Value) (w : World) (hc : w.cell? ⟨tb, 0, none⟩ = some (.iface 8 x)) :
    Calls Tryd.prog 21 #[.pointer (some ⟨tb, 0, none⟩)] w (PanicText w) := by
  have a1 := Tryd.asText
  have a2 := Tryd.asText42
  have a3 := Tryd.asCode
  have a4 := Tryd.asText8
  have a5 := Tryd.asCode8
  go_enter Tryd.func21, Tryd.ntmps21
  go_wp2
  go_ret
  exact ⟨⟨#[]⟩, by show 0 ≤ _; omega, rfl, Below.refl _ _⟩

/-- The text of a Trapped, whatever it holds. -/
theorem error_any (tb : Nat) (wh cd : Int) (tx : ByteArray) (v : Value) (h0 : -9223372036854775808 ≤ cd) (h1 : cd ≤ 9223372036854775807) (ht : tx.size ≤ 140737488351232) (w : World) (hl : Libs w) (hv : PV wh cd tx v) (hc : w.cell? ⟨tb, 0, none⟩ = some v) :
    Calls Tryd.prog 21 #[.pointer (some ⟨tb, 0, none⟩)] w (PanicText w) := by
  rcases hv with ⟨_, rfl⟩ | ⟨_, rfl⟩ | ⟨_, x, rfl⟩
  · exact error_code tb cd h0 h1 w hl hc
  · exact error_text tb tx w ht hc
  · exact error_out tb x w hc
end Go.Proofs.YthijiomaaiefaaaDoor
