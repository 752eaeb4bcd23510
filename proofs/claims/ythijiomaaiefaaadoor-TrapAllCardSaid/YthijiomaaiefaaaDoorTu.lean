/- The law's up: the document's example, and no function. No condition. -/
import Derived.Test.YthijiomaaiefaaaDoorTd
import Derived.Test.YthijiomaaiefaaaDoorTh
namespace Go.Proofs.YthijiomaaiefaaaDoor
open Go.RowKit

theorem hentUp : ∀ (args : Array Value) (w : World), (callFunc 15 args).run Tryd.prog w = .ok (.enter 15 args) w :=
  enters_of Tryd.func15 (by kernel_rfl) rfl

theorem up1_any (w : World) : Calls Tryd.prog 15 #[] w fun e w' => ∃ v, e = .panicked [{ v := v, recovered := false }] ∧ (v = .iface 42 (.int .i64 5) ∧ w = w') := by
  go_enter Tryd.func15, Tryd.ntmps15
  go_wp2_with (go_at_call 16; refine (throw_any _ _ _).mono ?_; rintro e w' ⟨rfl, rfl⟩)
  exact ⟨rfl, _, rfl, rfl, rfl⟩

theorem up_call (w : World) : Calls Tryd.prog 6 #[.func (.func 15) #[] #[]] w fun e w2 =>
    e = .returned (.iface 44 (.pointer (some ⟨w.heap.size + 1, 0, none⟩))) ∧ Below w.heap.size w w2 ∧ w2.heap[w.heap.size + 1]? = some (.cells #[.iface 42 (.int .i64 5)] 46 (0, 0)) := by
  refine (call_dies 15 #[] w (fun v w' => v = .iface 42 (.int .i64 5) ∧ w.alloc (.cells #[.nilIface] 26) = w') hentUp (up1_any _)
    (by rintro v w' ⟨rfl, rfl⟩; exact ⟨⟨_, _, rfl⟩, heap_alloc_new w _⟩)).mono ?_
  rintro e w2 ⟨v, w1, ⟨rfl, rfl⟩, rfl, rfl⟩
  refine ⟨by simp, (((Below.refl _ _).alloc (Nat.le_refl _) _).setCell (by simp) _).alloc (by simp [World.setCell]) _, ?_⟩
  have := heap_alloc_new ((w.alloc (.cells #[.nilIface] 26)).setCell ⟨w.heap.size, 0, none⟩ (.iface 44 (.pointer (some ⟨(w.alloc (.cells #[.nilIface] 26)).heap.size, 0, none⟩)))) (.cells #[.iface 42 (.int .i64 5)] 46)
  simpa [World.setCell] using this

set_option maxHeartbeats 1000000 in
theorem up_any (w : World) : Calls Tryd.prog 5 #[] w fun e w' => e = .returned (.bool true) ∧ Below w.heap.size w w' := by
  have hcl := up_call w
  have heq := eql_err
  go_enter Tryd.func5, Tryd.ntmps5
  go_wp2_with (go_at_call 6; refine hcl.mono ?_; clear hcl; rintro e w2 ⟨rfl, hb2, hc2⟩; refine Hid.out ?_)
  have hs2 := block_lt hc2
  have hc3 := Lib.hid (cell_block hc2)
  clear hc2
  refine Lib.hid ?_
  go_wp2_with (go_at_call 6; refine (call_nil _).mono ?_; rintro e w3 ⟨rfl, hb3⟩; refine Hid.out ?_)
  have hc4 : w3.cell? ⟨w.heap.size + 1, 0, none⟩ = some (.iface 42 (.int .i64 5)) := by
    rw [hb3.cell (by show w.heap.size + 1 < _; omega)]
    exact hc3.out
  have hb4 := hb2.trans (hb3.mono (by omega))
  clear hb2 hb3 hc3
  refine Lib.hid ?_
  go_wp2_with (go_at_call 17; refine (is_same _ _ 5 _ (EO.code 5) hc4).mono ?_; rintro e w' ⟨rfl, rfl⟩)
  go_ret
  exact ⟨rfl, hb4⟩
end Go.Proofs.YthijiomaaiefaaaDoor
