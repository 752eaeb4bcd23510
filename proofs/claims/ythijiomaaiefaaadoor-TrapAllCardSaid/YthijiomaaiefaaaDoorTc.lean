/- Package trap's Call by contracts, whatever function it is given: one that comes back, one that panics, none. No condition. -/
import Derived.Test.YthijiomaaiefaaaDoorTb
import Derived.Defers
import Derived.Recover
import Derived.Laws.Pointers
namespace Go.Proofs.YthijiomaaiefaaaDoor
open Go.RowKit

theorem catch_panicking (rb : Nat) (old : Value) (u : TypeId) (pv : Value) (older : List PanicEntry) (w : World) (hc : w.cell? ⟨rb, 0, none⟩ = some old) (hz : w.frozen? ⟨rb, 0, none⟩ = false) (hb : rb < w.heap.size) :
    CallsD Tryd.prog 18 #[.pointer (some ⟨rb, 0, none⟩)] (.panicking ({ v := .iface u pv, recovered := false } :: older)) w fun e u' w' =>
      e = .returned (.tuple #[]) ∧ u' = .panicking ({ v := .iface u pv, recovered := true } :: older) ∧
        w' = (w.setCell ⟨rb, 0, none⟩ (.iface 44 (.pointer (some ⟨w.heap.size, 0, none⟩)))).alloc (.cells #[.iface u pv] 46) := by
  refine callsD_of_wpS Tryd.func18 rfl fun c₀ cs hu => ?_
  apply wpS_seq
  apply wpS_region
  simp [wpOpsS, go_sem, recoverD, hu, Tryd.ntmps18, Exit.thenS]
  refine wpS_of_wp ?_
  change Code.wp _ _ _ { tmps := #[.pointer (some ⟨rb, 0, none⟩), .iface u pv, .iface u pv, undef, undef, undef, undef, undef, undef], defers := [] } w
  go_wp2
  exact ⟨rfl, _, rfl, _, by simp [results, Tryd.results18, go_sem], rfl, rfl, rfl⟩

theorem catch_idle (p : Value) (w : World) :
    CallsD Tryd.prog 18 #[p] .returning w fun e u' w' => e = .returned (.tuple #[]) ∧ u' = .returning ∧ w' = w := by
  refine callsD_of_wpS Tryd.func18 rfl fun c₀ cs hu => ?_
  apply wpS_seq
  apply wpS_region
  simp [wpOpsS, go_sem, recoverD, hu, Tryd.ntmps18, Exit.thenS]
  refine wpS_of_wp ?_
  change Code.wp _ _ _ { tmps := #[p, .nilIface, .nilIface, undef, undef, undef, undef, undef, undef], defers := [] } w
  go_wp2
  refine ⟨rfl, .returning, ?_, _, by simp [results, Tryd.results18, go_sem], rfl, rfl, rfl⟩
  cases c₀
  simp_all

/-- A cell that is given the value that it has. -/
theorem setCell_same {w : World} {b : Nat} {x : Value} {t : TypeId} (h : w.heap[b]? = some (.cells #[x] t (0, 0))) : w.setCell ⟨b, 0, none⟩ x = w := by
  cases w with
  | mk heap os tape drawn output =>
    simp only [World.setCell] at h ⊢
    congr 1
    apply Array.ext_getElem?
    intro i
    rw [Array.getElem?_modify]
    split
    · rename_i hi
      subst hi
      rw [h]
      rfl
    · rfl

theorem block_lt {w : World} {b : Nat} {o : Obj} (h : w.heap[b]? = some o) : b < w.heap.size := by
  rcases Nat.lt_or_ge b w.heap.size with h' | h'
  · exact h'
  · rw [Array.getElem?_eq_none h'] at h; cases h
theorem cell_block {w : World} {b : Nat} {x : Value} {t : TypeId} (h : w.heap[b]? = some (.cells #[x] t (0, 0))) : w.cell? ⟨b, 0, none⟩ = some x := by
  simp [World.cell?, h]
theorem free_block {w : World} {b : Nat} {x : Value} {t : TypeId} (h : w.heap[b]? = some (.cells #[x] t (0, 0))) : w.frozen? ⟨b, 0, none⟩ = false := by
  simp [World.frozen?, h]

/-- Call of no function: ErrPanic itself. -/
theorem call_nil (w : World) :
    Calls Tryd.prog 6 #[.nilFunc] w fun e w' => e = .returned (.iface 42 (.int .i64 11)) ∧ Below w.heap.size w w' := by
  have hnil : ∀ w : World, (binOp BinOp.eql 1 .nilFunc .nilFunc).run Tryd.prog w = .ok (.bool true) w := fun _ => by kernel_rfl
  go_enter_defers Tryd.func6, Tryd.ntmps6
  go_wp2
  simp [bodyPostD, Leaves, results, Tryd.results6, go_sem]
  exact (Below.refl _ _).alloc (Nat.le_refl _) _

set_option maxHeartbeats 800000 in
/-- Call of a function that comes back: nil. -/
theorem call_back (f : FuncId) (cap : Array Value) (w : World) (R : World → Prop) (hent : ∀ (args : Array Value) (w : World), (callFunc f args).run Tryd.prog w = .ok (.enter f args) w)
    (hf : Calls Tryd.prog f cap (w.alloc (.cells #[.nilIface] 26)) fun e w' => e = .returned (.tuple #[]) ∧ R w')
    (hR : ∀ w', R w' → w'.heap[w.heap.size]? = some (.cells #[.nilIface] 26 (0, 0))) :
    Calls Tryd.prog 6 #[.func (.func f) #[] cap] w fun e w' => e = .returned .nilIface ∧ R w' := by
  have hmf : ∀ (fn : Fn) (first cap : Array Value) (w : World), (Instr.makeFunc fn first cap).run Tryd.prog w = .ok (.func fn first cap) w := fun _ _ _ _ => rfl
  have hsome : ∀ (fn : Fn) (first cap : Array Value) (w : World), (binOp BinOp.eql 1 (.func fn first cap) .nilFunc).run Tryd.prog w = .ok (.bool false) w := fun _ _ _ _ => by kernel_rfl
  go_enter_defers Tryd.func6, Tryd.ntmps6
  go_wp2
  refine hf.mono ?_
  rintro e w1 ⟨rfl, hr⟩
  have hbk := hR w1 hr
  have hc := cell_block hbk
  have hz := free_block hbk
  have hl := block_lt hbk
  have hsame := Lib.hid (setCell_same hbk)
  clear hbk hR hf
  dsimp only
  go_at_K
  go_wp2
  refine leaves_cons (f := 18) (args := #[.pointer (some ⟨w.heap.size, 0, none⟩)]) (by simp) (by simp [go_sem]) ?_
  refine (catch_idle (.pointer (some ⟨w.heap.size, 0, none⟩)) _).mono ?_
  rintro e u' w'' ⟨rfl, rfl, rfl⟩
  have h2 := hsame.out
  simp [Leaves, settle, results, Tryd.results6, go_sem, hc, h2, hr]

/-- How Call tells of a function that panicked. -/
def Tells (rb : Nat) (R : Value → World → Prop) (e : Ending) (w' : World) : Prop :=
  ∃ v w1, R v w1 ∧ e = .returned (.iface 44 (.pointer (some ⟨w1.heap.size, 0, none⟩))) ∧
    w' = (w1.setCell ⟨rb, 0, none⟩ (.iface 44 (.pointer (some ⟨w1.heap.size, 0, none⟩)))).alloc (.cells #[v] 46)

set_option maxHeartbeats 800000 in
/-- Call of a function that panics: a Trapped with that value. -/
theorem call_dies (f : FuncId) (cap : Array Value) (w : World) (R : Value → World → Prop) (hent : ∀ (args : Array Value) (w : World), (callFunc f args).run Tryd.prog w = .ok (.enter f args) w)
    (hf : Calls Tryd.prog f cap (w.alloc (.cells #[.nilIface] 26)) fun e w' => ∃ v, e = .panicked [{ v := v, recovered := false }] ∧ R v w')
    (hR : ∀ v w', R v w' → (∃ t x, v = .iface t x) ∧ w'.heap[w.heap.size]? = some (.cells #[.nilIface] 26 (0, 0))) :
    Calls Tryd.prog 6 #[.func (.func f) #[] cap] w (Tells w.heap.size R) := by
  have hmf : ∀ (fn : Fn) (first cap : Array Value) (w : World), (Instr.makeFunc fn first cap).run Tryd.prog w = .ok (.func fn first cap) w := fun _ _ _ _ => rfl
  have hsome : ∀ (fn : Fn) (first cap : Array Value) (w : World), (binOp BinOp.eql 1 (.func fn first cap) .nilFunc).run Tryd.prog w = .ok (.bool false) w := fun _ _ _ _ => by kernel_rfl
  go_enter_defers Tryd.func6, Tryd.ntmps6
  go_wp2
  refine hf.mono ?_
  rintro e w1 ⟨v, rfl, hr⟩
  obtain ⟨⟨t, x, rfl⟩, hbk⟩ := hR v w1 hr
  have hc := cell_block hbk
  have hz := free_block hbk
  have hl := block_lt hbk
  clear hbk hR hf
  dsimp only
  refine leaves_cons (f := 18) (args := #[.pointer (some ⟨w.heap.size, 0, none⟩)]) (by simp) (by simp [go_sem]) ?_
  refine (catch_panicking w.heap.size _ t x [] _ hc hz hl).mono ?_
  rintro e u' w'' ⟨rfl, rfl, rfl⟩
  have HR := Lib.hid hr
  clear hr
  have h3 : ((w1.setCell ⟨w.heap.size, 0, none⟩ (.iface 44 (.pointer (some ⟨w1.heap.size, 0, none⟩)))).alloc (.cells #[.iface t x] 46)).cell? ⟨w.heap.size, 0, none⟩ = some (.iface 44 (.pointer (some ⟨w1.heap.size, 0, none⟩))) := by
    rw [World.cell?_alloc_lt _ _ ⟨w.heap.size, 0, none⟩ (by simpa [World.setCell] using hl)]
    exact World.cell?_setCell_same _ _ _ hc
  simp [Leaves, settle, results, Tryd.results6, go_sem, h3]
  exact ⟨_, _, HR.out, rfl, rfl⟩
end Go.Proofs.YthijiomaaiefaaaDoor
