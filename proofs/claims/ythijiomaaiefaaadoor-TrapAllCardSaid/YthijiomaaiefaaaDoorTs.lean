/- Call and Get of the law's closures: what they tell, what they have done, and that else nothing has turned. No condition. -/
import Derived.Test.YthijiomaaiefaaaDoorTu
namespace Go.Proofs.YthijiomaaiefaaaDoor
open Go.RowKit

theorem hent1 : ∀ (args : Array Value) (w : World), (callFunc 7 args).run Tryd.prog w = .ok (.enter 7 args) w :=
  enters_of Tryd.func7 (by kernel_rfl) rfl
theorem hent2 : ∀ (args : Array Value) (w : World), (callFunc 10 args).run Tryd.prog w = .ok (.enter 10 args) w :=
  enters_of Tryd.func10 (by kernel_rfl) rfl
theorem hent3 : ∀ (args : Array Value) (w : World), (callFunc 13 args).run Tryd.prog w = .ok (.enter 13 args) w :=
  enters_of Tryd.func13 (by kernel_rfl) rfl

/-- The block that counts. -/
abbrev cntB (k : Int) : Obj := .cells #[.int .i64 k] 3 (0, 0)

theorem WayAt.of_block {w : World} {pb : Nat} {wh cd : Int} {tx : ByteArray} (h : w.heap[pb]? = some (wayB wh cd tx)) (h1 : -9223372036854775808 ≤ wh) (h2 : wh ≤ 9223372036854775807) (h3 : -9223372036854775808 ≤ cd) (h4 : cd ≤ 9223372036854775807)
    (ht : tx.size ≤ 140737488351232) : WayAt w pb wh cd tx :=
  ⟨by simp [World.cell?, h], by simp [World.cell?, h], by simp [World.cell?, h], h1, h2, h3, h4, ht⟩

theorem heap_set {w : World} {nb : Nat} {x y : Value} {t : TypeId} (h : w.heap[nb]? = some (.cells #[x] t (0, 0))) : (w.setCell ⟨nb, 0, none⟩ y).heap[nb]? = some (.cells #[y] t (0, 0)) := by
  simp only [World.setCell, Array.getElem?_modify, if_true, h]
  rfl

/-- Call of a closure that comes back, and counts. -/
theorem callG_back (f : FuncId) (cap : Array Value) (nb : Nat) (wh cd : Int) (tx : ByteArray) (k : Int) (w : World) (hent : ∀ (args : Array Value) (w : World), (callFunc f args).run Tryd.prog w = .ok (.enter f args) w)
    (hn : w.heap[nb]? = some (cntB k))
    (hf : Calls Tryd.prog f cap (w.alloc (.cells #[.nilIface] 26)) fun e w' => e = .returned (.tuple #[]) ∧ w' = ((w.alloc (.cells #[.nilIface] 26)).setCell ⟨nb, 0, none⟩ (.int .i64 (k + 1))).alloc (wayB wh cd tx)) :
    Calls Tryd.prog 6 #[.func (.func f) #[] cap] w fun e w' => e = .returned .nilIface ∧ w.grownBy w' (some nb) ∧ w'.heap[nb]? = some (cntB (k + 1)) := by
  have hlt := block_lt hn
  refine (call_back f cap w _ hent hf ?_).mono ?_
  · rintro w' rfl
    rw [Below.heap_alloc _ _ _ (by simp [World.setCell]), Below.heap_setCell _ _ _ _ (by show _ ≠ nb; omega)]
    exact heap_alloc_new w _
  · rintro e w' ⟨rfl, rfl⟩
    refine ⟨rfl, ⟨rfl, rfl, rfl, by simp [World.setCell]; omega, fun j hj hne => ?_⟩, ?_⟩
    · rw [Below.heap_alloc _ _ _ (by simp [World.setCell]; omega), Below.heap_setCell _ _ _ _ (by intro h; exact hne (by rw [h])), Below.heap_alloc _ _ _ hj]
    · rw [Below.heap_alloc _ _ _ (by simp [World.setCell]; omega)]
      exact heap_set (x := .int .i64 k) (by rw [Below.heap_alloc _ _ _ hlt]; exact hn)

/-- What is told of a way that panics: a Trapped with its value; nothing that was there has turned. -/
def TellsW (wh cd : Int) (tx : ByteArray) (mk : Value → Value) (w : World) (e : Ending) (w' : World) : Prop :=
  ∃ tb v, PV wh cd tx v ∧ e = .returned (mk (.iface 44 (.pointer (some ⟨tb, 0, none⟩)))) ∧ w'.heap[tb]? = some (.cells #[v] 46 (0, 0)) ∧ w.heap.size ≤ tb ∧ Below w.heap.size w w'

/-- Call of a closure that panics. -/
theorem callG_dies (f : FuncId) (cap : Array Value) (wh cd : Int) (tx : ByteArray) (w : World) (hent : ∀ (args : Array Value) (w : World), (callFunc f args).run Tryd.prog w = .ok (.enter f args) w)
    (hf : Calls Tryd.prog f cap (w.alloc (.cells #[.nilIface] 26)) (Dies (w.heap.size + 1) wh cd tx (w.alloc (.cells #[.nilIface] 26)))) :
    Calls Tryd.prog 6 #[.func (.func f) #[] cap] w (TellsW wh cd tx id w) := by
  refine (call_dies f cap w (fun v w' => PV wh cd tx v ∧ Below (w.heap.size + 1) (w.alloc (.cells #[.nilIface] 26)) w') hent (hf.mono ?_) ?_).mono ?_
  · rintro e w' ⟨v, hv, rfl, hb⟩
    exact ⟨v, rfl, hv, hb⟩
  · rintro v w' ⟨hv, hb⟩
    refine ⟨hv.iface, ?_⟩
    rw [hb.block _ (by omega)]
    exact heap_alloc_new w _
  · rintro e w' ⟨v, w1, ⟨hv, hb⟩, rfl, rfl⟩
    have hs := hb.size
    simp at hs
    refine ⟨w1.heap.size, v, hv, rfl, ?_, by omega, ?_⟩
    · have := heap_alloc_new (w1.setCell ⟨w.heap.size, 0, none⟩ (.iface 44 (.pointer (some ⟨w1.heap.size, 0, none⟩)))) (.cells #[v] 46)
      simpa [World.setCell] using this
    · exact ((((Below.refl _ _).alloc (Nat.le_refl _) _).trans (hb.mono (by omega))).setCell (by simp) _).alloc (by simp [World.setCell]; omega) _

/-- Get of a closure that comes back, and counts. -/
theorem getG_back (f : FuncId) (cap : Array Value) (nb : Nat) (wh cd : Int) (tx : ByteArray) (k r : Int) (w : World) (hent : ∀ (args : Array Value) (w : World), (callFunc f args).run Tryd.prog w = .ok (.enter f args) w)
    (hn : w.heap[nb]? = some (cntB k))
    (hf : Calls Tryd.prog f cap (inGet f cap w) fun e w' => e = .returned (.int .i64 r) ∧ w' = ((inGet f cap w).setCell ⟨nb, 0, none⟩ (.int .i64 (k + 1))).alloc (wayB wh cd tx)) :
    Calls Tryd.prog 9 #[.func (.func f) #[] cap] w fun e w' => e = .returned (.tuple #[.int .i64 r, .nilIface]) ∧ w.grownBy w' (some nb) ∧ w'.heap[nb]? = some (cntB (k + 1)) := by
  have hlt := block_lt hn
  refine (get_back f cap r w _ hent hf ?_).mono ?_
  · rintro w' rfl
    constructor
    · rw [Below.heap_alloc _ _ _ (by simp [World.setCell]), Below.heap_setCell _ _ _ _ (by show _ ≠ nb; omega), Below.heap_alloc _ _ _ (by simp)]
      have := heap_alloc_new (w.alloc (.cells #[.func (.func f) #[] cap] 32)) (.cells #[.int .i64 0] 3)
      simpa using this
    · rw [Below.heap_alloc _ _ _ (by simp [World.setCell]), Below.heap_setCell _ _ _ _ (by show _ ≠ nb; omega)]
      have := heap_alloc_new ((w.alloc (.cells #[.func (.func f) #[] cap] 32)).alloc (.cells #[.int .i64 0] 3)) (.cells #[.nilIface] 26)
      simpa using this
  · rintro e w' ⟨rfl, w1, rfl, rfl⟩
    refine ⟨rfl, ⟨rfl, rfl, rfl, by simp [World.setCell]; omega, fun j hj hne => ?_⟩, ?_⟩
    · rw [Below.heap_setCell _ _ _ _ (by show _ ≠ w.heap.size + 1; omega), Below.heap_alloc _ _ _ (by simp [World.setCell]; omega), Below.heap_setCell _ _ _ _ (by intro h; exact hne (by rw [h])),
        Below.heap_alloc _ _ _ (by simp; omega), Below.heap_alloc _ _ _ (by simp; omega), Below.heap_alloc _ _ _ hj]
    · rw [Below.heap_setCell _ _ _ _ (by show nb ≠ w.heap.size + 1; omega), Below.heap_alloc _ _ _ (by simp [World.setCell]; omega)]
      exact heap_set (x := .int .i64 k) (by rw [Below.heap_alloc _ _ _ (by simp; omega), Below.heap_alloc _ _ _ (by simp; omega), Below.heap_alloc _ _ _ hlt]; exact hn)

/-- Get of a closure that panics. -/
theorem getG_dies (f : FuncId) (cap : Array Value) (wh cd : Int) (tx : ByteArray) (w : World) (hent : ∀ (args : Array Value) (w : World), (callFunc f args).run Tryd.prog w = .ok (.enter f args) w)
    (hf : Calls Tryd.prog f cap (inGet f cap w) (Dies (w.heap.size + 3) wh cd tx (inGet f cap w))) :
    Calls Tryd.prog 9 #[.func (.func f) #[] cap] w (TellsW wh cd tx (fun v => .tuple #[.int .i64 0, v]) w) := by
  refine (get_dies f cap w (fun v w' => PV wh cd tx v ∧ Below (w.heap.size + 3) (inGet f cap w) w') hent (hf.mono ?_) ?_).mono ?_
  · rintro e w' ⟨v, hv, rfl, hb⟩
    exact ⟨v, rfl, hv, hb⟩
  · rintro v w' ⟨hv, hb⟩
    refine ⟨hv.iface, ?_, ?_⟩
    · rw [hb.block _ (by omega), Below.heap_alloc _ _ _ (by simp)]
      have := heap_alloc_new (w.alloc (.cells #[.func (.func f) #[] cap] 32)) (.cells #[.int .i64 0] 3)
      simpa using this
    · rw [hb.block _ (by omega)]
      have := heap_alloc_new ((w.alloc (.cells #[.func (.func f) #[] cap] 32)).alloc (.cells #[.int .i64 0] 3)) (.cells #[.nilIface] 26)
      simpa using this
  · rintro e w' ⟨v, w1, ⟨hv, hb⟩, rfl, rfl⟩
    have hs := hb.size
    simp at hs
    refine ⟨w1.heap.size, v, hv, rfl, ?_, by omega, ?_⟩
    · have := heap_alloc_new (w1.setCell ⟨w.heap.size + 1 + 1, 0, none⟩ (.iface 44 (.pointer (some ⟨w1.heap.size, 0, none⟩)))) (.cells #[v] 46)
      simpa [World.setCell] using this
    · exact ((((((Below.refl _ _).alloc (Nat.le_refl _) _).alloc (by simp) _).alloc (by simp; omega) _).trans (hb.mono (by omega))).setCell (by show _ ≤ w.heap.size + 1 + 1; omega) _).alloc (by simp [World.setCell]; omega) _
end Go.Proofs.YthijiomaaiefaaaDoor
