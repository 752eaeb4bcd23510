/- Package trap's Get by contracts, whatever function it is given: one that comes back, one that panics. No condition. -/
import Derived.Test.YthijiomaaiefaaaDoorTg
import Derived.Shelf.Abstract
namespace Go.Proofs.YthijiomaaiefaaaDoor
open Go.RowKit

theorem hentGet : ∀ (args : Array Value) (w : World), (callFunc 19 args).run Tryd.prog w = .ok (.enter 19 args) w :=
  enters_of Tryd.func19 (by kernel_rfl) rfl

/-- What was noted of a world, and then the cell that the answer is kept in is written. -/
def Kept (gb : Nat) (r : Int) (R : World → Prop) (w' : World) : Prop := ∃ w1, R w1 ∧ w' = w1.setCell ⟨gb, 0, none⟩ (.int .i64 r)

set_option maxHeartbeats 800000 in
theorem get1_back (g : FuncId) (gcap : Array Value) (fb gb : Nat) (r : Int) (x : Value) (w : World) (R : World → Prop) (hent : ∀ (args : Array Value) (w : World), (callFunc g args).run Tryd.prog w = .ok (.enter g args) w)
    (hcf : w.cell? ⟨fb, 0, none⟩ = some (.func (.func g) #[] gcap))
    (hg : Calls Tryd.prog g gcap w fun e w' => e = .returned (.int .i64 r) ∧ R w')
    (hR : ∀ w', R w' → w'.heap[gb]? = some (.cells #[x] 3 (0, 0))) :
    Calls Tryd.prog 19 #[.pointer (some ⟨fb, 0, none⟩), .pointer (some ⟨gb, 0, none⟩)] w fun e w' => e = .returned (.tuple #[]) ∧ Kept gb r R w' := by
  go_enter Tryd.func19, Tryd.ntmps19
  go_wp2
  refine hg.mono ?_
  rintro e w1 ⟨rfl, hr⟩
  have hbk := hR w1 hr
  have hc := cell_block hbk
  have hz := free_block hbk
  have HR := Lib.hid hr
  clear hbk hR hg hr
  dsimp only
  go_at_K
  go_wp2
  go_end0
  exact ⟨rfl, w1, HR.out, rfl⟩

set_option maxHeartbeats 800000 in
theorem get1_dies (g : FuncId) (gcap : Array Value) (fb gb : Nat) (w : World) (R : Value → World → Prop) (hent : ∀ (args : Array Value) (w : World), (callFunc g args).run Tryd.prog w = .ok (.enter g args) w)
    (hcf : w.cell? ⟨fb, 0, none⟩ = some (.func (.func g) #[] gcap))
    (hg : Calls Tryd.prog g gcap w fun e w' => ∃ v, e = .panicked [{ v := v, recovered := false }] ∧ R v w') :
    Calls Tryd.prog 19 #[.pointer (some ⟨fb, 0, none⟩), .pointer (some ⟨gb, 0, none⟩)] w fun e w' => ∃ v, e = .panicked [{ v := v, recovered := false }] ∧ R v w' := by
  go_enter Tryd.func19, Tryd.ntmps19
  go_wp2
  refine hg.mono ?_
  rintro e w1 ⟨v, rfl, hr⟩
  exact ⟨rfl, v, rfl, hr⟩

/-- The world in which Get's function is called. -/
abbrev inGet (g : FuncId) (gcap : Array Value) (w : World) : World :=
  ((w.alloc (.cells #[.func (.func g) #[] gcap] 32)).alloc (.cells #[.int .i64 0] 3)).alloc (.cells #[.nilIface] 26)

theorem inGet_fn (g : FuncId) (gcap : Array Value) (w : World) : (inGet g gcap w).cell? ⟨w.heap.size, 0, none⟩ = some (.func (.func g) #[] gcap) := by
  rw [World.cell?_alloc_lt _ _ ⟨w.heap.size, 0, none⟩ (by simp; omega), World.cell?_alloc_lt _ _ ⟨w.heap.size, 0, none⟩ (by simp)]
  simp

set_option maxHeartbeats 1000000 in
/-- Get of a function that comes back: its answer, nil. -/
theorem get_back (g : FuncId) (gcap : Array Value) (r : Int) (w : World) (R : World → Prop) (hent : ∀ (args : Array Value) (w : World), (callFunc g args).run Tryd.prog w = .ok (.enter g args) w)
    (hg : Calls Tryd.prog g gcap (inGet g gcap w) fun e w' => e = .returned (.int .i64 r) ∧ R w')
    (hR : ∀ w', R w' → w'.heap[w.heap.size + 1]? = some (.cells #[.int .i64 0] 3 (0, 0)) ∧ w'.heap[w.heap.size + 1 + 1]? = some (.cells #[.nilIface] 26 (0, 0))) :
    Calls Tryd.prog 9 #[.func (.func g) #[] gcap] w fun e w' => e = .returned (.tuple #[.int .i64 r, .nilIface]) ∧ Kept (w.heap.size + 1) r R w' := by
  have hmf : ∀ (fn : Fn) (first cap : Array Value) (w : World), (Instr.makeFunc fn first cap).run Tryd.prog w = .ok (.func fn first cap) w := fun _ _ _ _ => rfl
  have hsome : ∀ (fn : Fn) (first cap : Array Value) (w : World), (binOp BinOp.eql 32 (.func fn first cap) .nilFunc).run Tryd.prog w = .ok (.bool false) w := fun _ _ _ _ => by kernel_rfl
  have h1 := get1_back g gcap w.heap.size (w.heap.size + 1) r (.int .i64 0) (inGet g gcap w) R hent (inGet_fn g gcap w) hg (fun w' h => (hR w' h).1)
  have hcl := call_back 19 #[.pointer (some ⟨w.heap.size, 0, none⟩), .pointer (some ⟨w.heap.size + 1, 0, none⟩)] ((w.alloc (.cells #[.func (.func g) #[] gcap] 32)).alloc (.cells #[.int .i64 0] 3)) (Kept (w.heap.size + 1) r R) hentGet h1
    (by
      rintro w' ⟨w1, hr, rfl⟩
      rw [Below.heap_setCell _ _ _ _ (by simp)]
      simpa using (hR w1 hr).2)
  have HR := Lib.hid hR
  clear hR hg h1
  go_enter Tryd.func9, Tryd.ntmps9
  go_wp2_with (go_at_call 6; refine hcl.mono ?_; clear hcl; rintro e w' ⟨rfl, w1, hr, rfl⟩; have hgb := (HR.out w1 hr).1; have hcc := cell_block hgb; clear hgb; replace hr := Lib.hid hr)
  go_ret2
  exact ⟨rfl, w1, hr.out, rfl⟩

/-- How Get tells of a function that panicked. -/
def TellsGet (B : Nat) (R : Value → World → Prop) (e : Ending) (w' : World) : Prop :=
  ∃ v w1, R v w1 ∧ e = .returned (.tuple #[.int .i64 0, .iface 44 (.pointer (some ⟨w1.heap.size, 0, none⟩))]) ∧
    w' = (w1.setCell ⟨B + 1 + 1, 0, none⟩ (.iface 44 (.pointer (some ⟨w1.heap.size, 0, none⟩)))).alloc (.cells #[v] 46)

set_option maxHeartbeats 1000000 in
/-- Get of a function that panics: zero, and a Trapped with that value. -/
theorem get_dies (g : FuncId) (gcap : Array Value) (w : World) (R : Value → World → Prop) (hent : ∀ (args : Array Value) (w : World), (callFunc g args).run Tryd.prog w = .ok (.enter g args) w)
    (hg : Calls Tryd.prog g gcap (inGet g gcap w) fun e w' => ∃ v, e = .panicked [{ v := v, recovered := false }] ∧ R v w')
    (hR : ∀ v w', R v w' → (∃ t x, v = .iface t x) ∧ w'.heap[w.heap.size + 1]? = some (.cells #[.int .i64 0] 3 (0, 0)) ∧ w'.heap[w.heap.size + 1 + 1]? = some (.cells #[.nilIface] 26 (0, 0))) :
    Calls Tryd.prog 9 #[.func (.func g) #[] gcap] w (TellsGet w.heap.size R) := by
  have hmf : ∀ (fn : Fn) (first cap : Array Value) (w : World), (Instr.makeFunc fn first cap).run Tryd.prog w = .ok (.func fn first cap) w := fun _ _ _ _ => rfl
  have hsome : ∀ (fn : Fn) (first cap : Array Value) (w : World), (binOp BinOp.eql 32 (.func fn first cap) .nilFunc).run Tryd.prog w = .ok (.bool false) w := fun _ _ _ _ => by kernel_rfl
  have h1 := get1_dies g gcap w.heap.size (w.heap.size + 1) (inGet g gcap w) R hent (inGet_fn g gcap w) hg
  have hcl := call_dies 19 #[.pointer (some ⟨w.heap.size, 0, none⟩), .pointer (some ⟨w.heap.size + 1, 0, none⟩)] ((w.alloc (.cells #[.func (.func g) #[] gcap] 32)).alloc (.cells #[.int .i64 0] 3)) R hentGet h1
    (by
      intro v w' hr
      refine ⟨(hR v w' hr).1, ?_⟩
      simpa using (hR v w' hr).2.2)
  have HR := Lib.hid hR
  clear hR hg h1
  go_enter Tryd.func9, Tryd.ntmps9
  go_wp2_with (go_at_call 6; refine hcl.mono ?_; clear hcl; rintro e w' ⟨v, w1, hr, rfl, rfl⟩; have hgb := (HR.out v w1 hr).2.1; have hgl := block_lt hgb; have hcc := cell_block hgb; clear hgb; replace hr := Lib.hid hr)
  go_ret2
  exact ⟨v, w1, hr.out, rfl, by simp⟩
end Go.Proofs.YthijiomaaiefaaaDoor
