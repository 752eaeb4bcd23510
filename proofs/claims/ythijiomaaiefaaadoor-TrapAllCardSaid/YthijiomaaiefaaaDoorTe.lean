/- errors.Is and errors.Unwrap of what package trap tells, by contracts (the library's own text is walked). No condition. -/
import Derived.Test.YthijiomaaiefaaaDoorTb
import Derived.WalkKit
import Derived.LaidEql
import Derived.Laws.StructEq
import Derived.Stop.Asserts
import Derived.RowKitTokens
namespace Go.Proofs.YthijiomaaiefaaaDoor
open Go.RowKit Go.Extern.Stop Go.Stop Go.Extern

theorem Tryd.infoCode : (Tryd.prog.info? 42).map (fun i => i.comparable) = some true := by kernel_rfl
theorem Tryd.infoText : (Tryd.prog.info? 9).map (fun i => i.comparable) = some true := by kernel_rfl

theorem errs_alike (depth : Nat) (a b : Int) (w : World) : (Op.equalIn (depth + 2) 26 (.iface 42 (.int .i64 a)) (.iface 42 (.int .i64 b))).run Tryd.prog w = .ok (a == b) w := by
  obtain ⟨i, hi, hc⟩ := Option.map_eq_some_iff.1 Tryd.infoCode
  have u26 := run_underlying (w := w) Tryd.underlying26
  simp [Op.equalIn, u26, typeInfo, hi, hc]
/-- Two errors that are numbers of api's own type are the same if the numbers are. -/
theorem eql_err (a b : Int) (w : World) : (binOp .eql 26 (.iface 42 (.int .i64 a)) (.iface 42 (.int .i64 b))).run Tryd.prog w = .ok (.bool (a == b)) w := by
  have h := errs_alike 9998 a b w
  simp only [binOp, Op.equal, Op.maxDepth]
  simp [h]
theorem codes_alike (depth : Nat) (a b : Int) (w : World) : (Op.equalIn (depth + 2) 20 (.iface 42 (.int .i64 a)) (.iface 42 (.int .i64 b))).run Tryd.prog w = .ok (a == b) w := by
  obtain ⟨i, hi, hc⟩ := Option.map_eq_some_iff.1 Tryd.infoCode
  have u26 := run_underlying (w := w) Tryd.underlying20
  simp [Op.equalIn, u26, typeInfo, hi, hc]
theorem eql_code (a b : Int) (w : World) : (binOp .eql 20 (.iface 42 (.int .i64 a)) (.iface 42 (.int .i64 b))).run Tryd.prog w = .ok (.bool (a == b)) w := by
  have h := codes_alike 9998 a b w
  simp only [binOp, Op.equal, Op.maxDepth]
  simp [h]
theorem texts_alike (depth : Nat) (a : ByteArray) (w : World) : (Op.equalIn (depth + 2) 20 (.iface 9 (.string a)) (.iface 9 (.string a))).run Tryd.prog w = .ok true w := by
  obtain ⟨i, hi, hc⟩ := Option.map_eq_some_iff.1 Tryd.infoText
  have u26 := run_underlying (w := w) Tryd.underlying20
  have hs : (a == a) = true := by rw [beq_toListBytes]; simp
  simp [Op.equalIn, u26, typeInfo, hi, hc, hs]
theorem eql_text (a : ByteArray) (w : World) : (binOp .eql 20 (.iface 9 (.string a)) (.iface 9 (.string a))).run Tryd.prog w = .ok (.bool true) w := by
  have h := texts_alike 9998 a w
  simp only [binOp, Op.equal, Op.maxDepth]
  simp [h]

/-! Closed facts: what the library's 'TypeOf(target).Comparable()' gives; what the assertions find. -/
theorem Tryd.isTypeOf (v : Value) (w : World) : (Extern.ReflectliteType.typeOf #[.iface 42 v]).run Tryd.prog w = .ok (.iface 71 (.agg #[.pointer (some ⟨4, 42, none⟩)])) w := by kernel_rfl
/-- The model's entry for 'Comparable'. -/
def compE : Array Value → Sem Value := Extern.ReflectliteType.method fun t => do Extern.Rtype.noPackHeld "Comparable" t; pure (.bool (← typeInfo t).comparable)
theorem Tryd.isComparable (w : World) : (compE #[.agg #[.pointer (some ⟨4, 42, none⟩)]]).run Tryd.prog w = .ok (.bool true) w := by kernel_rfl
theorem Tryd.isMethodComparable (v : Value) (w : World) : (Go.method 231 71 v "Comparable").run Tryd.prog w = .ok (71, v) w := by kernel_rfl

theorem Tryd.noIsT (v : Value) (xT : TypeId) (w : World) : (Instr.typeAssert (.iface 44 v) xT 73 true).run Tryd.prog w = .ok (.tuple #[.nilIface, .bool false]) w := run_typeAssert_lacksB Tryd.underlying73 (by kernel_rfl) (by kernel_rfl) v xT w
theorem Tryd.hasUnwrapT (v : Value) (xT : TypeId) (w : World) : (Instr.typeAssert (.iface 44 v) xT 67 true).run Tryd.prog w = .ok (.tuple #[.iface 44 v, .bool true]) w := run_typeAssert_hasB Tryd.underlying67 (by kernel_rfl) v xT w
theorem Tryd.methodUnwrapT (v : Value) (w : World) : (Go.method 231 44 v "Unwrap").run Tryd.prog w = .ok (64, v) w := by kernel_rfl
theorem Tryd.noIsB (v : Value) (xT : TypeId) (w : World) : (Instr.typeAssert (.iface 8 v) xT 73 true).run Tryd.prog w = .ok (.tuple #[.nilIface, .bool false]) w := run_typeAssert_lacksB Tryd.underlying73 (by kernel_rfl) (by kernel_rfl) v xT w
theorem Tryd.noUnwrapB (v : Value) (xT : TypeId) (w : World) : (Instr.typeAssert (.iface 8 v) xT 67 true).run Tryd.prog w = .ok (.tuple #[.nilIface, .bool false]) w := run_typeAssert_lacksB Tryd.underlying67 (by kernel_rfl) (by kernel_rfl) v xT w
theorem Tryd.noUnwrapsB (v : Value) (xT : TypeId) (w : World) : (Instr.typeAssert (.iface 8 v) xT 76 true).run Tryd.prog w = .ok (.tuple #[.nilIface, .bool false]) w := run_typeAssert_lacksB Tryd.underlying76 (by kernel_rfl) (by kernel_rfl) v xT w
theorem Tryd.errCode (v : Value) (xT : TypeId) (w : World) : (Instr.typeAssert (.iface 42 v) xT 26 true).run Tryd.prog w = .ok (.tuple #[.iface 42 v, .bool true]) w := run_typeAssert_hasB Tryd.underlying26 (by kernel_rfl) v xT w
theorem Tryd.errBounds (v : Value) (xT : TypeId) (w : World) : (Instr.typeAssert (.iface 8 v) xT 26 true).run Tryd.prog w = .ok (.tuple #[.iface 8 v, .bool true]) w := run_typeAssert_hasB Tryd.underlying26 (by kernel_rfl) v xT w
theorem Tryd.errText (v : Value) (xT : TypeId) (w : World) : (Instr.typeAssert (.iface 9 v) xT 26 true).run Tryd.prog w = .ok (.tuple #[.nilIface, .bool false]) w := run_typeAssert_lacksB Tryd.underlying26 (by kernel_rfl) (by kernel_rfl) v xT w

/-- What Unwrap makes of the value: a number as it is, ErrPanic of a text, the run-time's own error as it is. -/
def EO (v E : Value) : Prop :=
  (∃ a : Int, v = .iface 42 (.int .i64 a) ∧ E = .iface 42 (.int .i64 a)) ∨ (∃ s : ByteArray, v = .iface 9 (.string s) ∧ E = .iface 42 (.int .i64 11)) ∨ (∃ x : Value, v = .iface 8 x ∧ E = .iface 8 x)
theorem EO.code (a : Int) : EO (.iface 42 (.int .i64 a)) (.iface 42 (.int .i64 a)) := .inl ⟨a, rfl, rfl⟩
theorem EO.text (s : ByteArray) : EO (.iface 9 (.string s)) (.iface 42 (.int .i64 11)) := .inr (.inl ⟨s, rfl, rfl⟩)
theorem EO.out (x : Value) : EO (.iface 8 x) (.iface 8 x) := .inr (.inr ⟨x, rfl, rfl⟩)

set_option maxHeartbeats 800000 in
/-- (*Trapped).Unwrap. -/
theorem unwrap_any (tb : Nat) (v E : Value) (w : World) (h : EO v E) (hc : w.cell? ⟨tb, 0, none⟩ = some v) :
    Calls Tryd.prog 64 #[.pointer (some ⟨tb, 0, none⟩)] w fun e w' => e = .returned E ∧ w = w' := by
  have e1 := Tryd.errCode
  have e2 := Tryd.errBounds
  have e3 := Tryd.errText
  rcases h with ⟨a, rfl, rfl⟩ | ⟨s, rfl, rfl⟩ | ⟨x, rfl, rfl⟩
  all_goals
    go_enter Tryd.func64, Tryd.ntmps64
    go_wp2
    go_ret
    exact ⟨rfl, rfl⟩

set_option maxHeartbeats 2000000 in
/-- errors.Is of a Trapped, where what it unwraps to is the number that is asked for. -/
theorem is_same (tb : Nat) (v : Value) (a : Int) (w : World) (h : EO v (.iface 42 (.int .i64 a))) (hc : w.cell? ⟨tb, 0, none⟩ = some v) :
    Calls Tryd.prog 17 #[.iface 44 (.pointer (some ⟨tb, 0, none⟩)), .iface 42 (.int .i64 a)] w fun e w' => e = .returned (.bool true) ∧ w = w' := by
  have h8 := @run_callFunc_extern Tryd.prog 23 _ Extern.ReflectliteType.typeOf Tryd.func23 (by kernel_rfl) (by kernel_rfl) (by kernel_rfl) (by kernel_rfl)
  have h32 := @run_callFunc_extern Tryd.prog 71 _ compE Tryd.func71 (by kernel_rfl) (by kernel_rfl) (by kernel_rfl) (by kernel_rfl)
  have tT := Tryd.isTypeOf
  have cT := Tryd.isComparable
  have mR := Tryd.isMethodComparable
  have n1 := Tryd.noIsT
  have n2 := Tryd.hasUnwrapT
  have n3 := Tryd.methodUnwrapT
  have hty := run_eql_iface_types (P := Tryd.prog) 44 42 (.pointer (some ⟨tb, 0, none⟩)) (.int .i64 a) Tryd.underlying26 (by decide) w
  have heq := eql_err a a w
  go_enter Tryd.func17, Tryd.ntmps17
  go_wp2
  refine wp_loop_rounds 2 ?_
  rw [rounds_succ]
  go_wp2_with (go_at_call 64; refine (unwrap_any tb v _ _ h hc).mono ?_; rintro e w' ⟨rfl, rfl⟩)
  rw [rounds_succ]
  go_wp2
  go_ret
  exact ⟨rfl, rfl⟩

set_option maxHeartbeats 2000000 in
/-- errors.Is of a Trapped of the run-time's own error: it is no number. -/
theorem is_out (tb : Nat) (x : Value) (a : Int) (w : World) (hc : w.cell? ⟨tb, 0, none⟩ = some (.iface 8 x)) :
    Calls Tryd.prog 17 #[.iface 44 (.pointer (some ⟨tb, 0, none⟩)), .iface 42 (.int .i64 a)] w fun e w' => e = .returned (.bool false) ∧ w = w' := by
  have h8 := @run_callFunc_extern Tryd.prog 23 _ Extern.ReflectliteType.typeOf Tryd.func23 (by kernel_rfl) (by kernel_rfl) (by kernel_rfl) (by kernel_rfl)
  have h32 := @run_callFunc_extern Tryd.prog 71 _ compE Tryd.func71 (by kernel_rfl) (by kernel_rfl) (by kernel_rfl) (by kernel_rfl)
  have tT := Tryd.isTypeOf
  have cT := Tryd.isComparable
  have mR := Tryd.isMethodComparable
  have n1 := Tryd.noIsT
  have n2 := Tryd.hasUnwrapT
  have n3 := Tryd.methodUnwrapT
  have b1 := Tryd.noIsB
  have b2 := Tryd.noUnwrapB
  have b3 := Tryd.noUnwrapsB
  have hty := run_eql_iface_types (P := Tryd.prog) 44 42 (.pointer (some ⟨tb, 0, none⟩)) (.int .i64 a) Tryd.underlying26 (by decide) w
  have hty2 := run_eql_iface_types (P := Tryd.prog) 8 42 x (.int .i64 a) Tryd.underlying26 (by decide) w
  go_enter Tryd.func17, Tryd.ntmps17
  go_wp2
  refine wp_loop_rounds 2 ?_
  rw [rounds_succ]
  go_wp2_with (go_at_call 64; refine (unwrap_any tb _ _ _ (EO.out x) hc).mono ?_; rintro e w' ⟨rfl, rfl⟩)
  rw [rounds_succ]
  go_wp2
  go_ret
  exact ⟨rfl, rfl⟩

set_option maxHeartbeats 800000 in
/-- errors.Unwrap of a Trapped. -/
theorem errors_unwrap (tb : Nat) (v E : Value) (w : World) (h : EO v E) (hc : w.cell? ⟨tb, 0, none⟩ = some v) :
    Calls Tryd.prog 22 #[.iface 44 (.pointer (some ⟨tb, 0, none⟩))] w fun e w' => e = .returned E ∧ w = w' := by
  have n2 := Tryd.hasUnwrapT
  have n3 := Tryd.methodUnwrapT
  go_enter Tryd.func22, Tryd.ntmps22
  go_wp2_with (go_at_call 64; refine (unwrap_any tb v _ _ h hc).mono ?_; rintro e w' ⟨rfl, rfl⟩)
  go_ret
  exact ⟨rfl, rfl⟩
end Go.Proofs.YthijiomaaiefaaaDoor
