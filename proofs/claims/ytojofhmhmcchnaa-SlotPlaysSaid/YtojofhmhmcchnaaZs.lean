/- SlotPlays where nothing is done; its walk. Condition: what came in can be read. -/
import Derived.Test.YtojofhmhmcchnaaZr
namespace Go.Proofs.Ytojofhmhmcchnaa
open Go.RowKit
set_option linter.unusedVariables false
set_option maxRecDepth 100000

set_option maxHeartbeats 4000000 in
theorem plays_out (w : World) {n : Int} (hn : n < 1 ∨ 32 < n) (v : Value) : Calls Try.prog 3 #[.int .i64 n, v] w fun e w' => e = .returned (.bool true) ∧ Below w.heap.size w w' := by
  have HUP := Lib.hid (up_any w)
  have HN := Lib.hid (fun w1 => new_no w1 hn)
  have ee := eql_err
  rcases hn with hn | hn
  · go_enter Try.func3, Try.ntmps3
    go_wp2_with fail
    refine HUP.out.mono ?_
    rintro e w1 ⟨rfl, hb1⟩
    have HB1 := Lib.hid hb1
    clear hb1
    go_wp2_with fail
    refine (HN.out w1).mono ?_
    rintro e w2 ⟨rfl, rfl⟩
    go_wp2
    go_ret
    exact ⟨rfl, HB1.out⟩
  · have h1 : ¬ (n < 1) := by omega
    go_enter Try.func3, Try.ntmps3
    go_wp2_with fail
    refine HUP.out.mono ?_
    rintro e w1 ⟨rfl, hb1⟩
    have HB1 := Lib.hid hb1
    clear hb1
    go_wp2_with fail
    refine (HN.out w1).mono ?_
    rintro e w2 ⟨rfl, rfl⟩
    go_wp2
    go_ret
    exact ⟨rfl, HB1.out⟩

set_option maxHeartbeats 4000000 in
theorem plays_long (w : World) {n k : Nat} (A : Option Addr) (c : Nat) (h1 : 1 ≤ n) (h32 : n ≤ 32) (hk : 150 < k) : Calls Try.prog 3 #[.int .i64 n, .slice A k c] w fun e w' => e = .returned (.bool true) ∧ Below w.heap.size w w' := by
  have HUP := Lib.hid (up_any w)
  have HN := Lib.hid (fun w1 => new_yes (fun _ => False) w1 h1 h32)
  have hn1 : ¬ ((n : Int) < 1) := by omega
  have hn2 : ¬ ((32 : Int) < (n : Int)) := by omega
  have hk1 : decide (150 < (k : Int)) = true := by simp; omega
  have hk2 : decide (150 < k) = true := by simp; omega
  go_enter Try.func3, Try.ntmps3
  go_wp2_with fail
  refine HUP.out.mono ?_
  rintro e w1 ⟨rfl, hb1⟩
  have HB1 := Lib.hid hb1
  clear hb1
  go_wp2_with fail
  refine (HN.out w1).mono ?_
  rintro e w2 ⟨rfl, -, hb2⟩
  have HB2 := Lib.hid (HB1.out.trans (hb2.mono HB1.out.size))
  clear hb2
  go_wp2
  go_ret
  exact ⟨rfl, HB2.out⟩

/-- New slots, both rows. -/
theorem ps_new {w w1 w2 : World} {n : Nat} (hb1 : Below w.heap.size w w1) (hs : SlO (fun _ => False) w2 (w1.heap.size + 1) w1.heap.size n (List.replicate n sl0)) (hb2 : Below w1.heap.size w1 w2) :
    PS w (w1.heap.size + 1) w1.heap.size w2.heap.size n (List.replicate n sl0) (List.replicate n sl0) (w2.alloc (.cells (madeCells zs14 (n * 14)) 51)) := by
  have hl := hs.lt
  have hbs := hb1.size
  have hal : Below w2.heap.size w2 (w2.alloc (.cells (madeCells zs14 (n * 14)) 51)) := (Below.refl _ _).alloc (Nat.le_refl _) _
  have h2 := hs.below hal
  exact ⟨⟨h2.1, h2.2.1, h2.2.2.1, h2.2.2.2.mono (fun k hk => hk.elim)⟩, slM_new _ w2 _ n, ok_new n, ok_new n, sm_new n, sm_new n, (hb1.trans (hb2.mono hbs)).trans (hal.mono (by have := hb2.size; omega)), by omega, hbs, by have := hb2.size; omega, by omega, by omega⟩

/-- A deed in a new box. -/
theorem box_d (w : World) (h : Qh) (k : Sh) (x : De) : ∃ W, W = w.alloc (.cells #[.int .i64 x.what, .int .i64 x.i, .int .i64 x.cl, .int .i64 x.sq, .int .i64 x.r.cl, .int .i64 x.r.sq, .int .i64 x.r.kind, .slice h.A h.n h.c, .slice h.B h.m h.d, .slice h.C h.o h.p, .slice h.D h.q h.s, .int .i64 x.r.limit, .int .i64 x.a.code, .bool x.a.found, .slice k.A k.n k.c, .slice k.B k.m k.d, .int .u64 x.a.stamp] 39) ∧
    Below w.heap.size w W ∧ BoxD W w.heap.size h k x ∧ W.heap.size = w.heap.size + 1 := ⟨_, rfl, (Below.refl _ _).alloc (Nat.le_refl _) _, Deep.blk_alloc_new _ _, by simp⟩

end Go.Proofs.Ytojofhmhmcchnaa
