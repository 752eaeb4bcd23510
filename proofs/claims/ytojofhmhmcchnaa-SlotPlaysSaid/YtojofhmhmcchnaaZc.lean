/- Contracts of package slot's First, serves and turn, slices.Contains, and of the document's own First and Turn. Condition: slots of which there are at most 32. -/
import Derived.Test.YtojofhmhmcchnaaZb
namespace Go.Proofs.Ytojofhmhmcchnaa
open Go.RowKit
set_option linter.unusedVariables false
set_option maxRecDepth 100000

/-- A number's box. -/
theorem box_i (w : World) (s : Int) : ∃ W, W = w.alloc (.cells #[.int .i64 s] 3) ∧ Below w.heap.size w W ∧ W.cell? ⟨w.heap.size, 0, none⟩ = some (.int .i64 s) ∧ W.heap.size = w.heap.size + 1 :=
  ⟨_, rfl, (Below.refl _ _).alloc (Nat.le_refl _) _, by simp, by simp⟩

set_option maxHeartbeats 1000000 in
theorem sfirst_any {C : Nat → Prop} {w : World} {p b n : Nat} (s : Int) {L : List Sl} (h : SlO C w p b n L) :
    Calls Try.prog 24 #[.pointer (some ⟨p, 0, none⟩), .int .i64 s] w fun e w' => e = .returned (.int .i64 (firstS L s)) ∧ Below w.heap.size w w' := by
  obtain ⟨W, hW, hWB, hWc, hWs⟩ := box_i w s
  have HI := Lib.hid (first_at (h.below hWB) hWc (by omega))
  have hp := h.ptr
  have hpl := h.lt
  have hpn : ¬ (p = w.heap.size) := by omega
  have HB := Lib.hid hWB
  have hWe := Lib.hid hW
  clear h hW hWB hWc hWs
  go_enter Try.func24, Try.ntmps24
  go_wp2_with fail
  rw [← hWe.out]
  refine HI.out.mono ?_
  rintro e w2 ⟨rfl, hb2⟩
  go_wp2
  go_ret
  exact ⟨rfl, HB.out.trans (hb2.mono HB.out.size)⟩

set_option maxHeartbeats 1000000 in
theorem served_fn {w : World} {A : Value} {n c : Nat} {r : Int} (H : Hid (Calls Try.prog 34 #[.slice (some ⟨n, 0, none⟩) c c, .func (.func 41) #[] #[A]] w fun e w' => e = .returned (.int .i64 r) ∧ Below w.heap.size w w')) :
    Calls Try.prog 40 #[.slice (some ⟨n, 0, none⟩) c c, .func (.func 41) #[] #[A]] w fun e w' => e = .returned (.bool (decide (0 ≤ r))) ∧ Below w.heap.size w w' := by
  go_enter Try.func40, Try.ntmps40
  go_wp2_with fail
  refine H.out.mono ?_
  rintro e w2 ⟨rfl, hb2⟩
  go_wp2
  go_ret
  exact ⟨rfl, hb2⟩

set_option maxHeartbeats 1000000 in
theorem serves_any {C : Nat → Prop} {w : World} {p b n : Nat} (c : Int) {L : List Sl} (h : SlO C w p b n L) :
    Calls Try.prog 28 #[.pointer (some ⟨p, 0, none⟩), .int .i64 c] w fun e w' => e = .returned (.bool (servesB L c)) ∧ Below w.heap.size w w' := by
  obtain ⟨W, hW, hWB, hWc, hWs⟩ := box_i w c
  have HI := Lib.hid (served_fn (Lib.hid (served_at (h.below hWB) hWc (by omega))))
  rw [← h.len, show decide (0 ≤ fst (fun k => (sl L k).st != 0 && (sl L k).r.cl == c) L.length) = servesB L c from rfl] at HI
  rw [h.len] at HI
  have hp := h.ptr
  have hpl := h.lt
  have hpn : ¬ (p = w.heap.size) := by omega
  have HB := Lib.hid hWB
  have hWe := Lib.hid hW
  clear h hW hWB hWc hWs
  go_enter Try.func28, Try.ntmps28
  go_wp2_with fail
  rw [← hWe.out]
  refine HI.out.mono ?_
  rintro e w2 ⟨rfl, hb2⟩
  go_wp2
  go_ret
  exact ⟨rfl, HB.out.trans (hb2.mono HB.out.size)⟩

set_option maxHeartbeats 2000000 in
theorem dfirst_any {C : Nat → Prop} {w : World} {T : TypeId} {b n : Nat} (s : Int) {L : List Sl} (h : SlM C w T b n L) (hn : n ≤ 32) :
    Calls Try.prog 25 #[.slice (some ⟨b, 0, none⟩) n n, .int .i64 s] w fun e w' => e = .returned (.int .i64 (firstS L s)) ∧ w = w' := by
  have H := Lib.hid h
  have hlen := h.len
  have HF := Lib.hid (And.intro (fun (j : Nat) (h1 : (sl L j).st = s) (h2 : ∀ k, k < j → (sl L k).st ≠ s) (h3 : j < n) => show firstS L s = j from fst_at (p := fun k => (sl L k).st == s) (by simpa using h1) (fun k hk => by simpa using h2 k hk) (by rw [hlen]; exact h3))
    (fun (h1 : ∀ k, k < n → (sl L k).st ≠ s) => show firstS L s = -1 from fst_no (p := fun k => (sl L k).st == s) (fun k hk => by simpa using h1 k (by omega))))
  clear h hlen
  go_enter Try.func25, Try.ntmps25
  go_wp2
  go_loop [5] (fun i => ∃ j : Nat, j ≤ n ∧ i = .int .i64 j ∧ Hid (∀ k, k < j → (sl L k).st ≠ s)) (fun i => n - (intOf i).toNat)
  case atStart => exact ⟨0, Nat.zero_le _, rfl, Lib.hid (fun k hk => absurd hk (by omega))⟩
  case round =>
    obtain ⟨j, hj, rfl, HI⟩ := hrel
    by_cases hlt : j < n
    · obtain ⟨h1, k1, hx, -, -⟩ := H.out.at_ hlt
      have HJ := Lib.hid (And.intro (HF.out.1 j) (show ∀ k, k < j + 1 → k < j ∨ k = j from fun k hk => by omega))
      have x0 := hx.1
      clear hx
      obtain ⟨x, hxe⟩ : ∃ x, x = (sl L j).st := ⟨_, rfl⟩
      rw [← hxe] at x0 HJ
      have HX := Lib.hid hxe
      clear hxe
      by_cases hz : x = s
      · have HZ := Lib.hid hz
        subst hz
        go_wp2
        go_ret
        exact ⟨ret_int (HJ.out.1 (by simp) HI.out hlt).symm, rfl⟩
      · have HZ := Lib.hid hz
        have hzb : (x == s) = false := by simpa using hz
        clear hz
        go_wp2
        go_round
        case rel => exact ⟨j + 1, by omega, by go_num, Lib.hid (fun k hk => by
          rcases HJ.out.2 k hk with hk | rfl
          · exact HI.out k hk
          · rw [← HX.out]; exact HZ.out)⟩
        case measure => simp [intOf]; omega
    · obtain rfl : j = n := by omega
      go_wp2
      go_ret
      exact ⟨ret_int (HF.out.2 HI.out).symm, rfl⟩
end Go.Proofs.Ytojofhmhmcchnaa
