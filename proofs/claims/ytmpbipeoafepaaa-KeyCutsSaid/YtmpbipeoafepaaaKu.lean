/- The law's head (the document's example): it returns true; nothing that was there is changed. No condition. -/
import Derived.Test.YtmpbipeoafepaaaKt
import Derived.Lib.SlBytesConst
import Derived.Lib.SmallJoins
namespace Go.Proofs.Ytmpbipeoafepaaa
open Go.RowKit
set_option linter.unusedVariables false

theorem byt_lit (w : World) (u : UInt8) (x : Int) (hx : x = (u.toNat : Int)) (fr : Nat × Nat) : Byt (w.alloc (.cells #[.int .u8 x] 5 fr)) (some ⟨w.heap.size, 0, none⟩) 1 [u] := by
  refine ⟨rfl, fun _ => ⟨_, rfl, by simp, fun j hj => ?_⟩⟩
  obtain rfl : j = 0 := by simp at hj; omega
  have := World.cell?_alloc_mark w #[.int .u8 x] 5 fr 0
  simpa [Addr.add, hx] using this

/-- What the head's Cut leaves. -/
def CutLit (w : World) (e : Ending) (w' : World) : Prop :=
  ∃ A n c B m d A' n' c' B' m' d', e = .returned (.tuple #[.agg #[.slice A n c, .slice B m d], .agg #[.slice A' n' c', .slice B' m' d'], .nilIface]) ∧ (Byt w' B m [99] ∧ Byt w' A' n' [99] ∧ Byt w' B' m' [100]) ∧ Below w.heap.size w w'

theorem cut_lit (w : World) : Calls Try.prog 9 #[.agg #[.slice (some ⟨w.heap.size, 0, none⟩) 1 1, .slice (some ⟨w.heap.size + 1, 0, none⟩) 1 1], .slice (some ⟨w.heap.size + 1 + 1, 0, none⟩) 1 1]
    (((w.alloc (.cells #[.int .u8 98] 5 (1, 2))).alloc (.cells #[.int .u8 100] 5 (1, 2))).alloc (.cells #[.int .u8 99] 5 (1, 2))) (CutLit w) := by
  have b1 := ((byt_lit w 98 98 rfl (1, 2)).alloc (.cells #[.int .u8 100] 5 (1, 2))).alloc (.cells #[.int .u8 99] 5 (1, 2))
  have b2 := (byt_lit (w.alloc (.cells #[.int .u8 98] 5 (1, 2))) 100 100 rfl (1, 2)).alloc (.cells #[.int .u8 99] 5 (1, 2))
  have b3 := byt_lit ((w.alloc (.cells #[.int .u8 98] 5 (1, 2))).alloc (.cells #[.int .u8 100] 5 (1, 2))) 99 99 rfl (1, 2)
  have e1 : (w.alloc (.cells #[.int .u8 98] 5 (1, 2))).heap.size = w.heap.size + 1 := by simp
  have e2 : ((w.alloc (.cells #[.int .u8 98] 5 (1, 2))).alloc (.cells #[.int .u8 100] 5 (1, 2))).heap.size = w.heap.size + 1 + 1 := by simp
  rw [e1] at b2
  rw [e2] at b3
  have hk : cutK [98] [100] [99] = 0 := by decide
  refine (cut_any 1 1 1 b1 b2 b3 (by omega) (by omega) (by omega)).mono ?_
  rintro e w' ⟨A, n, c, B, m, d, A', n', c', B', m', d', rfl, h, hb⟩
  rw [hk] at h
  obtain ⟨⟨h1, h2⟩, h3, h4⟩ := h rfl
  refine ⟨A, n, c, B, m, d, A', n', c', B', m', d', by rw [hk]; rfl, ⟨h2, h3, h4⟩, ?_⟩
  exact ((((Below.refl _ w).alloc (Nat.le_refl _) _).alloc (by simp) _).alloc (by simp; omega) _).trans (hb.mono (by simp; omega))

set_option maxRecDepth 100000 in
set_option maxHeartbeats 2000000 in
theorem up_any (w : World) : Calls Try.prog 4 #[] w fun e w' => e = .returned (.bool true) ∧ Below w.heap.size w w' := by
  have kc := fun (w : World) (C : Array Value) (n c g : Nat) (hg : g = w.heap.size) => Joins.run_convert_bytes_const_at (P := Try.prog) w 22 5 C n c g hg Try.underlying22 Try.underlying5
  go_enter Try.func4, Try.ntmps4
  go_wp2_with fail
  refine (cut_lit w).mono ?_
  rintro e w1 ⟨A, n, c, B, m, d, A', n', c', B', m', d', rfl, hB, hb⟩
  have HB := Lib.hid hB
  have HW := Lib.hid hb
  clear hB hb
  have r1 := run_str (c := d) ((HB.out.1.alloc (.cells #[.slice A n c, .slice B m d] 24)).alloc (.cells #[.slice A' n' c', .slice B' m' d'] 24))
  have r2 := run_str (c := c') ((HB.out.2.1.alloc (.cells #[.slice A n c, .slice B m d] 24)).alloc (.cells #[.slice A' n' c', .slice B' m' d'] 24))
  have r3 := run_str (c := d') ((HB.out.2.2.alloc (.cells #[.slice A n c, .slice B m d] 24)).alloc (.cells #[.slice A' n' c', .slice B' m' d'] 24))
  go_wp2_with fail
  have b4 := byt_lit ((w1.alloc (.cells #[.slice A n c, .slice B m d] 24)).alloc (.cells #[.slice A' n' c', .slice B' m' d'] 24)) 97 97 rfl (1, 2)
  have e4 : ((w1.alloc (.cells #[.slice A n c, .slice B m d] 24)).alloc (.cells #[.slice A' n' c', .slice B' m' d'] 24)).heap.size = w1.heap.size + 1 + 1 := by simp
  rw [e4] at b4
  clear e4
  have h4 : Calls Try.prog _ _ _ fun e w' => e = .returned (.bool true) ∧ _ = w' := may_any 1 b4 (by unfold maxLen; omega)
  clear b4
  refine h4.mono ?_
  rintro e w2 ⟨rfl, rfl⟩
  clear h4
  go_wp2_with fail
  have b5 := Box.new (((w1.alloc (.cells #[.slice A n c, .slice B m d] 24)).alloc (.cells #[.slice A' n' c', .slice B' m' d'] 24)).alloc (.cells #[.int .u8 97] 5 (1, 2))) (.slice none 0 0) (.slice none 0 0)
  have e5 : (((w1.alloc (.cells #[.slice A n c, .slice B m d] 24)).alloc (.cells #[.slice A' n' c', .slice B' m' d'] 24)).alloc (.cells #[.int .u8 97] 5 (1, 2))).heap.size = w1.heap.size + 1 + 1 + 1 := by simp
  rw [e5] at b5
  clear e5
  refine (tiles_one _ _ b5).mono ?_
  rintro e w3 ⟨rfl, hb3⟩
  have H3 := Lib.hid hb3
  clear hb3 b5
  go_wp2
  go_ret
  have hs := HW.out.size
  exact ⟨rfl, ((((HW.out.alloc hs _).alloc (by simp; omega) _).alloc (by simp; omega) _).alloc (by simp; omega) _).trans (H3.out.mono (by simp; omega))⟩
end Go.Proofs.Ytmpbipeoafepaaa
