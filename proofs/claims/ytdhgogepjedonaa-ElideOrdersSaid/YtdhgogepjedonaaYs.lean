/- The law's head (the document's example): it returns true; nothing that was there is changed. No condition. -/
import Derived.Test.YtdhgogepjedonaaYr
namespace Go.Proofs.Ytdhgogepjedonaa
open Go.RowKit
set_option linter.unusedVariables false
set_option maxRecDepth 100000

def putQa : Rq := ⟨0, 0, 2, [97], [], [], [], 0⟩
def delQa : Rq := ⟨0, 0, 3, [97], [], [], [], 0⟩
def upHa (b : Nat) : Qh := ⟨some ⟨b, 0, none⟩, 1, 1, none, 0, 0, none, 0, 0, none, 0, 0⟩
theorem up13_facts : fitR false [] [putQa, delQa] 2 = true ∧ (thenQ [] [putQa, delQa] 1 2).length = 0 ∧ (gs (allQ [] [putQa, delQa] 1 2) 1).found = true ∧ smallQ putQa = true ∧ smallQ delQa = true ∧ fitR false [] [] 0 = false := by decide
theorem reqs_nil (w : World) : Reqs w none 0 [] := ⟨rfl, Nat.zero_le _, fun h => absurd h (by omega)⟩

set_option maxHeartbeats 4000000 in
theorem up_any (w : World) : Calls Try.prog 5 #[] w fun e w' => e = .returned (.bool true) ∧ Below w.heap.size w w' := by
  obtain ⟨w1, hw1⟩ : ∃ w1, w1 = w.alloc (.cells #[.int .u8 97] 5 (1, 2)) := ⟨_, rfl⟩
  have ha : Byt w1 (some ⟨w.heap.size, 0, none⟩) 1 [97] := by rw [hw1]; exact byt_lit w 97 97 rfl (1, 2)
  have hb1 : Below w.heap.size w w1 := by rw [hw1]; exact (Below.refl _ _).alloc (Nat.le_refl _) _
  have hs1 : w1.heap.size = w.heap.size + 1 := by rw [hw1]; simp
  obtain ⟨w2, hw2⟩ : ∃ w2, w2 = w1.alloc (.cells #[.int .u8 97] 5 (1, 2)) := ⟨_, rfl⟩
  have hb : Byt w2 (some ⟨w1.heap.size, 0, none⟩) 1 [97] := by rw [hw2]; exact byt_lit w1 97 97 rfl (1, 2)
  have hb2 : Below w1.heap.size w1 w2 := by rw [hw2]; exact (Below.refl _ _).alloc (Nat.le_refl _) _
  have hs2 : w2.heap.size = w.heap.size + 1 + 1 := by rw [hw2, ← hs1]; simp
  rw [hs1] at hb
  have hR1 : RqR w2 (upHa w.heap.size) putQa := ⟨ha.below hb2, byt_none _, byt_none _, byt_none _⟩
  have hR2 : RqR w2 (upHa (w.heap.size + 1)) delQa := ⟨hb, byt_none _, byt_none _, byt_none _⟩
  obtain ⟨W, hW, hWB, hWR, hWs⟩ := two_reqs hR1 hR2
  rw [hs2] at hWR
  have HRUN := Lib.hid (run_yes_no (V := none) (nv := 0) (cv := 0) (room := true) (val := []) (c := 2) (byt_none W) hWR (small_two up13_facts.2.2.2.1 up13_facts.2.2.2.2.1) (by omega) up13_facts.1)
  have HNO := Lib.hid (fun (w' : World) => run_no (w := w') (V := none) (A := none) (nv := 0) (cv := 0) (c := 0) (room := true) (has := false) (val := []) (M := []) (byt_none w') (reqs_nil w') (fun j hj => by omega) (by omega) up13_facts.2.2.2.2.2)
  have HB := Lib.hid ((hb1.trans (hb2.mono (by omega))).trans (hWB.mono (by omega)))
  have hWe := Lib.hid (show W = ((w.alloc (.cells #[.int .u8 97] 5 (1, 2))).alloc (.cells #[.int .u8 97] 5 (1, 2))).alloc (.cells #[.int .i64 0, .int .i64 0, .int .i64 2, .slice (some ⟨w.heap.size, 0, none⟩) 1 1, .slice none 0 0, .slice none 0 0, .slice none 0 0, .int .i64 0, .int .i64 0, .int .i64 0, .int .i64 3, .slice (some ⟨w.heap.size + 1, 0, none⟩) 1 1, .slice none 0 0, .slice none 0 0, .slice none 0 0, .int .i64 0] 41) by
    rw [hW, hw2, hw1]
    rfl)
  clear hw1 ha hb1 hs1 hw2 hb hb2 hs2 hR1 hR2 hW hWB hWR hWs
  have ee := fun w => eql_err 1 1 w
  have kc := fun (w : World) (C : Array Value) (n c g : Nat) (hg : g = w.heap.size) => Joins.run_convert_bytes_const_at (P := Try.prog) w 31 5 C n c g hg Try.underlying31 Try.underlying5
  go_enter Try.func5, Try.ntmps5
  go_wp2_with fail
  rw [← hWe.out]
  refine HRUN.out.mono ?_
  rintro e w3 ⟨A2, c2, B, mb, db, rfl, hrs, -, hb3⟩
  have hz : (thenQ (rowR false (gq [putQa, delQa] 0).key []) [putQa, delQa] (mostR false true) 2).length = 0 := up13_facts.2.1
  have hch : chgQ (rowR false (gq [putQa, delQa] 0).key []).length (thenQ (rowR false (gq [putQa, delQa] 0).key []) [putQa, delQa] (mostR false true) 2) [] = false := by
    unfold chgQ
    rw [if_pos hz]
    rfl
  rw [hz, hch, show decide (0 < 0) = false from rfl]
  obtain ⟨b, o, rfl, hbl, g2, y0, y1, y2, y3, y4, -⟩ := hrs.at_ (j := 1) (by omega)
  have hfd : (gs (allQ (rowR false (gq [putQa, delQa] 0).key []) [putQa, delQa] (mostR false true) 2) 1).found = true := up13_facts.2.2.1
  rw [hfd] at y1
  have HB3 := Lib.hid (HB.out.trans (hb3.mono HB.out.size))
  simp only [Nat.one_mul] at y1
  clear hrs hb3 HRUN hWe hz hch hfd y0 y2 y3 y4
  go_upto_region 2 with fail
  obtain ⟨w4, hw4⟩ : ∃ w4, w4 = w3.alloc (.cells #[.slice (some ⟨b, o, none⟩) 2 c2, .bool false, .slice B mb db, .bool false] 34) := ⟨_, rfl⟩
  rw [← hw4]
  have hb4 : Below w3.heap.size w3 w4 := by rw [hw4]; exact (Below.refl _ _).alloc (Nat.le_refl _) _
  have z0 : w4.cell? ⟨w3.heap.size, 0, none⟩ = some (.slice (some ⟨b, o, none⟩) 2 c2) := by rw [hw4]; simp
  have z1 : w4.cell? ⟨w3.heap.size, 1, none⟩ = some (.bool false) := by rw [hw4]; simp
  have z3 : w4.cell? ⟨w3.heap.size, 3, none⟩ = some (.bool false) := by rw [hw4]; simp
  have hs4 : w3.heap.size < w4.heap.size := by rw [hw4]; simp
  have y1 := (hb4.cell (p := ⟨b, o + 5 + 1, none⟩) hbl).trans y1
  have hbl4 : b < w4.heap.size := by omega
  have HB4 := Lib.hid (HB3.out.trans (hb4.mono HB3.out.size))
  have HN4 := Lib.hid (HNO.out w4)
  clear hw4 hb4 HNO
  go_wp2_with fail
  refine HN4.out.mono ?_
  rintro e w5 ⟨rfl, hb5⟩
  have HB5 := Lib.hid (HB4.out.trans (hb5.mono HB4.out.size))
  have z0 := (hb5.cell (p := ⟨w3.heap.size, 0, none⟩) hs4).trans z0
  have z1 := (hb5.cell (p := ⟨w3.heap.size, 1, none⟩) hs4).trans z1
  have z3 := (hb5.cell (p := ⟨w3.heap.size, 3, none⟩) hs4).trans z3
  have y1 := (hb5.cell (p := ⟨b, o + 5 + 1, none⟩) hbl4).trans y1
  have hw35 : w3.heap.size < w5.heap.size := Nat.lt_of_lt_of_le hs4 hb5.size
  have hbl5 : b < w5.heap.size := Nat.lt_of_lt_of_le hbl4 hb5.size
  clear hb5 HN4
  go_upto_region 3 with fail
  obtain ⟨w6, hw6⟩ : ∃ w6, w6 = w5.alloc (.cells #[.slice none 0 0, .bool false, .slice none 0 0, .bool false] 34) := ⟨_, rfl⟩
  rw [← hw6]
  have hb6 : Below w5.heap.size w5 w6 := by rw [hw6]; exact (Below.refl _ _).alloc (Nat.le_refl _) _
  have HB6 := Lib.hid (HB5.out.trans (hb6.mono HB5.out.size))
  have z0 := (hb6.cell (p := ⟨w3.heap.size, 0, none⟩) hw35).trans z0
  have z1 := (hb6.cell (p := ⟨w3.heap.size, 1, none⟩) hw35).trans z1
  have z3 := (hb6.cell (p := ⟨w3.heap.size, 3, none⟩) hw35).trans z3
  have y1 := (hb6.cell (p := ⟨b, o + 5 + 1, none⟩) hbl5).trans y1
  clear hw6 hb6
  go_wp2
  go_ret
  exact ⟨rfl, HB6.out⟩
end Go.Proofs.Ytdhgogepjedonaa
