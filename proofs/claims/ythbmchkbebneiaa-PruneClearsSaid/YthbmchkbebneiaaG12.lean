/- The contract of package prune's halve: a node as two, which share its memory. Condition: a leaf has a pair; another node has three keys, and one kid more. The contract of package prune's mend where a kid has enough. Condition: a sound tree's node, in blocks of its own. What mend leaves of an arena's numbers is what laying two neighbours anew leaves of the tree. Plain; no condition. -/
import Derived.Test.YthbmchkbebneiaaG11
import Derived.Test.YthbmchkbebneiaaG5
import Derived.Deep.DeepCutAuto
import Derived.Deep.RegionLaw
namespace Go.Proofs.Ythbmchkbebneiaa
open Go.RowKit
set_option linter.unusedVariables false
set_option maxRecDepth 100000

/-- What halve leaves. -/
def PHalved (w : World) (C : Nat → Prop) (x : Nd) (z : Int) (e : Ending) (w' : World) : Prop :=
  ∃ h1 h2 FA fn fc, e = .returned (.tuple #[ndV h1 (leftN x z), .slice FA fn fc, ndV h2 (rightN x)]) ∧ On C w' (NdR · h1 (leftN x z)) ∧ On C w' (NdR · h2 (rightN x)) ∧ On C w' (Byt · FA fn (sepN x)) ∧ Below w.heap.size w w'

theorem five_here {w : World} {b : Nat} {T : TypeId} {a0 a1 a2 a3 a4 : Value} (u1 u2 u3 u4 u5 : Value) (h : w.heap[b]? = some (.cells #[a0, a1, a2, a3, a4] T (0, 0))) :
    (((((w.setCell ⟨b, 0, none⟩ u1).setCell ⟨b, 1, none⟩ u2).setCell ⟨b, 2, none⟩ u3).setCell ⟨b, 3, none⟩ u4).setCell ⟨b, 4, none⟩ u5).heap[b]? = some (.cells #[u1, u2, u3, u4, u5] T (0, 0)) := by
  simp [World.setCell, Array.getElem?_modify, h]
theorem ten_world {w w1 : World} {T : TypeId} {a0 a1 a2 a3 a4 b0 b1 b2 b3 b4 : Value} (h : Below w.heap.size w w1) (q1 : w1.heap[w.heap.size + 1]? = some (.cells #[a0, a1, a2, a3, a4] T (0, 0))) (q2 : w1.heap[w.heap.size + 1 + 1]? = some (.cells #[b0, b1, b2, b3, b4] T (0, 0))) (u1 u2 u3 u4 u5 v1 v2 v3 v4 v5 : Value) (o1 o2 : Obj) :
    ∃ V, V = ((((((((((((w1.setCell ⟨w.heap.size + 1, 0, none⟩ u1).setCell ⟨w.heap.size + 1, 1, none⟩ u2).setCell ⟨w.heap.size + 1, 2, none⟩ u3).setCell ⟨w.heap.size + 1, 3, none⟩ u4).setCell ⟨w.heap.size + 1, 4, none⟩ u5).setCell ⟨w.heap.size + 1 + 1, 0, none⟩ v1).setCell ⟨w.heap.size + 1 + 1, 1, none⟩ v2).setCell ⟨w.heap.size + 1 + 1, 2, none⟩ v3).setCell ⟨w.heap.size + 1 + 1, 3, none⟩ v4).setCell ⟨w.heap.size + 1 + 1, 4, none⟩ v5).alloc o1).alloc o2) ∧
      Below w.heap.size w V ∧ V.heap[w.heap.size + 1]? = some (.cells #[u1, u2, u3, u4, u5] T (0, 0)) ∧ V.heap[w.heap.size + 1 + 1]? = some (.cells #[v1, v2, v3, v4, v5] T (0, 0)) := by
  have h1 := five_below h (b := w.heap.size + 1) (by omega) 0 u1 u2 u3 u4 u5
  have h2 := five_below h1 (b := w.heap.size + 1 + 1) (by omega) 0 v1 v2 v3 v4 v5
  have h3 := h2.alloc h2.size o1
  have k1 := five_here u1 u2 u3 u4 u5 q1
  have k2 := (five_other (w := w1) (g := w.heap.size + 1 + 1) (b := w.heap.size + 1) (by omega) 0 u1 u2 u3 u4 u5).trans q2
  have k3 := (five_other (w := ((((w1.setCell ⟨w.heap.size + 1, 0, none⟩ u1).setCell ⟨w.heap.size + 1, 1, none⟩ u2).setCell ⟨w.heap.size + 1, 2, none⟩ u3).setCell ⟨w.heap.size + 1, 3, none⟩ u4).setCell ⟨w.heap.size + 1, 4, none⟩ u5) (g := w.heap.size + 1) (b := w.heap.size + 1 + 1) (by omega) 0 v1 v2 v3 v4 v5).trans k1
  have k4 := five_here v1 v2 v3 v4 v5 k2
  refine ⟨_, rfl, h3.alloc h3.size o2, ?_, ?_⟩
  · have l := (Array.getElem?_eq_some_iff.1 k3).1
    rw [Below.heap_alloc _ _ _ (by simp at l ⊢; omega), Below.heap_alloc _ _ _ l]
    exact k3
  · have l := (Array.getElem?_eq_some_iff.1 k4).1
    rw [Below.heap_alloc _ _ _ (by simp at l ⊢; omega), Below.heap_alloc _ _ _ l]
    exact k4

set_option maxHeartbeats 4000000 in
theorem phalve_leaf {w : World} {C : Nat → Prop} {h : Nh} {x : Nd} (z : Int) (hC : ∀ b, C b → b < w.heap.size) (hr : On C w (NdR · h x)) (hl : x.leaf = true) (h0 : 1 ≤ x.pairs.length) (hn : x.pairs.length ≤ 1000) :
    Calls Try.prog 89 #[ndV h x, .int .i64 z] w (PHalved w C x z) := by
  have HSZ : Hid (∀ v : World, Calls Try.prog 84 #[ndV h x] v fun e w' => e = .returned (.int .i64 h.n) ∧ Below v.heap.size v w') := Lib.hid fun v => (size_any (h := h) (x := x)).mono fun e w' hh => ⟨by rw [hh.1]; unfold szN; rw [hl]; rfl, hh.2⟩
  obtain ⟨A, n, c, B, m, d, K, k, ee⟩ := h
  have hpl : x.pairs.length = n := hr.here.1.1
  have hcn : n ≤ c := hr.here.1.2.1
  have hP := fun hj => prs_key_on (j := n / 2) (hr.imp fun v hv => hv.1) hj
  obtain ⟨b, o, FA, fn, fc, hA, hbl, hcell, hbyt⟩ := hP (by show n / 2 < n; omega)
  simp only at hA
  subst hA
  have HR := Lib.hid hr
  have HC := Lib.hid hC
  obtain ⟨P, hPe⟩ : ∃ P, P = n / 2 := ⟨_, rfl⟩
  rw [← hPe] at hcell hbyt
  have hq : (n : Int) / 2 = (P : Int) := by omega
  have hPn : P < n := by omega
  have hcP : ¬ (c = P) := by have : n ≤ c := hcn; omega
  have HB := Lib.hid (And.intro hbyt (And.intro hPe hpl))
  have hn1 : n ≤ 1000 := by omega
  have hPc : P ≤ c := by have : n ≤ c := hcn; omega
  have HCELL := Lib.hid (And.intro hbl hcell)
  have W0 := Lib.hid (three_new w (.cells #[.bool x.leaf, .slice (some ⟨b, o, none⟩) n c, .slice B m d, .slice K k ee, .int .i64 x.next] 74) (.cells #[.bool false, .slice none 0 0, .slice none 0 0, .slice none 0 0, .int .i64 0] 74) (.cells #[.bool false, .slice none 0 0, .slice none 0 0, .slice none 0 0, .int .i64 0] 74))
  have HLF := Lib.hid hl
  clear hr hbyt hC hP h0 hn hpl hPe hcn hbl hcell hl
  go_enter Try.func89, Try.ntmps89
  go_wp2_with fail
  obtain ⟨W, hW, hWB, hWs, hX0, hX1, hX2⟩ := W0.out
  rw [← hW]
  clear hW W0
  refine (HSZ.out W).mono ?_
  rintro e w1 ⟨rfl, hb1⟩
  have hB1 : Below w.heap.size w w1 := hWB.trans (hb1.mono hWB.size)
  rw [HLF.out] at hX0
  have q0 := (hb1.block w.heap.size (by omega)).trans hX0
  have q1 := (hb1.block (w.heap.size + 1) (by omega)).trans hX1
  have q2 := (hb1.block (w.heap.size + 1 + 1) (by omega)).trans hX2
  obtain ⟨b0, b1, b2, b3, b4, -⟩ := five q0
  obtain ⟨c0, c1, c2, c3, c4, f0, f1, f2, f3, f4⟩ := five q1
  obtain ⟨d0, d1, d2, d3, d4, g0, g1, g2, g3, g4⟩ := five q2
  have hs1 := hb1.size
  have hlt : b < w1.heap.size := Nat.lt_of_lt_of_le HCELL.out.1 hB1.size
  have hlt0 : w.heap.size < w1.heap.size := by omega
  have hlt1 : w.heap.size + 1 < w1.heap.size := by omega
  have hlt2 : w.heap.size + 1 + 1 < w1.heap.size := by omega
  have hcell1 : w1.cell? ⟨b, o + P * 2, none⟩ = some (.slice FA fn fc) := (hB1.cell (p := ⟨b, o + P * 2, none⟩) HCELL.out.1).trans HCELL.out.2
  have hbw := HCELL.out.1
  have hn1' : ¬ (b = w.heap.size + 1) := by omega
  have hn2' : ¬ (w.heap.size + 1 = b) := by omega
  have hn3' : ¬ (b = w.heap.size + 1 + 1) := by omega
  have hn4' : ¬ (w.heap.size + 1 + 1 = b) := by omega
  have HB1 := Lib.hid (And.intro hB1 (And.intro q1 q2))
  clear hWB hX0 hX1 hX2 hb1 hB1 q0 q1 q2 hs1 hWs
  go_wp2_with fail
  go_region
  go_wp2
  go_region
  go_wp2
  obtain ⟨V, hV, hVB, hV1, hV2⟩ := ten_world HB1.out.1 HB1.out.2.1 HB1.out.2.2 (.bool true) (.slice (some ⟨b, o, none⟩) P c) (.slice none 0 0) (.slice none 0 0) (.int .i64 z) (.bool true) (.slice (some ⟨b, o + P * 2, none⟩) (n - P) (c - P)) (.slice none 0 0) (.slice none 0 0) (.int .i64 x.next) (.cells #[.bool true, .slice (some ⟨b, o, none⟩) P c, .slice none 0 0, .slice none 0 0, .int .i64 z] 74) (.cells #[.bool true, .slice (some ⟨b, o + P * 2, none⟩) (n - P) (c - P), .slice none 0 0, .slice none 0 0, .int .i64 x.next] 74)
  rw [← hV]
  clear hV b0 b1 b2 b3 b4 c0 c1 c2 c3 c4 d0 d1 d2 d3 d4 f0 f1 f2 f3 f4 g0 g1 g2 g3 g4
  obtain ⟨c0, c1, c2, c3, c4, -⟩ := five hV1
  obtain ⟨d0, d1, d2, d3, d4, -⟩ := five hV2
  have e1 : leftN x z = ⟨true, x.pairs.take P, [], [], z⟩ := by unfold leftN; rw [if_pos HLF.out, HB.out.2.2, ← HB.out.2.1]
  have e2 : rightN x = ⟨true, x.pairs.drop P, [], [], x.next⟩ := by unfold rightN; rw [if_pos HLF.out, HB.out.2.2, ← HB.out.2.1]
  have e3 : sepN x = (gt x.pairs P).1 := by unfold sepN; rw [if_pos HLF.out, HB.out.2.2, ← HB.out.2.1]
  refine bodyPost_ret (v := .tuple #[ndV ⟨some ⟨b, o, none⟩, P, c, none, 0, 0, none, 0, 0⟩ (leftN x z), .slice FA fn fc, ndV ⟨some ⟨b, o + P * 2, none⟩, n - P, c - P, none, 0, 0, none, 0, 0⟩ (rightN x)]) (by simp [results, Try.results89, go_sem, e1, e2, c0, c1, c2, c3, c4, d0, d1, d2, d3, d4]) rfl ⟨_, _, FA, fn, fc, rfl, ?_, ?_, ?_, ?_⟩
  · rw [e1]
    exact (HR.out.imp fun v hv => ⟨hv.1.upto (Nat.le_of_lt hPn), kys_nil v, ins_nil v⟩).keep (below_all hVB.drew.drew)
  · rw [e2]
    refine (HR.out.imp fun v hv => ⟨?_, kys_nil v, ins_nil v⟩).keep (below_all hVB.drew.drew)
    have := hv.1.from (k := P) (Nat.le_of_lt hPn)
    unfold cutA at this
    simp only [if_neg hcP, Option.map_some, add_lit] at this
    exact this
  · rw [e3]
    exact HB.out.1.keep (below_all hVB.drew.drew)
  · exact hVB.drew.drew

set_option maxHeartbeats 4000000 in
theorem phalve_node {w : World} {C : Nat → Prop} {h : Nh} {x : Nd} (z : Int) (hC : ∀ b, C b → b < w.heap.size) (hr : On C w (NdR · h x)) (hl : x.leaf = false) (h0 : 3 ≤ x.keys.length) (hkk : x.kids.length = x.keys.length + 1) (hn : x.keys.length ≤ 1000) :
    Calls Try.prog 89 #[ndV h x, .int .i64 z] w (PHalved w C x z) := by
  have HSZ : Hid (∀ v : World, Calls Try.prog 84 #[ndV h x] v fun e w' => e = .returned (.int .i64 h.m) ∧ Below v.heap.size v w') := Lib.hid fun v => (size_any (h := h) (x := x)).mono fun e w' hh => ⟨by rw [hh.1]; unfold szN; rw [hl]; rfl, hh.2⟩
  obtain ⟨A, n, c, B, m, d, K, k, ee⟩ := h
  have hpl : x.keys.length = m := hr.here.2.1.1
  have hkl : x.kids.length = k := hr.here.2.2.1
  have hcn : m ≤ d := hr.here.2.1.2.1
  have hcd : d ≤ maxLen := hr.here.2.1.2.2.1
  have hce : k ≤ ee := hr.here.2.2.2.1
  have hee : ee ≤ maxLen := hr.here.2.2.2.2.1
  unfold maxLen at hcd hee
  obtain rfl : k = m + 1 := by omega
  obtain ⟨b, o, FA, fn, fc, hA, hbl, hcell, hbyt⟩ := kys_key_on (j := m / 2) (hr.imp fun v hv => hv.2.1) (by show m / 2 < m; omega)
  simp only at hA
  subst hA
  obtain ⟨bi, oi, hK, hbi, -⟩ := hr.here.2.2.at_ (j := 0) (by show 0 < m + 1; omega)
  simp only at hK
  subst hK
  have HR := Lib.hid hr
  have HC := Lib.hid hC
  obtain ⟨P, hPe⟩ : ∃ P, P = m / 2 := ⟨_, rfl⟩
  rw [← hPe] at hcell hbyt
  have hq : (m : Int) / 2 = (P : Int) := by omega
  have hPn : P < m := by omega
  have hcP : ¬ (d = P) := by omega
  have hcP1 : ¬ (ee = P + 1) := by omega
  have HB := Lib.hid (And.intro hbyt (And.intro hPe hpl))
  have hn1 : m ≤ 1000 := by omega
  have hPc : P ≤ d := by omega
  have hPe1 : P + 1 ≤ ee := by omega
  have hPm1 : P + 1 ≤ m := by omega
  have hPm2 : P + 1 ≤ m + 1 := by omega
  have hPl : P + 1 < m := by omega
  have hcd1 : ¬ (d = P + 1) := by omega
  have HCELL := Lib.hid (And.intro hbl hcell)
  have HLF := Lib.hid hl
  have W0 := Lib.hid (three_new w (.cells #[.bool x.leaf, .slice A n c, .slice (some ⟨b, o, none⟩) m d, .slice (some ⟨bi, oi, none⟩) (m + 1) ee, .int .i64 x.next] 74) (.cells #[.bool false, .slice none 0 0, .slice none 0 0, .slice none 0 0, .int .i64 0] 74) (.cells #[.bool false, .slice none 0 0, .slice none 0 0, .slice none 0 0, .int .i64 0] 74))
  clear hr hbyt hC h0 hn hpl hPe hcn hkl hkk hbl hcell hl
  go_enter Try.func89, Try.ntmps89
  go_wp2_with fail
  obtain ⟨W, hW, hWB, hWs, hX0, hX1, hX2⟩ := W0.out
  rw [← hW]
  clear hW W0
  refine (HSZ.out W).mono ?_
  rintro e w1 ⟨rfl, hb1⟩
  have hB1 : Below w.heap.size w w1 := hWB.trans (hb1.mono hWB.size)
  rw [HLF.out] at hX0
  have q0 := (hb1.block w.heap.size (by omega)).trans hX0
  have q1 := (hb1.block (w.heap.size + 1) (by omega)).trans hX1
  have q2 := (hb1.block (w.heap.size + 1 + 1) (by omega)).trans hX2
  obtain ⟨b0, b1, b2, b3, b4, -⟩ := five q0
  obtain ⟨c0, c1, c2, c3, c4, f0, f1, f2, f3, f4⟩ := five q1
  obtain ⟨d0, d1, d2, d3, d4, g0, g1, g2, g3, g4⟩ := five q2
  have hs1 := hb1.size
  have hlt : b < w1.heap.size := Nat.lt_of_lt_of_le HCELL.out.1 hB1.size
  have hlt0 : w.heap.size < w1.heap.size := by omega
  have hlt1 : w.heap.size + 1 < w1.heap.size := by omega
  have hlt2 : w.heap.size + 1 + 1 < w1.heap.size := by omega
  have hcell1 : w1.cell? ⟨b, o + P, none⟩ = some (.slice FA fn fc) := (hB1.cell (p := ⟨b, o + P, none⟩) HCELL.out.1).trans HCELL.out.2
  have hbw := HCELL.out.1
  have hn1' : ¬ (b = w.heap.size + 1) := by omega
  have hn2' : ¬ (w.heap.size + 1 = b) := by omega
  have hn3' : ¬ (b = w.heap.size + 1 + 1) := by omega
  have hn4' : ¬ (w.heap.size + 1 + 1 = b) := by omega
  have HB1 := Lib.hid (And.intro hB1 (And.intro q1 q2))
  clear hWB hX0 hX1 hX2 hb1 hB1 q0 q1 q2 hs1 hWs
  go_wp2_with fail
  go_region
  go_wp2
  go_region
  go_wp2
  go_region
  go_wp2
  obtain ⟨V, hV, hVB, hV1, hV2⟩ := ten_world HB1.out.1 HB1.out.2.1 HB1.out.2.2 (.bool false) (.slice none 0 0) (.slice (some ⟨b, o, none⟩) P d) (.slice (some ⟨bi, oi, none⟩) (P + 1) ee) (.int .i64 0) (.bool false) (.slice none 0 0) (.slice (some ⟨b, o + (P + 1), none⟩) (m - (P + 1)) (d - (P + 1))) (.slice (some ⟨bi, oi + (P + 1), none⟩) (m - P) (ee - (P + 1))) (.int .i64 0) (.cells #[.bool false, .slice none 0 0, .slice (some ⟨b, o, none⟩) P d, .slice (some ⟨bi, oi, none⟩) (P + 1) ee, .int .i64 0] 74) (.cells #[.bool false, .slice none 0 0, .slice (some ⟨b, o + (P + 1), none⟩) (m - (P + 1)) (d - (P + 1)), .slice (some ⟨bi, oi + (P + 1), none⟩) (m - P) (ee - (P + 1)), .int .i64 0] 74)
  rw [← hV]
  clear hV b0 b1 b2 b3 b4 c0 c1 c2 c3 c4 d0 d1 d2 d3 d4 f0 f1 f2 f3 f4 g0 g1 g2 g3 g4
  obtain ⟨c0, c1, c2, c3, c4, -⟩ := five hV1
  obtain ⟨d0, d1, d2, d3, d4, -⟩ := five hV2
  have e1 : leftN x z = ⟨false, [], x.keys.take P, x.kids.take (P + 1), 0⟩ := by unfold leftN; rw [if_neg (by simp [HLF.out]), HB.out.2.2, ← HB.out.2.1]
  have e2 : rightN x = ⟨false, [], x.keys.drop (P + 1), x.kids.drop (P + 1), 0⟩ := by unfold rightN; rw [if_neg (by simp [HLF.out]), HB.out.2.2, ← HB.out.2.1]
  have e3 : sepN x = kat x.keys P := by unfold sepN; rw [if_neg (by simp [HLF.out]), HB.out.2.2, ← HB.out.2.1]
  refine bodyPost_ret (v := .tuple #[ndV ⟨none, 0, 0, some ⟨b, o, none⟩, P, d, some ⟨bi, oi, none⟩, P + 1, ee⟩ (leftN x z), .slice FA fn fc, ndV ⟨none, 0, 0, some ⟨b, o + (P + 1), none⟩, m - (P + 1), d - (P + 1), some ⟨bi, oi + (P + 1), none⟩, m - P, ee - (P + 1)⟩ (rightN x)]) (by simp [results, Try.results89, go_sem, e1, e2, c0, c1, c2, c3, c4, d0, d1, d2, d3, d4]) rfl ⟨_, _, FA, fn, fc, rfl, ?_, ?_, ?_, ?_⟩
  · rw [e1]
    exact (HR.out.imp fun v hv => ⟨prs_nil v, hv.2.1.upto (Nat.le_of_lt hPn), hv.2.2.upto hPm2⟩).keep (below_all hVB.drew.drew.drew)
  · rw [e2]
    refine (HR.out.imp fun v hv => ⟨prs_nil v, ?_, ?_⟩).keep (below_all hVB.drew.drew.drew)
    · have := hv.2.1.from (k := P + 1) hPm1
      unfold cut1 at this
      simp only [if_neg hcd1, Option.map_some, add_lit] at this
      exact this
    · have := hv.2.2.from (k := P + 1) hPm2
      rw [show m + 1 - (P + 1) = m - P by omega] at this
      unfold cut1 at this
      simp only [if_neg hcP1, Option.map_some, add_lit] at this
      exact this
  · rw [e3]
    exact HB.out.1.keep (below_all hVB.drew.drew.drew)
  · exact hVB.drew.drew.drew
end Go.Proofs.Ythbmchkbebneiaa

namespace Go.Proofs.Ythbmchkbebneiaa
open Go.RowKit
set_option linter.unusedVariables false
set_option maxRecDepth 100000

/-- A node in a block of five cells. -/
def Box (w : World) (p : Nat) (h : Nh) (x : Nd) : Prop := w.heap[p]? = some (.cells #[.bool x.leaf, .slice h.A h.n h.c, .slice h.B h.m h.d, .slice h.K h.k h.e, .int .i64 x.next] 74 (0, 0))
theorem Box.lt {w : World} {p : Nat} {h : Nh} {x : Nd} (hb : Box w p h x) : p < w.heap.size := (Array.getElem?_eq_some_iff.1 hb).1
theorem Box.at {w w' : World} {p : Nat} {h : Nh} {x : Nd} (hb : Box w p h x) (e : w'.heap[p]? = w.heap[p]?) : Box w' p h x := e.trans hb
theorem Box.below {w w' : World} {p : Nat} {h : Nh} {x : Nd} (hb : Box w p h x) (hw : Below w.heap.size w w') : Box w' p h x := hb.at (hw.block p hb.lt)
/-- What it has of what it may have too few. -/
def szNd (x : Nd) : Nat := if x.leaf then x.pairs.length else x.keys.length
theorem sz_nh {w : World} {h : Nh} {x : Nd} (hr : NdR w h x) : szN h x = szNd x := by
  unfold szN szNd
  rw [hr.1.1, hr.2.1.1]
theorem iat_cell {w : World} {h : Nh} {x : Nd} {C : Nat → Prop} (hn : NodeIn w C h x) {j : Nat} {z : Int} (hz : x.kids[j]? = some z) : ∃ bi, h.K = some ⟨bi, 0, none⟩ ∧ C bi ∧ bi < w.heap.size ∧ w.cell? ⟨bi, j, none⟩ = some (.int .i64 z) ∧ j < h.k := by
  have hl : j < x.kids.length := (List.getElem?_eq_some_iff.1 hz).1
  have hk : h.k = x.kids.length := hn.reads.here.2.2.1.symm
  obtain ⟨bi, hK, -, hbi⟩ := own_at hn.kids (by omega)
  refine ⟨bi, hK, hn.inK _ hK, hbi, ?_, by omega⟩
  have hr := hn.kids
  rw [hK] at hr
  rw [hr.cellAt j (by omega), List.getElem?_map, hz]
  rfl

theorem five_set {w : World} {b : Nat} {T : TypeId} {a0 a1 a2 a3 a4 : Value} (u0 u1 u2 u3 u4 : Value) (h : w.heap[b]? = some (.cells #[a0, a1, a2, a3, a4] T (0, 0))) :
    ∃ W, W = ((((w.setCell ⟨b, 0, none⟩ u0).setCell ⟨b, 1, none⟩ u1).setCell ⟨b, 2, none⟩ u2).setCell ⟨b, 3, none⟩ u3).setCell ⟨b, 4, none⟩ u4 ∧ W.heap[b]? = some (.cells #[u0, u1, u2, u3, u4] T (0, 0)) ∧ Only (· = b) w W := by
  refine ⟨_, rfl, by simp [World.setCell, Array.getElem?_modify, h], ?_⟩
  exact (((((Only.refl (· = b) w).set ⟨b, 0, none⟩ u0 (.inr rfl)).set ⟨b, 1, none⟩ u1 (.inr rfl)).set ⟨b, 2, none⟩ u2 (.inr rfl)).set ⟨b, 3, none⟩ u3 (.inr rfl)).set ⟨b, 4, none⟩ u4 (.inr rfl)

/-- What mend asks. -/
structure MendIn (w : World) (D Cn : Nat → Prop) (tb g : Nat) (L : List (Option Nd)) (F : List Nat) (root m many i : Nat) (n : Nd) (hn : Nh) (kid sh : Nat) (xs : Nd) : Prop where
  tr : TrM w D tb g L F root m many
  nin : NodeIn w Cn hn n
  cn : ∀ b, Cn b → ¬ D b ∧ b ≠ tb ∧ b < w.heap.size
  lf : n.leaf = false
  kk : n.kids.length = n.keys.length + 1
  k1 : 1 ≤ n.keys.length
  k16 : n.keys.length ≤ 16
  kid : n.kids[kid]? = some (sh : Int)
  sh : lat L sh = some xs
  few : L.length ≤ 2000
  m16 : m ≤ 16
/-- What was told of the short node. -/
def Got8 (W : World) (xs : Nd) (s8 s9 : Value) (wx : World) : Prop := ∃ p8 h8, s8 = .pointer (some ⟨p8, 0, none⟩) ∧ s9 = .bool true ∧ Below W.heap.size W wx ∧ Box wx p8 h8 xs ∧ W.heap.size ≤ p8 ∧ szN h8 xs = szNd xs

set_option maxHeartbeats 8000000 in
set_option linter.unusedSimpArgs false in
theorem mend_enough {w : World} {D Cn : Nat → Prop} {tb g : Nat} {L : List (Option Nd)} {F : List Nat} {root m many i : Nat} {n : Nd} {hn : Nh} {kid sh : Nat} {xs : Nd} (h : MendIn w D Cn tb g L F root m many i n hn kid sh xs) (hs : m / 2 ≤ szNd xs) :
    Calls Try.prog 72 #[.pointer (some ⟨tb, 0, none⟩), .int .i64 i, ndV hn n, .int .i64 kid] w fun e w' => e = .returned (.tuple #[]) ∧ Below w.heap.size w w' := by
  obtain ⟨bi, hK, hCi, hbi, hci, hkk⟩ := iat_cell h.nin h.kid
  have hkid : kid ≤ 16 := by have := h.kk; have := h.k16; have := (List.getElem?_eq_some_iff.1 h.kid).1; omega
  obtain ⟨A, an, ac, B, bn, bc, K, kn, kc⟩ := hn
  simp only at hK hkk
  subst hK
  have H := Lib.hid h
  have HS := Lib.hid hs
  have HCI := Lib.hid (And.intro hbi hci)
  have W0 := Lib.hid (box5 w (.bool n.leaf) (.slice A an ac) (.slice B bn bc) (.slice (some ⟨bi, 0, none⟩) kn kc) (.int .i64 n.next) 74)
  clear h hs hci hCi
  go_enter Try.func72, Try.ntmps72
  go_wp2_with fail
  obtain ⟨W, hW, hWB, hWs, hWh⟩ := W0.out
  rw [← hW]
  have HT := Lib.hid (H.out.tr.below hWB)
  have HBX := Lib.hid (show Box W w.heap.size ⟨A, an, ac, B, bn, bc, some ⟨bi, 0, none⟩, kn, kc⟩ n from hWh)
  have HWB := Lib.hid (And.intro hWB hWs)
  clear hW W0 hWB hWh hWs
  go_upto_region 1 with fail
  go_cut [8, 9] (fun s8 s9 wx => Got8 W xs s8 s9 wx)
  case first =>
    obtain ⟨c0, -, -, -, -, -⟩ := HT.out.cells
    obtain ⟨-, -, -, b3, -, -⟩ := five HBX.out
    have hk1 : W.cell? ⟨bi, kid, none⟩ = some (.int .i64 sh) := (HWB.out.1.cell (p := ⟨bi, kid, none⟩) HCI.out.1).trans HCI.out.2
    have htl : tb < W.heap.size := HT.out.lt.1
    have hbl : bi < W.heap.size := by have := HCI.out.1; have := HWB.out.2; omega
    have hpl : w.heap.size < W.heap.size := by have := HWB.out.2; omega
    have HG : Hid (∀ V : World, Below W.heap.size W V → Calls Try.prog 38 #[.pointer (some ⟨g, 0, none⟩), .int .i64 sh] V (GotN V xs)) := Lib.hid fun V hV => get_node (HT.out.below hV).2.1 (by have := lat_lt H.out.sh; have := H.out.few; omega) H.out.sh
    have HK := Lib.hid (And.intro c0 (And.intro b3 hk1))
    go_region_law (first
      | (go_simp
         go_at_call 38
         refine (HG.out _ (by first | exact (Below.refl W.heap.size W).drew | exact ((Below.refl W.heap.size W).drew).alloc (Nat.le_refl _) _ | exact ((Below.refl W.heap.size W).alloc (Nat.le_refl _) _).drew)).mono ?_
         rintro e w2 ⟨h8, rfl, hin8, hb8⟩
         have hb2 : Below W.heap.size W w2 := by first | exact undrew hb8 | exact (((Below.refl W.heap.size W).drew).alloc (Nat.le_refl _) _).trans (hb8.mono (by simp)) | exact (((Below.refl W.heap.size W).alloc (Nat.le_refl _) _).drew).trans (hb8.mono (by simp))
         have c0 := (hb2.cell (p := ⟨tb, 0, none⟩) htl).trans HK.out.1
         have b3 := (hb2.cell (p := ⟨w.heap.size, 3, none⟩) hpl).trans HK.out.2.1
         have hk1 := (hb2.cell (p := ⟨bi, kid, none⟩) hbl).trans HK.out.2.2
         first | (have Z := Lib.hid ((hb8.block W.heap.size (by simp)).trans (heap_alloc_new W _)); obtain ⟨z0, z1, z2, z3, z4, y0, y1, y2, y3, y4⟩ := five Z.out) | skip
         have HB2 := Lib.hid (And.intro hb2 (And.intro hin8.reads hb8))
         clear hb2 hin8 hb8
         go_wp2_with fail))
    all_goals
      first
        | (obtain ⟨V, hV, hVB, hVs, hVh⟩ := box5 w2 (.bool xs.leaf) (.slice h8.A h8.n h8.c) (.slice h8.B h8.m h8.d) (.slice h8.K h8.k h8.e) (.int .i64 xs.next) 74
           rw [← hV]
           have HG8 := Lib.hid (show Got8 W xs (.pointer (some ⟨w2.heap.size, 0, none⟩)) (.bool true) V from ⟨_, h8, rfl, rfl, HB2.out.1.trans (hVB.mono HB2.out.1.size), hVh, HB2.out.1.size, sz_nh HB2.out.2.1.here⟩))
        | (obtain ⟨V, hV, hVh, hVO⟩ := five_set (.bool xs.leaf) (.slice h8.A h8.n h8.c) (.slice h8.B h8.m h8.d) (.slice h8.K h8.k h8.e) (.int .i64 xs.next) Z.out
           rw [← hV]
           have HG8 := Lib.hid (show Got8 W xs (.pointer (some ⟨W.heap.size, 0, none⟩)) (.bool true) V from ⟨_, h8, rfl, rfl, HB2.out.1.trans (hVO.below (fun b hb => by rw [hb]; exact Nat.le_refl _) HB2.out.1.size), hVh, Nat.le_refl _, sz_nh HB2.out.2.1.here⟩))
      clear hV
      go_wp2
      go_meet
      exact HG8.out
  case rest =>
    obtain ⟨p8, h8, rfl, rfl, hb, hbx, hp8, hsz⟩ := hcut
    have HB := Lib.hid (And.intro hb (And.intro hbx (And.intro hp8 hsz)))
    have hbW := HWB.out.1.trans (hb.mono HWB.out.1.size)
    have HBW := Lib.hid hbW
    have HT2 := Lib.hid (H.out.tr.below hbW)
    obtain ⟨c0, -, c2, -, -, -⟩ := HT2.out.cells
    obtain ⟨d0, d1, d2, d3, d4, -⟩ := five hbx
    have hb6 := HBX.out.below hb
    obtain ⟨-, -, k2, -, -, -⟩ := five hb6
    have hp6l := hb6.lt
    clear hb hbx hp8 hsz hbW hb6
    obtain ⟨at', hat⟩ : ∃ a, a = kid - 1 := ⟨_, rfl⟩
    have hmax : max ((kid : Int) - 1) 0 = (at' : Int) := by omega
    obtain ⟨sz, hsz'⟩ : ∃ a, a = szNd xs := ⟨_, rfl⟩
    obtain ⟨m2, hm2⟩ : ∃ a, a = m / 2 := ⟨_, rfl⟩
    have hw2 : IntKind.i64.wrap ((m : Int) / 2) = (m2 : Int) := by have := H.out.m16; rw [IntWalk.i64_in _ (by omega)]; omega
    have hge : (m2 : Int) ≤ (sz : Int) := by have := HS.out; omega
    have hgeN : decide (m2 ≤ sz) = true := by have := HS.out; simp; omega
    have hnlt : ¬ ((sz : Int) < (m2 : Int)) := by omega
    have hnltN : ¬ (sz < m2) := by omega
    have HSZ : Hid (∀ v : World, Calls Try.prog 84 #[ndV h8 xs] v fun e w' => e = .returned (.int .i64 sz) ∧ Below v.heap.size v w') := Lib.hid fun v => (size_any (h := h8) (x := xs)).mono fun e w' hh => ⟨by rw [hh.1, HB.out.2.2.2, hsz'], hh.2⟩
    have htl := HT2.out.lt.1
    have hp8l := HB.out.2.1.lt
    have HK := Lib.hid (And.intro c2 (And.intro d0 (And.intro d1 (And.intro d2 (And.intro d3 (And.intro d4 k2))))))
    clear hsz' hat hm2
    go_upto_region 3 with fail
    refine wp_region_held_drew (S := (fun w' => w'.cell? ⟨tb, 2, none⟩ = some (.int .i64 m) ∧ w'.cell? ⟨p8, 0, none⟩ = some (.bool xs.leaf) ∧ w'.cell? ⟨p8, 1, none⟩ = some (.slice h8.A h8.n h8.c) ∧ w'.cell? ⟨p8, 2, none⟩ = some (.slice h8.B h8.m h8.d) ∧ w'.cell? ⟨p8, 3, none⟩ = some (.slice h8.K h8.k h8.e) ∧ w'.cell? ⟨p8, 4, none⟩ = some (.int .i64 xs.next))) (by kernel_rfl) ?_ (fun hHeld => ?_)
    · go_keep
    refine wpAnyH_take (i := 0) (v := ndV h8 xs) rfl (by kernel_rfl) (by kernel_rfl) (by kernel_rfl) (fun _ _ _ h => h) (Or.inl ⟨by rfl, fun w' hSw => ?_⟩) hHeld ?_
    · (try dsimp only at hSw)
      go_simp
    simp only [Act.put, List.getElem_toArray, List.getElem_cons_zero, List.getElem_cons_succ, List.setIfInBounds_toArray, List.set_cons_zero, List.set_cons_succ]
    refine wpAnyH_take (i := 2) (v := .pointer (some ⟨tb, 0, none⟩)) rfl (by kernel_rfl) (by kernel_rfl) (by kernel_rfl) (fun _ _ _ h => h) (Or.inl ⟨by rfl, fun w' hSw => ?_⟩) hHeld ?_
    · (try dsimp only at hSw)
      go_simp
    simp only [Act.put, List.getElem_toArray, List.getElem_cons_zero, List.getElem_cons_succ, List.setIfInBounds_toArray, List.set_cons_zero, List.set_cons_succ]
    refine wpAnyH_take (i := 3) (v := .pointer (some ⟨tb, 0, none⟩)) rfl (by kernel_rfl) (by kernel_rfl) (by kernel_rfl) (fun _ _ _ h => h) (Or.inl ⟨by rfl, fun w' hSw => ?_⟩) hHeld ?_
    · (try dsimp only at hSw)
      go_simp
    simp only [Act.put, List.getElem_toArray, List.getElem_cons_zero, List.getElem_cons_succ, List.setIfInBounds_toArray, List.set_cons_zero, List.set_cons_succ]
    refine wpAnyH_take (i := 4) (v := .pointer (some ⟨tb, 2, none⟩)) rfl (by kernel_rfl) (by kernel_rfl) (by kernel_rfl) (fun _ _ _ h => h) (Or.inl ⟨by rfl, fun w' hSw => ?_⟩) hHeld ?_
    · (try dsimp only at hSw)
      go_simp
    simp only [Act.put, List.getElem_toArray, List.getElem_cons_zero, List.getElem_cons_succ, List.setIfInBounds_toArray, List.set_cons_zero, List.set_cons_succ]
    refine wpAnyH_take (i := 5) (v := .int .i64 m) rfl (by kernel_rfl) (by kernel_rfl) (by kernel_rfl) (fun _ _ _ h => h) (Or.inl ⟨by rfl, fun w' hSw => ?_⟩) hHeld ?_
    · (try dsimp only at hSw)
      go_simp
    simp only [Act.put, List.getElem_toArray, List.getElem_cons_zero, List.getElem_cons_succ, List.setIfInBounds_toArray, List.set_cons_zero, List.set_cons_succ]
    refine wpAnyH_take (i := 6) (v := .int .i64 m2) rfl (by kernel_rfl) (by kernel_rfl) (by kernel_rfl) (fun _ _ _ h => h) (Or.inl ⟨by rfl, fun w' hSw => ?_⟩) hHeld ?_
    · (try dsimp only at hSw)
      go_simp
    simp only [Act.put, List.getElem_toArray, List.getElem_cons_zero, List.getElem_cons_succ, List.setIfInBounds_toArray, List.set_cons_zero, List.set_cons_succ]
    refine wpAnyH_ready (rs := [1]) (by kernel_rfl) (by simp) ?_
    refine AllReadyH.cons rfl (fun K hK => ?_) AllReadyH.nil
    go_simp
    go_at_call 84
    (with_reducible refine (HSZ.out _).mono ?_)
    rintro e w3 ⟨rfl, hb3⟩
    have hb3 := undrew hb3
    have e2 := (hb3.cell (p := ⟨tb, 2, none⟩) htl).trans HK.out.1
    have d0 := (hb3.cell (p := ⟨p8, 0, none⟩) hp8l).trans HK.out.2.1
    have d1 := (hb3.cell (p := ⟨p8, 1, none⟩) hp8l).trans HK.out.2.2.1
    have d2 := (hb3.cell (p := ⟨p8, 2, none⟩) hp8l).trans HK.out.2.2.2.1
    have d3 := (hb3.cell (p := ⟨p8, 3, none⟩) hp8l).trans HK.out.2.2.2.2.1
    have d4 := (hb3.cell (p := ⟨p8, 4, none⟩) hp8l).trans HK.out.2.2.2.2.2.1
    have HB3 := Lib.hid hb3
    clear hb3 hHeld
    refine hK.out _ _ ⟨e2, d0, d1, d2, d3, d4⟩ (fun hHeld => ?_)
    clear hK K
    try simp only [Act.put, List.getElem_toArray, List.getElem_cons_zero, List.getElem_cons_succ, List.setIfInBounds_toArray, List.set_cons_zero, List.set_cons_succ]
    refine wpAnyH_take (i := 7) (v := .bool true) rfl (by kernel_rfl) (by kernel_rfl) (by kernel_rfl) (fun _ _ _ h => h) (Or.inl ⟨by rfl, fun w' hSw => ?_⟩) hHeld ?_
    · (try dsimp only at hSw)
      go_simp
    simp only [Act.put, List.getElem_toArray, List.getElem_cons_zero, List.getElem_cons_succ, List.setIfInBounds_toArray, List.set_cons_zero, List.set_cons_succ]
    refine wpAnyH_take (i := 8) (v := .bool true) rfl (by kernel_rfl) (by kernel_rfl) (by kernel_rfl) (fun _ _ _ h => h) (Or.inl ⟨by rfl, fun w' hSw => ?_⟩) hHeld ?_
    · (try dsimp only at hSw)
      go_simp
    simp only [Act.put, List.getElem_toArray, List.getElem_cons_zero, List.getElem_cons_succ, List.setIfInBounds_toArray, List.set_cons_zero, List.set_cons_succ]
    refine wpAnyH_take (i := 9) (v := undef) rfl (by kernel_rfl) (by kernel_rfl) (by kernel_rfl) (fun _ _ _ h => h) (Or.inr ⟨by rfl, rfl⟩) hHeld ?_
    simp only [Act.put, List.getElem_toArray, List.getElem_cons_zero, List.getElem_cons_succ, List.setIfInBounds_toArray, List.set_cons_zero, List.set_cons_succ]
    refine wpAnyH_take (i := 10) (v := undef) rfl (by kernel_rfl) (by kernel_rfl) (by kernel_rfl) (fun _ _ _ h => h) (Or.inr ⟨by rfl, rfl⟩) hHeld ?_
    simp only [Act.put, List.getElem_toArray, List.getElem_cons_zero, List.getElem_cons_succ, List.setIfInBounds_toArray, List.set_cons_zero, List.set_cons_succ]
    refine wpAnyH_take (i := 11) (v := undef) rfl (by kernel_rfl) (by kernel_rfl) (by kernel_rfl) (fun _ _ _ h => h) (Or.inr ⟨by rfl, rfl⟩) hHeld ?_
    simp only [Act.put, List.getElem_toArray, List.getElem_cons_zero, List.getElem_cons_succ, List.setIfInBounds_toArray, List.set_cons_zero, List.set_cons_succ]
    refine wpAnyH_take (i := 12) (v := undef) rfl (by kernel_rfl) (by kernel_rfl) (by kernel_rfl) (fun _ _ _ h => h) (Or.inr ⟨by rfl, rfl⟩) hHeld ?_
    simp only [Act.put, List.getElem_toArray, List.getElem_cons_zero, List.getElem_cons_succ, List.setIfInBounds_toArray, List.set_cons_zero, List.set_cons_succ]
    refine wpAnyH_take (i := 13) (v := undef) rfl (by kernel_rfl) (by kernel_rfl) (by kernel_rfl) (fun _ _ _ h => h) (Or.inr ⟨by rfl, rfl⟩) hHeld ?_
    simp only [Act.put, List.getElem_toArray, List.getElem_cons_zero, List.getElem_cons_succ, List.setIfInBounds_toArray, List.set_cons_zero, List.set_cons_succ]
    refine wpAnyH_take (i := 14) (v := .bool true) rfl (by kernel_rfl) (by kernel_rfl) (by kernel_rfl) (fun _ _ _ h => h) (Or.inl ⟨by rfl, fun w' hSw => ?_⟩) hHeld ?_
    · (try dsimp only at hSw)
      go_simp
    simp only [Act.put, List.getElem_toArray, List.getElem_cons_zero, List.getElem_cons_succ, List.setIfInBounds_toArray, List.set_cons_zero, List.set_cons_succ]
    refine wpAnyH_done (by kernel_rfl) ?_ _
    all_goals
      go_wp2
      refine bodyPost_ret (v := .tuple #[]) (by simp [results, Try.results72, go_sem]) rfl ⟨rfl, ?_⟩
      exact HBW.out.trans (HB3.out.mono HBW.out.size)
end Go.Proofs.Ythbmchkbebneiaa

namespace Go.Proofs.Ythbmchkbebneiaa
set_option linter.unusedVariables false

def cutN (n : Nd) (j : Nat) : Nd := ⟨false, [], n.keys.take j ++ n.keys.drop (j + 1), n.kids.take (j + 1) ++ n.kids.drop (j + 1 + 1), 0⟩
def seamN (n : Nd) (j : Nat) (s : Ky) : Nd := ⟨false, [], n.keys.set j s, n.kids, 0⟩
/-- What mend leaves where it lays two neighbours anew. -/
def fixO (m : Nat) (L : List (Option Nd)) (F : List Nat) (i : Nat) (n : Nd) (j low high : Nat) (one : Nd) : List (Option Nd) × List Nat :=
  if szNd one ≤ m then (((L.set low (some one)).set high none).set i (some (cutN n j)), F ++ [high])
  else (((L.set low (some (leftN one high))).set high (some (rightN one))).set i (some (seamN n j (sepN one))), F)

theorem szNd_T : ∀ (d : Nat) (t : Tr d), szNd (ndT d t) = szT d t
  | 0, t => rfl
  | d + 1, t => rfl
theorem join_nd {m : Nat} : ∀ {d : Nat} {a : Tr d} {s : Ky} {b : Tr d},
    (szNd (joinNd (ndT d a) s (ndT d b)) ≤ m → (joinR m d a s b).2.1 = none ∧ ndT d (joinR m d a s b).1 = joinNd (ndT d a) s (ndT d b)) ∧
    (¬ szNd (joinNd (ndT d a) s (ndT d b)) ≤ m → ∃ q, (joinR m d a s b).2.1 = some q ∧ ndT d (joinR m d a s b).1 = leftN (joinNd (ndT d a) s (ndT d b)) (num d b) ∧ q.1 = sepN (joinNd (ndT d a) s (ndT d b)) ∧ ndT d q.2 = rightN (joinNd (ndT d a) s (ndT d b)))
  | 0, a, s, b => by
    have e : joinNd (ndT 0 a) s (ndT 0 b) = ⟨true, (lf a).2.1 ++ (lf b).2.1, [], [], (lf b).2.2⟩ := rfl
    have ej : joinR m 0 a s b = halfL (fun _ => (lf b).1) m (lf a).1 ((lf a).2.1 ++ (lf b).2.1) (lf b).2.2 0 := rfl
    rw [e, ej]
    refine ⟨fun h => ?_, fun h => ?_⟩
    · have h : ((lf a).2.1 ++ (lf b).2.1).length ≤ m := h
      unfold halfL
      rw [if_pos h]
      exact ⟨rfl, rfl⟩
    · have h : ¬ ((lf a).2.1 ++ (lf b).2.1).length ≤ m := h
      unfold halfL
      rw [if_neg h]
      exact ⟨_, rfl, rfl, rfl, rfl⟩
  | d + 1, a, s, b => by
    have e : joinNd (ndT (d + 1) a) s (ndT (d + 1) b) = ⟨false, [], (nn a).2.1 ++ s :: (nn b).2.1, ((nn a).2.2 ++ (nn b).2.2).map (fun c => (num d c : Int)), 0⟩ := by
      rw [List.map_append]; rfl
    have ej : joinR m (d + 1) a s b = halfN (fun _ => (nn b).1) m (nn a).1 ((nn a).2.1 ++ s :: (nn b).2.1) ((nn a).2.2 ++ (nn b).2.2) 0 := rfl
    rw [e, ej]
    refine ⟨fun h => ?_, fun h => ?_⟩
    · have h : ((nn a).2.1 ++ s :: (nn b).2.1).length ≤ m := h
      unfold halfN
      rw [if_pos h]
      exact ⟨rfl, rfl⟩
    · have h : ¬ ((nn a).2.1 ++ s :: (nn b).2.1).length ≤ m := h
      unfold halfN
      rw [if_neg h]
      generalize (nn a).2.2 ++ (nn b).2.2 = T
      generalize (nn a).2.1 ++ s :: (nn b).2.1 = K
      refine ⟨_, rfl, ?_, rfl, ?_⟩
      · simp [leftN, ndT, mkN, nn, List.map_take]
      · simp [rightN, ndT, mkN, nn, List.map_drop]

theorem num_in : ∀ (d : Nat) (t : Tr d), num d t ∈ nums d t
  | 0, t => by show (lf t).1 ∈ [(lf t).1]; simp
  | d + 1, t => by show (nn t).1 ∈ (nn t).1 :: _; simp
theorem holds_join {L L' : List (Option Nd)} {m : Nat} : ∀ {d : Nat} {a : Tr d} {s : Ky} {b : Tr d}, Holds L d a → Holds L d b → (∀ i, (i ∈ nums d a ∨ i ∈ nums d b) → i ≠ num d a → i ≠ num d b → lat L' i = lat L i) → (nums d a ++ nums d b).Nodup → num d (joinR m d a s b).1 = num d a →
    lat L' (num d a) = some (ndT d (joinR m d a s b).1) → Holds L' d (joinR m d a s b).1 ∧ ∀ q, (joinR m d a s b).2.1 = some q → num d q.2 = num d b → lat L' (num d b) = some (ndT d q.2) → Holds L' d q.2
  | 0, a, s, b, ha, hb, hk, hnd, hn, h1 => by
    refine ⟨?_, fun q hq hn2 h2 => ?_⟩
    · rw [← hn] at h1; exact h1
    · rw [← hn2] at h2; exact h2
  | d + 1, a, s, b, ha, hb, hk, hnd, hn, h1 => by
    have hnd' := List.nodup_append.1 hnd
    have n1 := List.nodup_cons.1 (show ((nn a).1 :: ((nn a).2.2.map (nums d)).flatten).Nodup from hnd'.1)
    have n2 := List.nodup_cons.1 (show ((nn b).1 :: ((nn b).2.2.map (nums d)).flatten).Nodup from hnd'.2.1)
    have hkid : ∀ c ∈ (nn a).2.2 ++ (nn b).2.2, Holds L' d c := fun c hc => by
      rcases List.mem_append.1 hc with hc | hc
      · refine holds_keep (ha.2 c hc) fun i hi => ?_
        have hm : i ∈ ((nn a).2.2.map (nums d)).flatten := List.mem_flatten.2 ⟨_, List.mem_map.2 ⟨c, hc, rfl⟩, hi⟩
        have hin : i ∈ nums (d + 1) a := List.mem_cons_of_mem _ hm
        refine hk i (.inl hin) (fun e => n1.1 (by have e : i = (nn a).1 := e; rw [← e]; exact hm)) (fun e => ?_)
        exact hnd'.2.2 i hin i (by rw [e]; exact num_in (d + 1) b) rfl
      · refine holds_keep (hb.2 c hc) fun i hi => ?_
        have hm : i ∈ ((nn b).2.2.map (nums d)).flatten := List.mem_flatten.2 ⟨_, List.mem_map.2 ⟨c, hc, rfl⟩, hi⟩
        have hin : i ∈ nums (d + 1) b := List.mem_cons_of_mem _ hm
        refine hk i (.inr hin) (fun e => ?_) (fun e => n2.1 (by have e : i = (nn b).1 := e; rw [← e]; exact hm))
        exact hnd'.2.2 i (by rw [e]; exact num_in (d + 1) a) i hin rfl
    have ej : joinR m (d + 1) a s b = halfN (fun _ => (nn b).1) m (nn a).1 ((nn a).2.1 ++ s :: (nn b).2.1) ((nn a).2.2 ++ (nn b).2.2) 0 := rfl
    rw [ej] at h1 hn ⊢
    by_cases h : ((nn a).2.1 ++ s :: (nn b).2.1).length ≤ m
    · unfold halfN at h1 hn ⊢
      rw [if_pos h] at h1 hn ⊢
      exact ⟨⟨h1, hkid⟩, fun q hq => by cases hq⟩
    · unfold halfN at h1 hn ⊢
      rw [if_neg h] at h1 hn ⊢
      refine ⟨⟨h1, fun c hc => hkid c (List.mem_of_mem_take hc)⟩, fun q hq hn2 h2 => ?_⟩
      injection hq with hq
      subst hq
      exact ⟨h2, fun c hc => hkid c (List.mem_of_mem_drop hc)⟩

theorem nums_sub {d : Nat} {ts : List (Tr d)} {c : Tr d} (hc : c ∈ ts) : ∀ i ∈ nums d c, i ∈ numss d ts := fun i hi => List.mem_flatten.2 ⟨_, List.mem_map.2 ⟨c, hc, rfl⟩, hi⟩
theorem take_mid {α : Type} (A B : List α) (x : α) {j : Nat} (h : A.length = j) : (A ++ x :: B).take j = A ∧ (A ++ x :: B).drop (j + 1) = B ∧ ∀ y, (A ++ x :: B).set j y = A ++ y :: B := by
  subst h
  refine ⟨by simp, ?_, fun y => by simp⟩
  rw [List.drop_append]
  simp

/-- Where two neighbours are laid anew, what is left is the tree that is left. -/
theorem fix_holds {m d : Nat} {L : List (Option Nd)} {F : List Nat} {i : Nat} {ks : List Ky} {ts : List (Tr d)} {j : Nat} {k1 k2 : List Ky} {s : Ky} {t1 t2 : List (Tr d)} {a b : Tr d} (hf : FixAt d ks ts j k1 s k2 t1 a b t2) (hL : lat L i = some ⟨false, [], ks, ts.map (fun c => (num d c : Int)), 0⟩) (hts : ∀ c ∈ ts, Holds L d c) (hnd : (i :: numss d ts).Nodup)
    (hn1 : num d (joinR m d a s b).1 = num d a) (hn2 : ∀ q, (joinR m d a s b).2.1 = some q → num d q.2 = num d b) {out : List (Option Nd) × List Nat}
    (ho : out = fixO m L F i ⟨false, [], ks, ts.map (fun c => (num d c : Int)), 0⟩ (j - 1) (num d a) (num d b) (joinNd (ndT d a) s (ndT d b))) :
    out.1.length = L.length ∧ (∀ x, x ≠ i → x ∉ numss d ts → lat out.1 x = lat L x) ∧
    ((joinR m d a s b).2.1 = none → out.2 = F ++ [num d b] ∧ Holds out.1 (d + 1) (mkN i (k1 ++ k2) (t1 ++ (joinR m d a s b).1 :: t2))) ∧
    (∀ q, (joinR m d a s b).2.1 = some q → out.2 = F ∧ Holds out.1 (d + 1) (mkN i (k1 ++ q.1 :: k2) (t1 ++ (joinR m d a s b).1 :: q.2 :: t2))) := by
  have hea := hf.ets
  have hek := hf.eks
  have hl1 := hf.len
  have hat := hf.at_
  have ha : a ∈ ts := by rw [hea]; simp
  have hb : b ∈ ts := by rw [hea]; simp
  have hna := nums_sub ha _ (num_in d a)
  have hnb := nums_sub hb _ (num_in d b)
  have hni := List.nodup_cons.1 hnd
  have hia : i ≠ num d a := fun e => hni.1 (e ▸ hna)
  have hib : i ≠ num d b := fun e => hni.1 (e ▸ hnb)
  have hns : numss d ts = numss d t1 ++ ((nums d a ++ nums d b) ++ numss d t2) := by rw [hea, numss_app, numss_cons, numss_cons]; simp
  have hnd2 := hni.2
  rw [hns] at hnd2
  obtain ⟨q1, q2, q3⟩ := List.nodup_append.1 hnd2
  obtain ⟨q4, q5, q6⟩ := List.nodup_append.1 q2
  obtain ⟨q7, q8, q9⟩ := List.nodup_append.1 q4
  have hab : num d a ≠ num d b := fun e => q9 _ (num_in d a) _ (num_in d b) e
  have hli : i < L.length := lat_lt hL
  have hla : num d a < L.length := (hts a ha).lt _ (num_in d a)
  have hlb : num d b < L.length := (hts b hb).lt _ (num_in d b)
  obtain ⟨z1, z2⟩ := join_nd (m := m) (d := d) (a := a) (s := s) (b := b)
  have hkid : ((ts.map (fun c => (num d c : Int))).take (j - 1 + 1) ++ (ts.map (fun c => (num d c : Int))).drop (j - 1 + 1 + 1)) = (t1 ++ (joinR m d a s b).1 :: t2).map (fun c => (num d c : Int)) := by
    rw [hea, ← hat, ← hl1]
    simp only [List.map_append, List.map_cons, hn1]
    generalize hA : t1.map (fun c => (num d c : Int)) = A
    generalize t2.map (fun c => (num d c : Int)) = B
    have hAl : t1.length = A.length := by rw [← hA]; simp
    rw [hAl, List.take_append, List.drop_append, List.take_of_length_le (show A.length ≤ A.length + 1 by omega), List.drop_eq_nil_of_le (show A.length ≤ A.length + 1 + 1 by omega), show A.length + 1 - A.length = 1 by omega, show A.length + 1 + 1 - A.length = 2 by omega]
    simp
  obtain ⟨y1, y2, y3⟩ := take_mid k1 k2 s hat
  generalize hone : joinNd (ndT d a) s (ndT d b) = one at *
  by_cases hfit : szNd one ≤ m
  · have eo : out = (((L.set (num d a) (some one)).set (num d b) none).set i (some (cutN ⟨false, [], ks, ts.map (fun c => (num d c : Int)), 0⟩ (j - 1))), F ++ [num d b]) := by
      rw [ho]
      unfold fixO; rw [if_pos hfit]
    obtain ⟨w1, w2⟩ := z1 hfit
    rw [eo]
    have hfar : ∀ x, x ≠ i → x ≠ num d a → x ≠ num d b → lat (((L.set (num d a) (some one)).set (num d b) none).set i (some (cutN ⟨false, [], ks, ts.map (fun c => (num d c : Int)), 0⟩ (j - 1)))) x = lat L x := fun x x1 x2 x3 => by
      rw [lat_set_ne x1, lat_set_ne x3, lat_set_ne x2]
    refine ⟨by simp, fun x hx hx2 => hfar x hx (fun e => hx2 (e ▸ hna)) (fun e => hx2 (e ▸ hnb)), fun _ => ⟨rfl, ?_, fun c hc => ?_⟩, fun q hq => by rw [w1] at hq; cases hq⟩
    · show lat _ i = _
      rw [lat_set_eq (by simp; omega)]
      show some (cutN _ _) = some (Nd.mk false [] (k1 ++ k2) ((t1 ++ (joinR m d a s b).1 :: t2).map (fun c => (num d c : Int))) 0)
      rw [← hkid]
      unfold cutN
      simp only
      rw [hek, y1, y2]
    · have hc : c ∈ t1 ++ (joinR m d a s b).1 :: t2 := hc
      have hJ := (holds_join (L' := ((L.set (num d a) (some one)).set (num d b) none).set i (some (cutN ⟨false, [], ks, ts.map (fun c => (num d c : Int)), 0⟩ (j - 1)))) (m := m) (s := s) (hts a ha) (hts b hb) (fun x hx x1 x2 => hfar x (fun e => hni.1 (by rw [← e]; exact hx.elim (nums_sub ha x) (nums_sub hb x))) x1 x2) q4 hn1 (by
        rw [lat_set_ne (fun e => hia e.symm), lat_set_ne hab, lat_set_eq hla, w2])).1
      rcases List.mem_append.1 hc with hc | hc
      · exact holds_keep (hts c (by rw [hea]; simp [hc])) fun x hx => hfar x (fun e => hni.1 (by rw [← e, hns]; exact List.mem_append_left _ (nums_sub hc x hx))) (fun e => q3 x (nums_sub hc x hx) (num d a) (by simp [num_in]) e) (fun e => q3 x (nums_sub hc x hx) (num d b) (by simp [num_in]) e)
      · rcases List.mem_cons.1 hc with rfl | hc
        · exact hJ
        · exact holds_keep (hts c (by rw [hea]; simp [hc])) fun x hx => hfar x (fun e => hni.1 (by rw [← e, hns]; exact List.mem_append_right _ (List.mem_append_right _ (nums_sub hc x hx)))) (fun e => q6 (num d a) (by simp [num_in]) x (nums_sub hc x hx) e.symm) (fun e => q6 (num d b) (by simp [num_in]) x (nums_sub hc x hx) e.symm)
  · have eo : out = (((L.set (num d a) (some (leftN one (num d b)))).set (num d b) (some (rightN one))).set i (some (seamN ⟨false, [], ks, ts.map (fun c => (num d c : Int)), 0⟩ (j - 1) (sepN one))), F) := by
      rw [ho]
      unfold fixO; rw [if_neg hfit]
    obtain ⟨q, w1, w2, w3, w4⟩ := z2 hfit
    rw [eo]
    have hfar : ∀ x, x ≠ i → x ≠ num d a → x ≠ num d b → lat (((L.set (num d a) (some (leftN one (num d b)))).set (num d b) (some (rightN one))).set i (some (seamN ⟨false, [], ks, ts.map (fun c => (num d c : Int)), 0⟩ (j - 1) (sepN one)))) x = lat L x := fun x x1 x2 x3 => by
      rw [lat_set_ne x1, lat_set_ne x3, lat_set_ne x2]
    refine ⟨by simp, fun x hx hx2 => hfar x hx (fun e => hx2 (e ▸ hna)) (fun e => hx2 (e ▸ hnb)), fun hq => (by rw [w1] at hq; cases hq), fun q' hq => ?_⟩
    rw [w1] at hq
    injection hq with hq
    subst hq
    refine ⟨rfl, ?_, fun c hc => ?_⟩
    · show lat _ i = _
      rw [lat_set_eq (by simp; omega)]
      show some (seamN _ _ _) = some (Nd.mk false [] (k1 ++ q.1 :: k2) ((t1 ++ (joinR m d a s b).1 :: q.2 :: t2).map (fun c => (num d c : Int))) 0)
      unfold seamN
      simp only
      rw [hek, y3, w3, hea]
      simp only [List.map_append, List.map_cons, hn1, hn2 q w1]
    · have hc : c ∈ t1 ++ (joinR m d a s b).1 :: q.2 :: t2 := hc
      have hJ := holds_join (L' := ((L.set (num d a) (some (leftN one (num d b)))).set (num d b) (some (rightN one))).set i (some (seamN ⟨false, [], ks, ts.map (fun c => (num d c : Int)), 0⟩ (j - 1) (sepN one)))) (m := m) (s := s) (hts a ha) (hts b hb) (fun x hx x1 x2 => hfar x (fun e => hni.1 (by rw [← e]; exact hx.elim (nums_sub ha x) (nums_sub hb x))) x1 x2) q4 hn1 (by
        rw [lat_set_ne (fun e => hia e.symm), lat_set_ne hab, lat_set_eq hla, w2])
      rcases List.mem_append.1 hc with hc | hc
      · exact holds_keep (hts c (by rw [hea]; simp [hc])) fun x hx => hfar x (fun e => hni.1 (by rw [← e, hns]; exact List.mem_append_left _ (nums_sub hc x hx))) (fun e => q3 x (nums_sub hc x hx) (num d a) (by simp [num_in]) e) (fun e => q3 x (nums_sub hc x hx) (num d b) (by simp [num_in]) e)
      · rcases List.mem_cons.1 hc with rfl | hc
        · exact hJ.1
        · rcases List.mem_cons.1 hc with rfl | hc
          · exact hJ.2 _ w1 (hn2 _ w1) (by rw [lat_set_ne (fun e => hib e.symm), lat_set_eq (by simp; omega), w4])
          · exact holds_keep (hts c (by rw [hea]; simp [hc])) fun x hx => hfar x (fun e => hni.1 (by rw [← e, hns]; exact List.mem_append_right _ (List.mem_append_right _ (nums_sub hc x hx)))) (fun e => q6 (num d a) (by simp [num_in]) x (nums_sub hc x hx) e.symm) (fun e => q6 (num d b) (by simp [num_in]) x (nums_sub hc x hx) e.symm)
end Go.Proofs.Ythbmchkbebneiaa
