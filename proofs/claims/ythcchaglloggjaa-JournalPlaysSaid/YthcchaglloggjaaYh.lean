/- How requests stand in a batch's order, as plain tests; contracts of package elide's scans and compare, and of Order's closure. Condition: what came in can be read. -/
import Derived.Test.YthcchaglloggjaaYg
import Derived.Test.YthcchaglloggjaaWo
namespace Go.Proofs.Ythcchaglloggjaa
open Go.RowKit
set_option linter.unusedVariables false
set_option maxRecDepth 100000

def scanQ (r : Rq) : Bool := r.kind == 6
/-- Does a request stand ahead of another one? -/
def aheadQ (a b : Rq) : Bool := ltB a.key b.key || (!ltB b.key a.key && (!scanQ a && scanQ b))
def cmpQ (a b : Rq) : Int := if cmpB a.key b.key = 0 then (if scanQ a = scanQ b then 0 else if scanQ b = true then -1 else 1) else cmpB a.key b.key
theorem key_zero {l k : Ky} : cmpB l k = 0 ↔ l = k := cmpB_eq l k
theorem lt_ne {a b : Ky} (h : ltB a b = true) : a ≠ b := fun e => by rw [e, ltB_irrefl] at h; cases h
theorem ahead_iff {a b : Rq} : aheadQ a b = true ↔ ltB a.key b.key = true ∨ (a.key = b.key ∧ scanQ a = false ∧ scanQ b = true) := by
  unfold aheadQ
  constructor
  · intro h
    cases h1 : ltB a.key b.key
    · rw [h1] at h
      cases h2 : ltB b.key a.key
      · rw [h2] at h
        exact .inr ⟨ltB_total _ _ h1 h2, by simpa using h⟩
      · rw [h2] at h; cases h
    · exact .inl rfl
  · rintro (h | ⟨h1, h2, h3⟩)
    · rw [h]; rfl
    · rw [h1, ltB_irrefl, h2, h3]; rfl
theorem cmp_ahead (a b : Rq) : decide (cmpQ a b < 0) = aheadQ a b := by
  rw [Bool.eq_iff_iff, ahead_iff, decide_eq_true_eq]
  unfold cmpQ
  by_cases h0 : cmpB a.key b.key = 0
  · rw [if_pos h0]
    have hk := key_zero.1 h0
    rw [hk, ltB_irrefl]
    cases scanQ a <;> cases scanQ b <;> simp
  · rw [if_neg h0, ← cmp_lt, decide_eq_true_eq]
    constructor
    · exact .inl
    · rintro (h | ⟨h, -⟩)
      · exact h
      · exact absurd (key_zero.2 h) h0

/-- The order of the places: by key, scans behind the others, else as they stand. -/
def ordT (M : List Rq) (i j : Nat) : Bool := aheadQ (gq M i) (gq M j) || (!aheadQ (gq M j) (gq M i) && decide (i < j))
def ordU (M : List Rq) (i j : Nat) : Bool := aheadQ (gq M i) (gq M j)
theorem ordT_iff {M : List Rq} {i j : Nat} : ordT M i j = true ↔ ltB (gq M i).key (gq M j).key = true ∨ ((gq M i).key = (gq M j).key ∧ ((scanQ (gq M i) = false ∧ scanQ (gq M j) = true) ∨ (scanQ (gq M i) = scanQ (gq M j) ∧ i < j))) := by
  have e : ordT M i j = true ↔ aheadQ (gq M i) (gq M j) = true ∨ (¬ aheadQ (gq M j) (gq M i) = true ∧ i < j) := by unfold ordT; simp
  rw [e, ahead_iff, ahead_iff]
  constructor
  · rintro ((h | ⟨h1, h2, h3⟩) | ⟨h1, h2⟩)
    · exact .inl h
    · exact .inr ⟨h1, .inl ⟨h2, h3⟩⟩
    · cases h3 : ltB (gq M i).key (gq M j).key
      · cases h4 : ltB (gq M j).key (gq M i).key
        · have hk := ltB_total _ _ h3 h4
          refine .inr ⟨hk, ?_⟩
          cases s1 : scanQ (gq M i) <;> cases s2 : scanQ (gq M j)
          · exact .inr ⟨rfl, h2⟩
          · exact .inl ⟨rfl, rfl⟩
          · exact absurd (.inr ⟨hk.symm, s2, s1⟩) h1
          · exact .inr ⟨rfl, h2⟩
        · exact absurd (.inl h4) h1
      · exact .inl rfl
  · rintro (h | ⟨h1, ⟨h2, h3⟩ | ⟨h2, h3⟩⟩)
    · exact .inl (.inl h)
    · exact .inl (.inr ⟨h1, h2, h3⟩)
    · refine .inr ⟨?_, h3⟩
      rintro (h | ⟨h4, h5, h6⟩)
      · rw [h1, ltB_irrefl] at h; cases h
      · rw [h2, h5] at h6; cases h6
theorem ordT_sto (M : List Rq) : Sto (ordT M) := by
  refine ⟨fun x => ?_, fun x y z h1 h2 => ?_, fun x y hxy => ?_⟩
  · rw [Bool.eq_false_iff, Ne, ordT_iff]
    rintro (h | ⟨-, ⟨h1, h2⟩ | ⟨-, h⟩⟩)
    · rw [ltB_irrefl] at h; cases h
    · rw [h1] at h2; cases h2
    · omega
  · rw [ordT_iff] at h1 h2 ⊢
    rcases h1 with h1 | ⟨k1, h1⟩
    · rcases h2 with h2 | ⟨k2, h2⟩
      · exact .inl (ltB_trans h1 h2)
      · rw [k2] at h1
        exact .inl h1
    · rcases h2 with h2 | ⟨k2, h2⟩
      · rw [← k1] at h2
        exact .inl h2
      · refine .inr ⟨k1.trans k2, ?_⟩
        rcases h1 with ⟨a1, a2⟩ | ⟨a1, a2⟩
        · rcases h2 with ⟨b1, b2⟩ | ⟨b1, b2⟩
          · rw [a2] at b1; cases b1
          · exact .inl ⟨a1, b1 ▸ a2⟩
        · rcases h2 with ⟨b1, b2⟩ | ⟨b1, b2⟩
          · exact .inl ⟨a1.trans b1, b2⟩
          · exact .inr ⟨a1.trans b1, by omega⟩
  · rw [ordT_iff, ordT_iff]
    cases h1 : ltB (gq M x).key (gq M y).key
    · cases h2 : ltB (gq M y).key (gq M x).key
      · have hk := ltB_total _ _ h1 h2
        cases s1 : scanQ (gq M x) <;> cases s2 : scanQ (gq M y)
        · rcases Nat.lt_or_gt_of_ne hxy with h | h
          · exact .inl (.inr ⟨hk, .inr ⟨rfl, h⟩⟩)
          · exact .inr (.inr ⟨hk.symm, .inr ⟨rfl, h⟩⟩)
        · exact .inl (.inr ⟨hk, .inl ⟨rfl, rfl⟩⟩)
        · exact .inr (.inr ⟨hk.symm, .inl ⟨rfl, rfl⟩⟩)
        · rcases Nat.lt_or_gt_of_ne hxy with h | h
          · exact .inl (.inr ⟨hk, .inr ⟨rfl, h⟩⟩)
          · exact .inr (.inr ⟨hk.symm, .inr ⟨rfl, h⟩⟩)
      · exact .inr (.inl rfl)
    · exact .inl (.inl rfl)
theorem ordU_T (M : List Rq) : ∀ x y, x < y → ordU M y x = ordT M y x := fun x y h => by
  unfold ordU ordT
  rw [show decide (y < x) = false by simp; omega, Bool.and_false, Bool.or_false]

set_option maxHeartbeats 1000000 in
theorem scans_any (w : World) (h : Qh) (r : Rq) : Calls Try.prog 52 #[.agg #[.int .i64 r.cl, .int .i64 r.sq, .int .i64 r.kind, .slice h.A h.n h.c, .slice h.B h.m h.d, .slice h.C h.o h.p, .slice h.D h.q h.s, .int .i64 r.limit]] w fun e w' => e = .returned (.bool (scanQ r)) ∧ Below w.heap.size w w' := by
  go_enter Try.func52, Try.ntmps52
  go_wp2
  go_ret
  exact ⟨rfl, (Below.refl _ _).alloc (Nat.le_refl _) _⟩

set_option maxHeartbeats 4000000 in
theorem compareq_any {w : World} {ha hb : Qh} {a b : Rq} (hra : RqR w ha a) (hrb : RqR w hb b) :
    Calls Try.prog 51 #[.agg #[.int .i64 a.cl, .int .i64 a.sq, .int .i64 a.kind, .slice ha.A ha.n ha.c, .slice ha.B ha.m ha.d, .slice ha.C ha.o ha.p, .slice ha.D ha.q ha.s, .int .i64 a.limit], .agg #[.int .i64 b.cl, .int .i64 b.sq, .int .i64 b.kind, .slice hb.A hb.n hb.c, .slice hb.B hb.m hb.d, .slice hb.C hb.o hb.p, .slice hb.D hb.q hb.s, .int .i64 b.limit]] w fun e w' => e = .returned (.int .i64 (cmpQ a b)) ∧ Below w.heap.size w w' := by
  obtain ⟨V, hV, hVB, hVA, hVR, hVs⟩ := box_qq w ha hb a b
  have HC := Lib.hid (compare_any ha.c hb.c (hra.1.below hVB) (hrb.1.below hVB))
  have HQ := Lib.hid (show cmpQ a b = if cmpB a.key b.key = 0 then (if scanQ a = scanQ b then 0 else if scanQ b = true then -1 else 1) else cmpB a.key b.key from rfl)
  have HB := Lib.hid hVB
  have HA := Lib.hid hVA
  have HR := Lib.hid hVR
  have hVe := Lib.hid hV
  have hwl : w.heap.size < V.heap.size := by omega
  have hwl2 : w.heap.size + 1 < V.heap.size := by omega
  obtain ⟨q0, q1, q2, q3, q4, q5, q6, q7⟩ := hVA.cells
  obtain ⟨y0, y1, y2, y3, y4, y5, y6, y7⟩ := hVR.cells
  clear hra hrb hV hVB hVA hVR hVs
  generalize cmpQ a b = res at HQ ⊢
  generalize cmpB a.key b.key = z at HC HQ
  have HSA := Lib.hid (fun w => scans_any w ha a)
  have HSB := Lib.hid (fun w => scans_any w hb b)
  generalize scanQ a = sa at HSA HQ
  generalize scanQ b = sb at HSB HQ
  go_enter Try.func51, Try.ntmps51
  go_wp2_with fail
  rw [← hVe.out]
  refine HC.out.mono ?_
  rintro e w1 ⟨rfl, rfl⟩
  clear HC hVe
  by_cases hz : z = 0
  · subst hz
    have D := Lib.hid (HSA.out V.drew)
    cases sa <;> cases sb
    all_goals
      go_upto_region 2 with fail
      go_region_held3 (fun w' => w'.cell? ⟨w.heap.size, 0, none⟩ = some (.int .i64 a.cl) ∧ w'.cell? ⟨w.heap.size, 1, none⟩ = some (.int .i64 a.sq) ∧ w'.cell? ⟨w.heap.size, 2, none⟩ = some (.int .i64 a.kind) ∧ w'.cell? ⟨w.heap.size, 3, none⟩ = some (.slice ha.A ha.n ha.c) ∧ w'.cell? ⟨w.heap.size, 4, none⟩ = some (.slice ha.B ha.m ha.d) ∧ w'.cell? ⟨w.heap.size, 5, none⟩ = some (.slice ha.C ha.o ha.p) ∧ w'.cell? ⟨w.heap.size, 6, none⟩ = some (.slice ha.D ha.q ha.s) ∧ w'.cell? ⟨w.heap.size, 7, none⟩ = some (.int .i64 a.limit) ∧
          w'.cell? ⟨w.heap.size + 1, 0, none⟩ = some (.int .i64 b.cl) ∧ w'.cell? ⟨w.heap.size + 1, 1, none⟩ = some (.int .i64 b.sq) ∧ w'.cell? ⟨w.heap.size + 1, 2, none⟩ = some (.int .i64 b.kind) ∧ w'.cell? ⟨w.heap.size + 1, 3, none⟩ = some (.slice hb.A hb.n hb.c) ∧ w'.cell? ⟨w.heap.size + 1, 4, none⟩ = some (.slice hb.B hb.m hb.d) ∧ w'.cell? ⟨w.heap.size + 1, 5, none⟩ = some (.slice hb.C hb.o hb.p) ∧ w'.cell? ⟨w.heap.size + 1, 6, none⟩ = some (.slice hb.D hb.q hb.s) ∧ w'.cell? ⟨w.heap.size + 1, 7, none⟩ = some (.int .i64 b.limit)) (go_keep)
        (first
          | (go_at_call 52
             (with_reducible refine D.out.mono ?_)
             rintro e w2 ⟨rfl, hb2⟩
             have hb2 : Below V.heap.size V w2 := undrew hb2
             have HB2 := Lib.hid hb2
             have E := Lib.hid (HSB.out w2)
             obtain ⟨q0, q1, q2, q3, q4, q5, q6, q7⟩ := (HA.out.below hb2 hwl).cells
             obtain ⟨y0, y1, y2, y3, y4, y5, y6, y7⟩ := (HR.out.below hb2 hwl2).cells
             clear hb2)
          | (go_at_call 52
             (with_reducible refine E.out.mono ?_)
             rintro e w3 ⟨rfl, hb3⟩
             have hb3 : Below V.heap.size V w3 := HB2.out.trans (hb3.mono HB2.out.size)
             have HB3 := Lib.hid hb3
             obtain ⟨q0, q1, q2, q3, q4, q5, q6, q7⟩ := (HA.out.below hb3 hwl).cells
             obtain ⟨y0, y1, y2, y3, y4, y5, y6, y7⟩ := (HR.out.below hb3 hwl2).cells
             clear hb3))
      clear D E HB2
    · go_wp2
      go_ret
      exact ⟨by rw [HQ.out]; rfl, HB.out.trans (HB3.out.mono HB.out.size)⟩
    · have F := Lib.hid (HSB.out w3)
      go_wp2_with fail
      refine F.out.mono ?_
      rintro e w4 ⟨rfl, hb4⟩
      have HB4 := Lib.hid (HB3.out.trans (hb4.mono HB3.out.size))
      clear hb4 F q0 q1 q2 q3 q4 q5 q6 q7 y0 y1 y2 y3 y4 y5 y6 y7
      go_wp2
      go_ret
      exact ⟨by rw [HQ.out]; rfl, HB.out.trans (HB4.out.mono HB.out.size)⟩
    · have F := Lib.hid (HSB.out w3)
      go_wp2_with fail
      refine F.out.mono ?_
      rintro e w4 ⟨rfl, hb4⟩
      have HB4 := Lib.hid (HB3.out.trans (hb4.mono HB3.out.size))
      clear hb4 F q0 q1 q2 q3 q4 q5 q6 q7 y0 y1 y2 y3 y4 y5 y6 y7
      go_wp2
      go_ret
      exact ⟨by rw [HQ.out]; rfl, HB.out.trans (HB4.out.mono HB.out.size)⟩
    · go_wp2
      go_ret
      exact ⟨by rw [HQ.out]; rfl, HB.out.trans (HB3.out.mono HB.out.size)⟩
  · have hz2 : (z != 0) = true := by simpa using hz
    have HZ := Lib.hid hz
    clear hz
    go_upto_region 2 with fail
    go_quiet (fail)
    go_wp2
    go_ret
    exact ⟨by rw [HQ.out, if_neg HZ.out]; rfl, HB.out.trans (Drawn.below ⟨_, rfl⟩ _)⟩

set_option maxHeartbeats 4000000 in
/-- Order's closure. -/
theorem order1_any {w : World} {A : Option Addr} {n c lb i j : Nat} {M : List Rq} (h : Reqs w A n M) (hc : w.cell? ⟨lb, 0, none⟩ = some (.slice A n c)) (hi : i < n) (hj : j < n) :
    Calls Try.prog 50 #[.int .i64 i, .int .i64 j, .pointer (some ⟨lb, 0, none⟩)] w fun e w' => ∃ z : Int, e = .returned (.int .i64 z) ∧ decide (z < 0) = ordU M i j ∧ Below w.heap.size w w' := by
  obtain ⟨b, oo, rfl, hbl, h1, x0, x1, x2, x3, x4, x5, x6, x7, hr1⟩ := h.at_ hi
  obtain ⟨b', oo', e', -, h2, y0, y1, y2, y3, y4, y5, y6, y7, hr2⟩ := h.at_ hj
  injection e' with e'
  injection e' with e1 e2
  subst e1
  subst e2
  have D := Lib.hid (compareq_any (w := w.drew) (hr1.below (Below.refl _ _).drew) (hr2.below (Below.refl _ _).drew))
  have HU := Lib.hid (cmp_ahead (gq M i) (gq M j))
  have hlb : lb < w.heap.size := World.block_lt_of_cell? w _ hc
  clear h hr1 hr2
  have HR := Lib.hid (show ordU M i j = aheadQ (gq M i) (gq M j) from rfl)
  generalize cmpQ (gq M i) (gq M j) = z at D HU
  generalize gq M i = r1 at x0 x1 x2 x3 x4 x5 x6 x7 D HU HR
  generalize gq M j = r2 at y0 y1 y2 y3 y4 y5 y6 y7 D HU HR
  have HX := Lib.hid (And.intro x0 (And.intro x1 (And.intro x2 (And.intro x3 (And.intro x4 (And.intro x5 (And.intro x6 x7)))))))
  have bi : (0 : Int) ≤ (i : Int) := by omega
  have bi2 : (i : Int) < (n : Int) := by omega
  have bj : (0 : Int) ≤ (j : Int) := by omega
  have bj2 : (j : Int) < (n : Int) := by omega
  go_enter Try.func50, Try.ntmps50
  go_upto_region 1 with fail
  go_region_held3 (fun w' => w'.cell? ⟨lb, 0, none⟩ = some (.slice (some ⟨b, oo, none⟩) n c) ∧ w'.cell? ⟨b, oo + i * 8, none⟩ = some (.int .i64 r1.cl) ∧ w'.cell? ⟨b, oo + i * 8 + 1, none⟩ = some (.int .i64 r1.sq) ∧ w'.cell? ⟨b, oo + i * 8 + 2, none⟩ = some (.int .i64 r1.kind) ∧ w'.cell? ⟨b, oo + i * 8 + 3, none⟩ = some (.slice h1.A h1.n h1.c) ∧ w'.cell? ⟨b, oo + i * 8 + 4, none⟩ = some (.slice h1.B h1.m h1.d) ∧ w'.cell? ⟨b, oo + i * 8 + 5, none⟩ = some (.slice h1.C h1.o h1.p) ∧ w'.cell? ⟨b, oo + i * 8 + 6, none⟩ = some (.slice h1.D h1.q h1.s) ∧ w'.cell? ⟨b, oo + i * 8 + 7, none⟩ = some (.int .i64 r1.limit) ∧
      w'.cell? ⟨b, oo + j * 8, none⟩ = some (.int .i64 r2.cl) ∧ w'.cell? ⟨b, oo + j * 8 + 1, none⟩ = some (.int .i64 r2.sq) ∧ w'.cell? ⟨b, oo + j * 8 + 2, none⟩ = some (.int .i64 r2.kind) ∧ w'.cell? ⟨b, oo + j * 8 + 3, none⟩ = some (.slice h2.A h2.n h2.c) ∧ w'.cell? ⟨b, oo + j * 8 + 4, none⟩ = some (.slice h2.B h2.m h2.d) ∧ w'.cell? ⟨b, oo + j * 8 + 5, none⟩ = some (.slice h2.C h2.o h2.p) ∧ w'.cell? ⟨b, oo + j * 8 + 6, none⟩ = some (.slice h2.D h2.q h2.s) ∧ w'.cell? ⟨b, oo + j * 8 + 7, none⟩ = some (.int .i64 r2.limit)) (go_keep)
    ((go_at_call 51
      (with_reducible refine D.out.mono ?_)
      rintro e w2 ⟨rfl, hb2⟩
      have hb2 : Below w.heap.size w w2 := undrew hb2
      have HB2 := Lib.hid hb2
      have hc := (hb2.cell (p := ⟨lb, 0, none⟩) hlb).trans hc
      have x0 := (hb2.cell (p := ⟨b, oo + i * 8, none⟩) hbl).trans x0
      have x1 := (hb2.cell (p := ⟨b, oo + i * 8 + 1, none⟩) hbl).trans x1
      have x2 := (hb2.cell (p := ⟨b, oo + i * 8 + 2, none⟩) hbl).trans x2
      have x3 := (hb2.cell (p := ⟨b, oo + i * 8 + 3, none⟩) hbl).trans x3
      have x4 := (hb2.cell (p := ⟨b, oo + i * 8 + 4, none⟩) hbl).trans x4
      have x5 := (hb2.cell (p := ⟨b, oo + i * 8 + 5, none⟩) hbl).trans x5
      have x6 := (hb2.cell (p := ⟨b, oo + i * 8 + 6, none⟩) hbl).trans x6
      have x7 := (hb2.cell (p := ⟨b, oo + i * 8 + 7, none⟩) hbl).trans x7
      have y0 := (hb2.cell (p := ⟨b, oo + j * 8, none⟩) hbl).trans y0
      have y1 := (hb2.cell (p := ⟨b, oo + j * 8 + 1, none⟩) hbl).trans y1
      have y2 := (hb2.cell (p := ⟨b, oo + j * 8 + 2, none⟩) hbl).trans y2
      have y3 := (hb2.cell (p := ⟨b, oo + j * 8 + 3, none⟩) hbl).trans y3
      have y4 := (hb2.cell (p := ⟨b, oo + j * 8 + 4, none⟩) hbl).trans y4
      have y5 := (hb2.cell (p := ⟨b, oo + j * 8 + 5, none⟩) hbl).trans y5
      have y6 := (hb2.cell (p := ⟨b, oo + j * 8 + 6, none⟩) hbl).trans y6
      have y7 := (hb2.cell (p := ⟨b, oo + j * 8 + 7, none⟩) hbl).trans y7
      clear hb2))
  clear x0 x1 x2 x3 x4 x5 x6 x7 y0 y1 y2 y3 y4 y5 y6 y7 HX D hc
  go_wp2
  go_ret
  exact ⟨z, rfl, by rw [HR.out, ← HU.out], HB2.out⟩
end Go.Proofs.Ythcchaglloggjaa
