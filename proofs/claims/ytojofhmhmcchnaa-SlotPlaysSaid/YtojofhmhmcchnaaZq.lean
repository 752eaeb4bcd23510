/- An answer that came in, and a list of deeds that came in. No condition. -/
import Derived.Test.YtojofhmhmcchnaaZn
namespace Go.Proofs.Ytojofhmhmcchnaa
open Go.ChangeShapes Go.WideShapes Go.ChangeAt Go.RowKit Go.Deep
set_option linter.unusedVariables false

theorem five_of {cs : List Value} (h : cs.length = 5) : ∃ a0 a1 a2 a3 a4, cs = [a0, a1, a2, a3, a4] := by
  match cs, h with
  | [a0, a1, a2, a3, a4], _ => exact ⟨a0, a1, a2, a3, a4, rfl⟩
theorem many_of {cs : List Value} (h : cs.length = 17) : ∃ a0 a1 a2 a3 a4 a5 a6 a7 a8 a9 a10 a11 a12 a13 a14 a15 a16, cs = [a0, a1, a2, a3, a4, a5, a6, a7, a8, a9, a10, a11, a12, a13, a14, a15, a16] := by
  match cs, h with
  | [a0, a1, a2, a3, a4, a5, a6, a7, a8, a9, a10, a11, a12, a13, a14, a15, a16], _ => exact ⟨a0, a1, a2, a3, a4, a5, a6, a7, a8, a9, a10, a11, a12, a13, a14, a15, a16, rfl⟩

/-- A deed. -/
structure De where
  what : Int
  i : Int
  cl : Int
  sq : Int
  r : Rq
  a : An
def de0 : De := ⟨0, 0, 0, 0, rq0, an0⟩
def dq (M : List De) (j : Nat) : De := M.getD j de0
/-- A deed's seventeen cells. -/
def deC (h : Qh) (k : Sh) (x : De) : List Value := [.int .i64 x.what, .int .i64 x.i, .int .i64 x.cl, .int .i64 x.sq, .int .i64 x.r.cl, .int .i64 x.r.sq, .int .i64 x.r.kind, .slice h.A h.n h.c, .slice h.B h.m h.d, .slice h.C h.o h.p, .slice h.D h.q h.s, .int .i64 x.r.limit, .int .i64 x.a.code, .bool x.a.found, .slice k.A k.n k.c, .slice k.B k.m k.d, .int .u64 x.a.stamp]
def DeAt (w : World) (b o : Nat) (h : Qh) (k : Sh) (x : De) : Prop := w.cell? ⟨b, o, none⟩ = some (.int .i64 x.what) ∧ w.cell? ⟨b, o + 1, none⟩ = some (.int .i64 x.i) ∧ w.cell? ⟨b, o + 2, none⟩ = some (.int .i64 x.cl) ∧ w.cell? ⟨b, o + 3, none⟩ = some (.int .i64 x.sq) ∧ w.cell? ⟨b, o + 4, none⟩ = some (.int .i64 x.r.cl) ∧ w.cell? ⟨b, o + 5, none⟩ = some (.int .i64 x.r.sq) ∧ w.cell? ⟨b, o + 6, none⟩ = some (.int .i64 x.r.kind) ∧ w.cell? ⟨b, o + 7, none⟩ = some (.slice h.A h.n h.c) ∧ w.cell? ⟨b, o + 8, none⟩ = some (.slice h.B h.m h.d) ∧ w.cell? ⟨b, o + 9, none⟩ = some (.slice h.C h.o h.p) ∧ w.cell? ⟨b, o + 10, none⟩ = some (.slice h.D h.q h.s) ∧ w.cell? ⟨b, o + 11, none⟩ = some (.int .i64 x.r.limit) ∧ w.cell? ⟨b, o + 12, none⟩ = some (.int .i64 x.a.code) ∧ w.cell? ⟨b, o + 13, none⟩ = some (.bool x.a.found) ∧ w.cell? ⟨b, o + 14, none⟩ = some (.slice k.A k.n k.c) ∧ w.cell? ⟨b, o + 15, none⟩ = some (.slice k.B k.m k.d) ∧ w.cell? ⟨b, o + 16, none⟩ = some (.int .u64 x.a.stamp)
/-- A slice of deeds that reads as the list M. -/
def Deeds (w : World) (A : Option Addr) (n : Nat) (M : List De) : Prop :=
  M.length = n ∧ n ≤ maxLen ∧ (0 < n → ∃ b o, A = some ⟨b, o, none⟩ ∧ b < w.heap.size ∧ ∀ j, j < n → ∃ h k, DeAt w b (o + j * 17) h k (dq M j) ∧ RqR w h (dq M j).r ∧ AnR w k (dq M j).a ∧ -9223372036854775808 ≤ (dq M j).what ∧ (dq M j).what ≤ 9223372036854775807)
theorem DeAt.below {w w' : World} {b o B : Nat} {h : Qh} {k : Sh} {x : De} (hx : DeAt w b o h k x) (hb : Below B w w') (hl : b < B) : DeAt w' b o h k x := by
  obtain ⟨e0, e1, e2, e3, e4, e5, e6, e7, e8, e9, e10, e11, e12, e13, e14, e15, e16⟩ := hx
  exact ⟨(hb.cell (p := ⟨b, _, none⟩) hl).trans e0, (hb.cell (p := ⟨b, _, none⟩) hl).trans e1, (hb.cell (p := ⟨b, _, none⟩) hl).trans e2, (hb.cell (p := ⟨b, _, none⟩) hl).trans e3, (hb.cell (p := ⟨b, _, none⟩) hl).trans e4, (hb.cell (p := ⟨b, _, none⟩) hl).trans e5, (hb.cell (p := ⟨b, _, none⟩) hl).trans e6, (hb.cell (p := ⟨b, _, none⟩) hl).trans e7, (hb.cell (p := ⟨b, _, none⟩) hl).trans e8, (hb.cell (p := ⟨b, _, none⟩) hl).trans e9, (hb.cell (p := ⟨b, _, none⟩) hl).trans e10, (hb.cell (p := ⟨b, _, none⟩) hl).trans e11, (hb.cell (p := ⟨b, _, none⟩) hl).trans e12, (hb.cell (p := ⟨b, _, none⟩) hl).trans e13, (hb.cell (p := ⟨b, _, none⟩) hl).trans e14, (hb.cell (p := ⟨b, _, none⟩) hl).trans e15, (hb.cell (p := ⟨b, _, none⟩) hl).trans e16⟩
theorem Deeds.below {w w' : World} {A : Option Addr} {n : Nat} {M : List De} (h : Deeds w A n M) (hb : Below w.heap.size w w') : Deeds w' A n M :=
  ⟨h.1, h.2.1, fun h0 => by
    obtain ⟨b, o, e, hl, hj⟩ := h.2.2 h0
    refine ⟨b, o, e, Nat.lt_of_lt_of_le hl hb.size, fun j hjn => ?_⟩
    obtain ⟨h, k, e, r1, r2, r3⟩ := hj j hjn
    exact ⟨h, k, e.below hb hl, r1.below hb, r2.below hb, r3⟩⟩
theorem Deeds.at_ {w : World} {A : Option Addr} {n j : Nat} {M : List De} (h : Deeds w A n M) (hj : j < n) : ∃ b o, A = some ⟨b, o, none⟩ ∧ b < w.heap.size ∧ ∃ h k, DeAt w b (o + j * 17) h k (dq M j) ∧ RqR w h (dq M j).r ∧ AnR w k (dq M j).a ∧ -9223372036854775808 ≤ (dq M j).what ∧ (dq M j).what ≤ 9223372036854775807 := by
  obtain ⟨b, o, e, hb, hp⟩ := h.2.2 (by omega)
  exact ⟨b, o, e, hb, hp j hj⟩

section
variable {H : Type} {enc : TypeId × Value → H} {w : World} {base : Nat} {held : Bool}
/-- An answer's five cells that came in. -/
theorem came_an {fuel : Nat} {cs : List Value} {x : DataW H × List MemPlace} (h : DataW.trod enc Try.prog w base (fun _ => true) held fuel 37 cs = some x) :
    ∃ h a, cs = [.int .i64 a.code, .bool a.found, .slice h.A h.n h.c, .slice h.B h.m h.d, .int .u64 a.stamp] ∧ AnR w h a := by
  obtain ⟨ys, n', _, _, hl, hyl, hf⟩ := DataW.trod_struct Try.underlying37 h
  rw [show Try.prog.cellsOf 37 = 5 by kernel_rfl] at hl
  obtain ⟨a0, a1, a2, a3, a4, rfl⟩ := five_of hl
  have ci : Try.prog.cellsOf 3 = 1 := by kernel_rfl
  have cl : Try.prog.cellsOf 4 = 1 := by kernel_rfl
  have cb : Try.prog.cellsOf 31 = 1 := by kernel_rfl
  have cp : Try.prog.cellsOf 34 = 1 := by kernel_rfl
  have cu : Try.prog.cellsOf 35 = 1 := by kernel_rfl
  have hy : ∀ j, j < 5 → ∃ y, ys[j]? = some y := fun j hj => ⟨ys[j]'(by rw [hyl]; exact hj), List.getElem?_eq_getElem _⟩
  obtain ⟨y0, e0⟩ := hy 0 (by omega)
  obtain ⟨y1, e1⟩ := hy 1 (by omega)
  obtain ⟨y2, e2⟩ := hy 2 (by omega)
  obtain ⟨y3, e3⟩ := hy 3 (by omega)
  obtain ⟨y4, e4⟩ := hy 4 (by omega)
  have h0 : DataW.trod enc Try.prog w base (fun _ => true) held n' 3 (([a0, a1, a2, a3, a4].drop 0).take (Try.prog.cellsOf 3)) = some y0 := (hf 0 _ rfl).trans e0
  rw [ci] at h0
  have h1 : DataW.trod enc Try.prog w base (fun _ => true) held n' 4 (([a0, a1, a2, a3, a4].drop 1).take (Try.prog.cellsOf 4)) = some y1 := (hf 1 _ rfl).trans e1
  rw [cl] at h1
  have h2 : DataW.trod enc Try.prog w base (fun _ => true) held n' 31 (([a0, a1, a2, a3, a4].drop 2).take (Try.prog.cellsOf 31)) = some y2 := (hf 2 _ rfl).trans e2
  rw [cb] at h2
  have h3 : DataW.trod enc Try.prog w base (fun _ => true) held n' 34 (([a0, a1, a2, a3, a4].drop 3).take (Try.prog.cellsOf 34)) = some y3 := (hf 3 _ rfl).trans e3
  rw [cp] at h3
  have h4 : DataW.trod enc Try.prog w base (fun _ => true) held n' 35 (([a0, a1, a2, a3, a4].drop 4).take (Try.prog.cellsOf 35)) = some y4 := (hf 4 _ rfl).trans e4
  rw [cu] at h4
  obtain ⟨z0, q0, _⟩ := DataW.trod_int Try.underlying3 h0
  obtain ⟨z1, q1, _⟩ := DataW.trod_bool Try.underlying4 h1
  obtain ⟨A, n, c, l, rfl, b2⟩ := came h2
  obtain ⟨B, m, d, L, rfl, b3⟩ := came_pairs h3
  obtain ⟨z4, q4, _⟩ := DataW.trod_int Try.underlying35 h4
  simp at q0 q1 q4
  subst q0 q1 q4
  exact ⟨⟨A, n, c, B, m, d⟩, ⟨z0, z1, l, L, z4⟩, rfl, b2, b3⟩
/-- An answer that came in by value. -/
theorem came_anv {r : Reach} {b0 : Nat} {v : Value} {d : DataW H} {p : List MemPlace} (hv : Value.okWide Try.prog w r b0 37 v) (h : DataW.Trod enc Try.prog w base (fun _ => true) held 37 v d p) :
    ∃ h a, v = anV h a ∧ AnR w h a := by
  obtain ⟨cs, rfl, hsz⟩ := okWide_struct Try.underlying37 hv
  obtain ⟨fuel, hf⟩ := h
  obtain ⟨h, a, e, hr⟩ := came_an (by simpa [Value.cells] using hf)
  refine ⟨h, a, ?_, hr⟩
  unfold anV
  congr 1
  exact Array.ext' e

/-- A deed's seventeen cells that came in. -/
theorem came_deed {fuel : Nat} {cs : List Value} {x : DataW H × List MemPlace} (h : DataW.trod enc Try.prog w base (fun _ => true) held fuel 39 cs = some x) :
    ∃ h k x, cs = deC h k x ∧ RqR w h x.r ∧ AnR w k x.a ∧ -9223372036854775808 ≤ x.what ∧ x.what ≤ 9223372036854775807 := by
  obtain ⟨ys, n', _, _, hl, hyl, hf⟩ := DataW.trod_struct Try.underlying39 h
  rw [show Try.prog.cellsOf 39 = 17 by kernel_rfl] at hl
  obtain ⟨a0, a1, a2, a3, a4, a5, a6, a7, a8, a9, a10, a11, a12, a13, a14, a15, a16, rfl⟩ := many_of hl
  have ci : Try.prog.cellsOf 3 = 1 := by kernel_rfl
  have cr : Try.prog.cellsOf 33 = 8 := by kernel_rfl
  have ca : Try.prog.cellsOf 37 = 5 := by kernel_rfl
  have hy : ∀ j, j < 6 → ∃ y, ys[j]? = some y := fun j hj => ⟨ys[j]'(by rw [hyl]; exact hj), List.getElem?_eq_getElem _⟩
  obtain ⟨y0, e0⟩ := hy 0 (by omega)
  obtain ⟨y1, e1⟩ := hy 1 (by omega)
  obtain ⟨y2, e2⟩ := hy 2 (by omega)
  obtain ⟨y3, e3⟩ := hy 3 (by omega)
  obtain ⟨y4, e4⟩ := hy 4 (by omega)
  obtain ⟨y5, e5⟩ := hy 5 (by omega)
  have h0 : DataW.trod enc Try.prog w base (fun _ => true) held n' 3 (([a0, a1, a2, a3, a4, a5, a6, a7, a8, a9, a10, a11, a12, a13, a14, a15, a16].drop 0).take (Try.prog.cellsOf 3)) = some y0 := (hf 0 _ rfl).trans e0
  rw [ci] at h0
  have h1 : DataW.trod enc Try.prog w base (fun _ => true) held n' 3 (([a0, a1, a2, a3, a4, a5, a6, a7, a8, a9, a10, a11, a12, a13, a14, a15, a16].drop 1).take (Try.prog.cellsOf 3)) = some y1 := (hf 1 _ rfl).trans e1
  rw [ci] at h1
  have h2 : DataW.trod enc Try.prog w base (fun _ => true) held n' 3 (([a0, a1, a2, a3, a4, a5, a6, a7, a8, a9, a10, a11, a12, a13, a14, a15, a16].drop 2).take (Try.prog.cellsOf 3)) = some y2 := (hf 2 _ rfl).trans e2
  rw [ci] at h2
  have h3 : DataW.trod enc Try.prog w base (fun _ => true) held n' 3 (([a0, a1, a2, a3, a4, a5, a6, a7, a8, a9, a10, a11, a12, a13, a14, a15, a16].drop 3).take (Try.prog.cellsOf 3)) = some y3 := (hf 3 _ rfl).trans e3
  rw [ci] at h3
  have h4 : DataW.trod enc Try.prog w base (fun _ => true) held n' 33 (([a0, a1, a2, a3, a4, a5, a6, a7, a8, a9, a10, a11, a12, a13, a14, a15, a16].drop 4).take (Try.prog.cellsOf 33)) = some y4 := (hf 4 _ rfl).trans e4
  rw [cr] at h4
  have h5 : DataW.trod enc Try.prog w base (fun _ => true) held n' 37 (([a0, a1, a2, a3, a4, a5, a6, a7, a8, a9, a10, a11, a12, a13, a14, a15, a16].drop 12).take (Try.prog.cellsOf 37)) = some y5 := (hf 5 _ rfl).trans e5
  rw [ca] at h5
  obtain ⟨z0, q0, _, wf0⟩ := DataW.trod_int Try.underlying3 h0
  obtain ⟨z1, q1, _⟩ := DataW.trod_int Try.underlying3 h1
  obtain ⟨z2, q2, _⟩ := DataW.trod_int Try.underlying3 h2
  obtain ⟨z3, q3, _⟩ := DataW.trod_int Try.underlying3 h3
  obtain ⟨hh, r, q4, b4⟩ := came_req h4
  obtain ⟨k, a, q5, b5⟩ := came_an h5
  simp at q0 q1 q2 q3 q4 q5
  obtain ⟨p0, p1, p2, p3, p4, p5, p6, p7⟩ := q4
  obtain ⟨s0, s1, s2, s3, s4⟩ := q5
  subst q0 q1 q2 q3 p0 p1 p2 p3 p4 p5 p6 p7 s0 s1 s2 s3 s4
  exact ⟨hh, k, ⟨z0, z1, z2, z3, r, a⟩, rfl, b4, b5, by simpa [Lit.wf, IntKind.min, IntKind.max, IntKind.signed, IntKind.bits] using wf0⟩

/-- A list of deeds that came in. -/
theorem came_deeds {fuel : Nat} {v : Value} {x : DataW H × List MemPlace} (h : DataW.trod enc Try.prog w base (fun _ => true) held fuel 22 [v] = some x) :
    ∃ A n c M, v = .slice A n c ∧ Deeds w A n M := by
  rcases open_slice Try.underlying22 h with ⟨hcs, _⟩ | ⟨a, n, c, m, n1, D, Pl, hcs, _, hl, hm, hmm, _, hi⟩
  · simp at hcs
    exact ⟨none, 0, 0, [], hcs, rfl, Nat.zero_le _, fun h => absurd h (by omega)⟩
  · simp at hcs
    rw [show Try.prog.cellsOf 39 = 17 by kernel_rfl] at hi
    obtain ⟨b, o, s⟩ := a
    have hat0 : ∀ j, j < n → ∃ x : De, ∃ (h : Qh) (k : Sh), (∀ t u, t < 17 → (deC h k x)[t]? = some u → w.cell? ((⟨b, o, s⟩ : Addr).add (j * 17 + t)) = some u) ∧ RqR w h x.r ∧ AnR w k x.a ∧ -9223372036854775808 ≤ x.what ∧ x.what ≤ 9223372036854775807 := fun j hj => by
      have him : j < m := by rw [hmm]; split <;> omega
      obtain ⟨cs', hc, ht'⟩ := hi j him
      obtain ⟨_, hcl, hat⟩ := World.cells?_some hc
      obtain ⟨h, k, x, rfl, hr, ha⟩ := came_deed ht'
      refine ⟨x, h, k, fun t u ht hu => ?_, hr, ha⟩
      rw [← add_add, hat t ht, hu]
    rcases Nat.eq_zero_or_pos n with h0 | h0
    · subst h0
      exact ⟨_, 0, c, [], hcs, rfl, Nat.zero_le _, fun h => absurd h (by omega)⟩
    · obtain rfl : s = none := by
        obtain ⟨x, h, k, hu, _⟩ := hat0 0 h0
        simpa [Addr.add] using World.cell?_spot (hu 0 _ (by omega) rfl)
      have hb : b < w.heap.size := by
        obtain ⟨x, h, k, hu, _⟩ := hat0 0 h0
        have := World.block_lt_of_cell? w _ (hu 0 _ (by omega) rfl)
        rwa [add_block] at this
      obtain ⟨M, h1, h2⟩ := list_of3 (T := De) de0 n hat0
      refine ⟨_, n, c, M, hcs, h1, Nat.le_trans hl hm, fun _ => ⟨b, o, rfl, hb, fun j hj => ?_⟩⟩
      obtain ⟨h, k, hu, hr, ha⟩ := h2 j hj
      have hc : ∀ t u, t < 17 → (deC h k (dq M j))[t]? = some u → w.cell? ⟨b, o + j * 17 + t, none⟩ = some u := fun t u ht e => by
        have := hu t u ht e
        rw [add_lit, ← Nat.add_assoc] at this
        exact this
      exact ⟨h, k, ⟨hc 0 _ (by omega) rfl, hc 1 _ (by omega) rfl, hc 2 _ (by omega) rfl, hc 3 _ (by omega) rfl, hc 4 _ (by omega) rfl, hc 5 _ (by omega) rfl, hc 6 _ (by omega) rfl, hc 7 _ (by omega) rfl, hc 8 _ (by omega) rfl, hc 9 _ (by omega) rfl, hc 10 _ (by omega) rfl, hc 11 _ (by omega) rfl, hc 12 _ (by omega) rfl, hc 13 _ (by omega) rfl, hc 14 _ (by omega) rfl, hc 15 _ (by omega) rfl, hc 16 _ (by omega) rfl⟩, hr, ha⟩
end
end Go.Proofs.Ytojofhmhmcchnaa
