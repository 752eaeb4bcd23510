/- A request that came in, and a list of requests that came in. No condition. -/
import Derived.Test.YthcchaglloggjaaRl
import Derived.Test.YthcchaglloggjaaWk
namespace Go.Proofs.Ythcchaglloggjaa
open Go.ChangeShapes Go.WideShapes Go.ChangeAt Go.RowKit Go.Deep
set_option linter.unusedVariables false
set_option maxRecDepth 100000

theorem eight_of {cs : List Value} (h : cs.length = 8) : ∃ a0 a1 a2 a3 a4 a5 a6 a7, cs = [a0, a1, a2, a3, a4, a5, a6, a7] := by
  match cs, h with
  | [a0, a1, a2, a3, a4, a5, a6, a7], _ => exact ⟨a0, a1, a2, a3, a4, a5, a6, a7, rfl⟩
/-- What holds of something at each place holds of a list's. -/
theorem list_of3 {T : Type} (d : T) {Q : Nat → T → Prop} (n : Nat) (h : ∀ j, j < n → ∃ p, Q j p) : ∃ L : List T, L.length = n ∧ ∀ j, j < n → Q j (L.getD j d) := by
  induction n with
  | zero => exact ⟨[], rfl, fun j hj => absurd hj (by omega)⟩
  | succ n ih =>
    obtain ⟨L, h1, h2⟩ := ih (fun j hj => h j (by omega))
    obtain ⟨p, hp⟩ := h n (by omega)
    refine ⟨L ++ [p], by simp [h1], fun j hj => ?_⟩
    rw [List.getD_eq_getElem?_getD]
    rcases Nat.lt_succ_iff_lt_or_eq.1 hj with hj | rfl
    · rw [List.getElem?_append_left (by omega), ← List.getD_eq_getElem?_getD]
      exact h2 j hj
    · rw [List.getElem?_append_right (by omega), h1]
      simpa using hp

section
variable {H : Type} {enc : TypeId × Value → H} {w : World} {base : Nat} {held : Bool}
/-- A request's eight cells that came in. -/
theorem came_req {fuel : Nat} {cs : List Value} {x : DataW H × List MemPlace} (h : DataW.trod enc Try.prog w base (fun _ => true) held fuel 60 cs = some x) :
    ∃ h r, cs = [.int .i64 r.cl, .int .i64 r.sq, .int .i64 r.kind, .slice h.A h.n h.c, .slice h.B h.m h.d, .slice h.C h.o h.p, .slice h.D h.q h.s, .int .i64 r.limit] ∧ RqR w h r := by
  obtain ⟨ys, n', _, _, hl, hyl, hf⟩ := DataW.trod_struct Try.underlying60 h
  rw [show Try.prog.cellsOf 60 = 8 by kernel_rfl] at hl
  obtain ⟨a0, a1, a2, a3, a4, a5, a6, a7, rfl⟩ := eight_of hl
  have ci : Try.prog.cellsOf 3 = 1 := by kernel_rfl
  have cb : Try.prog.cellsOf 42 = 1 := by kernel_rfl
  have hy : ∀ j, j < 8 → ∃ y, ys[j]? = some y := fun j hj => ⟨ys[j]'(by rw [hyl]; exact hj), List.getElem?_eq_getElem _⟩
  obtain ⟨y0, e0⟩ := hy 0 (by omega)
  obtain ⟨y1, e1⟩ := hy 1 (by omega)
  obtain ⟨y2, e2⟩ := hy 2 (by omega)
  obtain ⟨y3, e3⟩ := hy 3 (by omega)
  obtain ⟨y4, e4⟩ := hy 4 (by omega)
  obtain ⟨y5, e5⟩ := hy 5 (by omega)
  obtain ⟨y6, e6⟩ := hy 6 (by omega)
  obtain ⟨y7, e7⟩ := hy 7 (by omega)
  have h0 : DataW.trod enc Try.prog w base (fun _ => true) held n' 3 (([a0, a1, a2, a3, a4, a5, a6, a7].drop 0).take (Try.prog.cellsOf 3)) = some y0 := (hf 0 _ rfl).trans e0
  rw [ci] at h0
  have h1 : DataW.trod enc Try.prog w base (fun _ => true) held n' 3 (([a0, a1, a2, a3, a4, a5, a6, a7].drop 1).take (Try.prog.cellsOf 3)) = some y1 := (hf 1 _ rfl).trans e1
  rw [ci] at h1
  have h2 : DataW.trod enc Try.prog w base (fun _ => true) held n' 3 (([a0, a1, a2, a3, a4, a5, a6, a7].drop 2).take (Try.prog.cellsOf 3)) = some y2 := (hf 2 _ rfl).trans e2
  rw [ci] at h2
  have h3 : DataW.trod enc Try.prog w base (fun _ => true) held n' 42 (([a0, a1, a2, a3, a4, a5, a6, a7].drop 3).take (Try.prog.cellsOf 42)) = some y3 := (hf 3 _ rfl).trans e3
  rw [cb] at h3
  have h4 : DataW.trod enc Try.prog w base (fun _ => true) held n' 42 (([a0, a1, a2, a3, a4, a5, a6, a7].drop 4).take (Try.prog.cellsOf 42)) = some y4 := (hf 4 _ rfl).trans e4
  rw [cb] at h4
  have h5 : DataW.trod enc Try.prog w base (fun _ => true) held n' 42 (([a0, a1, a2, a3, a4, a5, a6, a7].drop 5).take (Try.prog.cellsOf 42)) = some y5 := (hf 5 _ rfl).trans e5
  rw [cb] at h5
  have h6 : DataW.trod enc Try.prog w base (fun _ => true) held n' 42 (([a0, a1, a2, a3, a4, a5, a6, a7].drop 6).take (Try.prog.cellsOf 42)) = some y6 := (hf 6 _ rfl).trans e6
  rw [cb] at h6
  have h7 : DataW.trod enc Try.prog w base (fun _ => true) held n' 3 (([a0, a1, a2, a3, a4, a5, a6, a7].drop 7).take (Try.prog.cellsOf 3)) = some y7 := (hf 7 _ rfl).trans e7
  rw [ci] at h7
  obtain ⟨z0, q0, _⟩ := DataW.trod_int Try.underlying3 h0
  obtain ⟨z1, q1, _⟩ := DataW.trod_int Try.underlying3 h1
  obtain ⟨z2, q2, _⟩ := DataW.trod_int Try.underlying3 h2
  obtain ⟨A, n, c, k3, rfl, b3⟩ := came h3
  obtain ⟨B, m, d, k4, rfl, b4⟩ := came h4
  obtain ⟨C, o, p, k5, rfl, b5⟩ := came h5
  obtain ⟨D, q, s, k6, rfl, b6⟩ := came h6
  obtain ⟨z7, q7, _⟩ := DataW.trod_int Try.underlying3 h7
  simp at q0 q1 q2 q7
  subst q0 q1 q2 q7
  exact ⟨⟨A, n, c, B, m, d, C, o, p, D, q, s⟩, ⟨z0, z1, z2, k3, k4, k5, k6, z7⟩, rfl, b3, b4, b5, b6⟩
/-- A request that came in by value. -/
theorem came_reqv {r : Reach} {b0 : Nat} {v : Value} {d : DataW H} {p : List MemPlace} (hv : Value.okWide Try.prog w r b0 60 v) (h : DataW.Trod enc Try.prog w base (fun _ => true) held 60 v d p) :
    ∃ h r, v = rqV h r ∧ RqR w h r := by
  obtain ⟨cs, rfl, hsz⟩ := okWide_struct Try.underlying60 hv
  obtain ⟨fuel, hf⟩ := h
  obtain ⟨h, r, e, hr⟩ := came_req (by simpa [Value.cells] using hf)
  refine ⟨h, r, ?_, hr⟩
  unfold rqV
  congr 1
  exact Array.ext' e

/-- A list of requests that came in. -/
theorem came_reqs {fuel : Nat} {v : Value} {x : DataW H × List MemPlace} (h : DataW.trod enc Try.prog w base (fun _ => true) held fuel 31 [v] = some x) :
    ∃ A n c M, v = .slice A n c ∧ Reqs w A n M := by
  rcases open_slice Try.underlying31 h with ⟨hcs, _⟩ | ⟨a, n, c, m, n1, D, Pl, hcs, _, hl, hm, hmm, _, hi⟩
  · simp at hcs
    exact ⟨none, 0, 0, [], hcs, rfl, Nat.zero_le _, fun h => absurd h (by omega)⟩
  · simp at hcs
    rw [show Try.prog.cellsOf 60 = 8 by kernel_rfl] at hi
    obtain ⟨b, o, s⟩ := a
    have hat0 : ∀ j, j < n → ∃ r : Rq, ∃ h : Qh, (∀ t u, t < 8 → [Value.int .i64 r.cl, .int .i64 r.sq, .int .i64 r.kind, .slice h.A h.n h.c, .slice h.B h.m h.d, .slice h.C h.o h.p, .slice h.D h.q h.s, .int .i64 r.limit][t]? = some u → w.cell? ((⟨b, o, s⟩ : Addr).add (j * 8 + t)) = some u) ∧ RqR w h r := fun j hj => by
      have him : j < m := by rw [hmm]; split <;> omega
      obtain ⟨cs', hc, ht'⟩ := hi j him
      obtain ⟨_, hcl, hat⟩ := World.cells?_some hc
      obtain ⟨h, r, rfl, hr⟩ := came_req ht'
      refine ⟨r, h, fun t u ht hu => ?_, hr⟩
      rw [← add_add, hat t ht, hu]
    rcases Nat.eq_zero_or_pos n with h0 | h0
    · subst h0
      exact ⟨_, 0, c, [], hcs, rfl, Nat.zero_le _, fun h => absurd h (by omega)⟩
    · obtain rfl : s = none := by
        obtain ⟨r, h, hu, _⟩ := hat0 0 h0
        simpa [Addr.add] using World.cell?_spot (hu 0 _ (by omega) rfl)
      have hb : b < w.heap.size := by
        obtain ⟨r, h, hu, _⟩ := hat0 0 h0
        have := World.block_lt_of_cell? w _ (hu 0 _ (by omega) rfl)
        rwa [add_block] at this
      obtain ⟨M, h1, h2⟩ := list_of3 (T := Rq) rq0 n hat0
      refine ⟨_, n, c, M, hcs, h1, Nat.le_trans hl hm, fun _ => ⟨b, o, rfl, hb, fun j hj => ?_⟩⟩
      obtain ⟨h, hu, hr⟩ := h2 j hj
      have hc : ∀ t u, t < 8 → [Value.int .i64 (gq M j).cl, .int .i64 (gq M j).sq, .int .i64 (gq M j).kind, .slice h.A h.n h.c, .slice h.B h.m h.d, .slice h.C h.o h.p, .slice h.D h.q h.s, .int .i64 (gq M j).limit][t]? = some u → w.cell? ⟨b, o + j * 8 + t, none⟩ = some u := fun t u ht e => by
        have := hu t u ht e
        rw [add_lit, ← Nat.add_assoc] at this
        exact this
      exact ⟨h, hc 0 _ (by omega) rfl, hc 1 _ (by omega) rfl, hc 2 _ (by omega) rfl, hc 3 _ (by omega) rfl, hc 4 _ (by omega) rfl, hc 5 _ (by omega) rfl, hc 6 _ (by omega) rfl, hc 7 _ (by omega) rfl, hr⟩
end
end Go.Proofs.Ythcchaglloggjaa
