/- The contract of the arena's Make where a number is free; Make whatever is free. Condition: at most 10000 numbers; no list of a node longer than 1000. -/
import Derived.Test.YtbphjhmmdkaggaaNl
namespace Go.Proofs.Ytbphjhmmdkaggaa
open Go.RowKit
set_option linter.unusedVariables false

theorem ArW.last {w : World} {C D : Nat → Prop} {g k pc qc : Nat} {L : List (Option Nd)} {F : List Nat} {P Q : Option Addr} {xs : List Value} (h : ArW w C D g L (F ++ [k]) P Q pc qc xs) : ∃ q, Q = some ⟨q, 0, none⟩ ∧ w.cell? ⟨q, F.length, none⟩ = some (.int .i64 k) := by
  obtain ⟨h1, h2, h3, h4, h5, h6⟩ := h
  obtain ⟨q, rfl, -, -⟩ := own_at h3 (by simp)
  refine ⟨q, rfl, ?_⟩
  rw [h3.cellAt _ (by simp)]
  simp

set_option maxRecDepth 100000 in
set_option maxHeartbeats 4000000 in
theorem make_pop {w : World} {D : Nat → Prop} {g k : Nat} {L : List (Option Nd)} {F : List Nat} (h : Ar w D g L (F ++ [k])) (hN : L.length ≤ 10000) (hM : F.length ≤ 10000) {hh : Nh} {x : Nd} (hr : On (fun b => ¬ D b) w (NdR · hh x)) (hs : SmallN x) :
    Calls Try.prog 10 #[.pointer (some ⟨g, 0, none⟩), ndV hh x] w (MakeOut w D g (L.set k (some x)) F k) := by
  obtain ⟨C, P, Q, pc, qc, xs, h⟩ := h
  have hgl : g < w.heap.size := h.2.2.2.2.2.lt g h.2.2.2.2.2.dg
  have hDg : D g := h.2.2.2.2.2.dg
  have h' := h.keep (agree_alloc w (.cells #[.bool x.leaf, .slice hh.A hh.n hh.c, .slice hh.B hh.m hh.d, .slice hh.K hh.k hh.e, .int .i64 x.next] 35))
  obtain ⟨hpop, hk, hlk, hkF⟩ := h.pop
  obtain ⟨q, rfl, cq⟩ := h'.last
  obtain ⟨c0, c1, f0, f1⟩ := pair_cells h'.1
  obtain ⟨W1, hW1, hp1, hW1s, hW1h, hW1r, hW1o⟩ : ∃ W1, W1 = (w.setCell ⟨g, 1, none⟩ (.slice (some ⟨q, 0, none⟩) F.length qc)).alloc (.cells #[.bool x.leaf, .slice hh.A hh.n hh.c, .slice hh.B hh.m hh.d, .slice hh.K hh.k hh.e, .int .i64 x.next] 35) ∧ ArW W1 C D g L F P (some ⟨q, 0, none⟩) pc qc xs ∧ W1.heap.size = w.heap.size + 1 ∧ W1.heap[w.heap.size]? = some (.cells #[.bool x.leaf, .slice hh.A hh.n hh.c, .slice hh.B hh.m hh.d, .slice hh.K hh.k hh.e, .int .i64 x.next] 35 (0, 0)) ∧ NdR W1 hh x ∧ Only D w W1 := by
    have hz : (w.setCell ⟨g, 1, none⟩ (.slice (some ⟨q, 0, none⟩) F.length qc)).heap.size = w.heap.size := by simp [World.setCell]
    refine ⟨_, rfl, hpop.keep (agree_alloc _ _), alloc_size hz _, ?_, ((hr.keep (agree_set w _ _ (fun h => h hDg))).keep (agree_alloc _ _)).here, ((Only.refl D w).set _ _ (.inr hDg)).alloc _⟩
    have := heap_alloc_new (w.setCell ⟨g, 1, none⟩ (.slice (some ⟨q, 0, none⟩) F.length qc)) (.cells #[.bool x.leaf, .slice hh.A hh.n hh.c, .slice hh.B hh.m hh.d, .slice hh.K hh.k hh.e, .int .i64 x.next] 35)
    rw [hz] at this
    exact this
  obtain ⟨p, u0, u1, u2, u3, u4, u5, rfl, hDp, hpg, hCp, g0, g1, g2, g3, g4, g5, fz⟩ := hp1.any hk
  have hpl : p < w.heap.size := h.2.2.2.2.2.lt p hDp
  have hqg : q ≠ g := (h.2.2.2.2.2.q _ rfl).2.2
  have K1 := Lib.hid (And.intro g0 (And.intro g1 (And.intro g2 (And.intro g3 (And.intro g4 g5)))))
  have K2 := Lib.hid fz
  have HP := Lib.hid hp1
  have HW1 := Lib.hid hW1
  have hqc : F.length + 1 ≤ qc := by have := (own_caps h.2.2.1).1; simpa using this
  have HX := Lib.hid (And.intro hk (And.intro hlk hkF))
  have HR := Lib.hid hW1r
  have HB := Lib.hid (And.intro hW1h (And.intro hW1s hW1o))
  have HS := Lib.hid hs
  have HH := Lib.hid (pair_cells hp1.1)
  simp only [List.length_append, List.length_cons, List.length_nil, Nat.zero_add] at c1
  generalize hn : L.length = n at c0 hN hk HH
  generalize hm : F.length = m at c1 hM cq HW1 HH hqc
  have HNL := Lib.hid (And.intro hn hm)
  clear h h' hr hs hn hm hpop hp1 hlk hkF hDp hCp hDg hW1 hW1s hW1h hW1r hW1o g0 g1 g2 g3 g4 g5 fz
  go_enter Try.func10, Try.ntmps10
  have hm0 : decide ((m : Int) < 0) = false := by simp
  have hmq : m ≤ qc := by omega
  go_wp2
  rw [← HW1.out]
  clear hm0 c0 c1 cq f0 f1
  obtain ⟨b0, b1, b2, b3, b4, -⟩ := five HB.out.1
  obtain ⟨c0, -, -, -⟩ := HH.out
  have D0 := Lib.hid (apart_any (w := W1.drew) (show NdR W1.drew hh x from HR.out) HS.out)
  have K0 := Lib.hid c0
  have KB := Lib.hid (And.intro b0 (And.intro b1 (And.intro b2 (And.intro b3 b4))))
  have z1 : ¬ (p = w.heap.size) := by omega
  have z2 : ¬ (w.heap.size = p) := by omega
  have z3 : ¬ (g = p) := fun e => hpg e.symm
  have hl1 : w.heap.size < W1.heap.size := by have := HB.out.2.1; omega
  go_region_held3 (fun w' => w'.cell? ⟨g, 0, none⟩ = some (.slice (some ⟨p, 0, none⟩) n pc) ∧ w'.cell? ⟨w.heap.size, 0, none⟩ = some (.bool x.leaf) ∧ w'.cell? ⟨w.heap.size, 1, none⟩ = some (.slice hh.A hh.n hh.c) ∧ w'.cell? ⟨w.heap.size, 2, none⟩ = some (.slice hh.B hh.m hh.d) ∧ w'.cell? ⟨w.heap.size, 3, none⟩ = some (.slice hh.K hh.k hh.e) ∧ w'.cell? ⟨w.heap.size, 4, none⟩ = some (.int .i64 x.next)) (go_keep)
    ((go_at_call 21
      (with_reducible refine D0.out.mono ?_)
      rintro e w3 ⟨h3, rfl, on3, hb3⟩
      have hb3 := undrew hb3
      have c0 := (hb3.cell (p := ⟨g, 0, none⟩) (Nat.lt_trans hgl hl1)).trans K0.out
      have b0 := (hb3.cell (p := ⟨w.heap.size, 0, none⟩) hl1).trans KB.out.1
      have b1 := (hb3.cell (p := ⟨w.heap.size, 1, none⟩) hl1).trans KB.out.2.1
      have b2 := (hb3.cell (p := ⟨w.heap.size, 2, none⟩) hl1).trans KB.out.2.2.1
      have b3 := (hb3.cell (p := ⟨w.heap.size, 3, none⟩) hl1).trans KB.out.2.2.2.1
      have b4 := (hb3.cell (p := ⟨w.heap.size, 4, none⟩) hl1).trans KB.out.2.2.2.2
      have g0 := (hb3.cell (p := ⟨p, k * 6, none⟩) (Nat.lt_trans hpl hl1)).trans K1.out.1
      have g1 := (hb3.cell (p := ⟨p, k * 6 + 1, none⟩) (Nat.lt_trans hpl hl1)).trans K1.out.2.1
      have g2 := (hb3.cell (p := ⟨p, k * 6 + 2, none⟩) (Nat.lt_trans hpl hl1)).trans K1.out.2.2.1
      have g3 := (hb3.cell (p := ⟨p, k * 6 + 3, none⟩) (Nat.lt_trans hpl hl1)).trans K1.out.2.2.2.1
      have g4 := (hb3.cell (p := ⟨p, k * 6 + 4, none⟩) (Nat.lt_trans hpl hl1)).trans K1.out.2.2.2.2.1
      have g5 := (hb3.cell (p := ⟨p, k * 6 + 5, none⟩) (Nat.lt_trans hpl hl1)).trans K1.out.2.2.2.2.2
      have f0 := (hb3.frozen (p := ⟨p, k * 6, none⟩) (Nat.lt_trans hpl hl1)).trans (K2.out _)
      have f1 := (hb3.frozen (p := ⟨p, k * 6 + 1, none⟩) (Nat.lt_trans hpl hl1)).trans (K2.out _)
      have f2 := (hb3.frozen (p := ⟨p, k * 6 + 2, none⟩) (Nat.lt_trans hpl hl1)).trans (K2.out _)
      have f3 := (hb3.frozen (p := ⟨p, k * 6 + 3, none⟩) (Nat.lt_trans hpl hl1)).trans (K2.out _)
      have f4 := (hb3.frozen (p := ⟨p, k * 6 + 4, none⟩) (Nat.lt_trans hpl hl1)).trans (K2.out _)
      have f5 := (hb3.frozen (p := ⟨p, k * 6 + 5, none⟩) (Nat.lt_trans hpl hl1)).trans (K2.out _)
      have HON := Lib.hid on3
      have HB3 := Lib.hid hb3
      clear on3 hb3))
  all_goals
    go_wp2
    go_ret
    refine ⟨rfl, ?_⟩
    have hp6 := HP.out.put6 (w1 := w3) (k := k) (o := some x) (u0 := .bool x.leaf) (u1 := .slice h3.A h3.n h3.c) (u2 := .slice h3.B h3.m h3.d) (u3 := .slice h3.K h3.k h3.e) (u4 := .int .i64 x.next) (u5 := .bool true) HX.out.1 HX.out.2.2 HB3.out (fun ys e0 e1 e2 e3 e4 e5 =>
      ⟨h3, e0, e1, e2, e3, e4, e5, HS.out, (HON.out.keep (six_agr w3 _ _ _ _ _ _ _ (by show ¬ (W1.heap.size ≤ p); omega))).now.mono (fun b hb => .inr hb)⟩)
    obtain ⟨ys, hA, hO⟩ := hp6
    exact ⟨_, ⟨_, _, _, _, _, _, hA⟩, fun b hb => hb.imp id (fun h => by have := HB.out.2.1; omega), HB.out.2.2.trans2 hO (fun b hb => .inl hb)⟩

theorem make_any {w : World} {D : Nat → Prop} {g : Nat} {L : List (Option Nd)} {F : List Nat} (h : Ar w D g L F) (hN : L.length ≤ 10000) (hM : F.length ≤ 10000) {hh : Nh} {x : Nd} (hr : On (fun b => ¬ D b) w (NdR · hh x)) (hs : SmallN x) :
    Calls Try.prog 10 #[.pointer (some ⟨g, 0, none⟩), ndV hh x] w fun e w' =>
      (F = [] ∧ MakeOut w D g (L ++ [some x]) [] L.length e w') ∨ ∃ F0 k, F = F0 ++ [k] ∧ MakeOut w D g (L.set k (some x)) F0 k e w' := by
  rcases List.eq_nil_or_concat F with rfl | ⟨F0, k, rfl⟩
  · exact (make_new h hN hr.here hs).mono fun e w' h => .inl ⟨rfl, h⟩
  · rw [List.concat_eq_append] at *
    exact (make_pop h hN (by simp at hM; omega) hr hs).mono fun e w' h => .inr ⟨F0, k, rfl, h⟩
end Go.Proofs.Ytbphjhmmdkaggaa
