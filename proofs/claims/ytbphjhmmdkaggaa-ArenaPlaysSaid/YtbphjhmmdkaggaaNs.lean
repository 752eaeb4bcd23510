/- The document's own arena: the contract of its Make. Condition: at most 10000 numbers. -/
import Derived.Test.YtbphjhmmdkaggaaNr
import Derived.StillTailTactics
namespace Go.Proofs.Ytbphjhmmdkaggaa
open Go.RowKit
set_option linter.unusedVariables false

abbrev Own3 (w : World) (E : Nat → Prop) (r : Nat) (P T Q : Option Addr) (pc tc qc n : Nat) (xs ts fs : List Value) (nt nf : Nat) : Prop :=
  Own w E r 31 [⟨P, pc, 43, 5, n, xs⟩, ⟨T, tc, 4, 1, nt, ts⟩, ⟨Q, qc, 3, 1, nf, fs⟩]

theorem own_five {w : World} {E : Nat → Prop} {r n nt nf : Nat} {P T Q : Option Addr} {pc tc qc : Nat} {xs ts fs : List Value} (ho : Own3 w E r P T Q pc tc qc n xs ts fs nt nf) {k : Nat} (hk : k < n) :
    ∃ p u0 u1 u2 u3 u4, P = some ⟨p, 0, none⟩ ∧ E p ∧ p ≠ r ∧ w.cell? ⟨p, k * 5, none⟩ = some u0 ∧ w.cell? ⟨p, k * 5 + 1, none⟩ = some u1 ∧ w.cell? ⟨p, k * 5 + 2, none⟩ = some u2 ∧
      w.cell? ⟨p, k * 5 + 3, none⟩ = some u3 ∧ w.cell? ⟨p, k * 5 + 4, none⟩ = some u4 ∧ ∀ o, w.frozen? ⟨p, o, none⟩ = false := by
  have h0 := ho.row 0 _ rfl
  obtain ⟨p, rfl, -, -⟩ := own_at h0 (show 0 < n by omega)
  have hp := ho.el 0 _ rfl _ rfl
  have hl : xs.length = n * 5 := h0.1
  have hc : ∀ q, q < 5 → w.cell? ⟨p, k * 5 + q, none⟩ = some (xs.getD (k * 5 + q) .nilIface) := fun q hq => by
    rw [h0.cellAt _ (by show _ < n * 5; omega), List.getD_eq_getElem?_getD, List.getElem?_eq_getElem (by show _ < xs.length; omega)]
    rfl
  exact ⟨p, _, _, _, _, _, rfl, hp.1, hp.2, hc 0 (by omega), hc 1 (by omega), hc 2 (by omega), hc 3 (by omega), hc 4 (by omega), fun o => h0.frozenAt o⟩

theorem own_bit {w : World} {E : Nat → Prop} {r n nt nf : Nat} {P T Q : Option Addr} {pc tc qc : Nat} {xs ts fs : List Value} (ho : Own3 w E r P T Q pc tc qc n xs ts fs nt nf) {k : Nat} (hk : k < nt) :
    ∃ t u, T = some ⟨t, 0, none⟩ ∧ E t ∧ t ≠ r ∧ (∀ p, P = some ⟨p, 0, none⟩ → t ≠ p) ∧ w.cell? ⟨t, k, none⟩ = some u ∧ ∀ o, w.frozen? ⟨t, o, none⟩ = false := by
  have h1 := ho.row 1 _ rfl
  obtain ⟨t, rfl, -, -⟩ := own_at h1 (show 0 < nt by omega)
  have hl : ts.length = nt * 1 := h1.1
  refine ⟨t, ts.getD k .nilIface, rfl, (ho.el 1 _ rfl _ rfl).1, (ho.el 1 _ rfl _ rfl).2, fun p e => ho.ap 1 0 _ _ rfl rfl (by decide) _ _ rfl e, ?_, fun o => h1.frozenAt o⟩
  rw [h1.cellAt _ (by show _ < nt * 1; omega), List.getD_eq_getElem?_getD, List.getElem?_eq_getElem (by show _ < ts.length; omega)]
  rfl

theorem Ref.last {w0 w : World} {E : Nat → Prop} {r k : Nat} {L : List (Option Nd)} {F : List Nat} {P T Q : Option Addr} {pc tc qc : Nat} {xs : List Value} (h : Ref w0 w E r L (F ++ [k]) P T Q pc tc qc xs) :
    ∃ q, Q = some ⟨q, 0, none⟩ ∧ q ≠ r ∧ F.length + 1 ≤ qc ∧ w.cell? ⟨q, F.length, none⟩ = some (.int .i64 k) := by
  obtain ⟨ho, -⟩ := h
  have h2 := ho.row 2 _ rfl
  obtain ⟨q, rfl, -, -⟩ := own_at h2 (by simp)
  refine ⟨q, rfl, (ho.el 2 _ rfl _ rfl).2, by have := (own_caps h2).1; simpa using this, ?_⟩
  rw [h2.cellAt _ (by simp)]
  simp

theorem is_set {L : List (Option Nd)} {k : Nat} {o : Option Nd} (b : Bool) (hb : o.isSome = b) : (L.map isV).set k (.bool b) = (L.set k o).map isV := by
  rw [List.map_set]
  subst hb
  rfl

theorem agree_drew {C : Nat → Prop} (w : World) : Agree C w w.drew := ⟨Nat.le_refl _, fun _ _ _ => rfl⟩
theorem Only.drew {D : Nat → Prop} {a w : World} (h : Only D a w) : Only D a w.drew := ⟨h.os, h.tape, h.output, h.size, h.block⟩

/-- Five cells of the first slice are stored into. -/
theorem Own.five5 {w : World} {E : Nat → Prop} {r p n nt nf : Nat} {T Q : Option Addr} {pc tc qc : Nat} {xs ts fs : List Value} (ho : Own3 w E r (some ⟨p, 0, none⟩) T Q pc tc qc n xs ts fs nt nf) (k : Nat) (u0 u1 u2 u3 u4 : Value) :
    Own3 (((((w.setCell ⟨p, k, none⟩ u0).setCell ⟨p, k + 1, none⟩ u1).setCell ⟨p, k + 2, none⟩ u2).setCell ⟨p, k + 3, none⟩ u3).setCell ⟨p, k + 4, none⟩ u4) E r (some ⟨p, 0, none⟩) T Q pc tc qc n (((((xs.set k u0).set (k + 1) u1).set (k + 2) u2).set (k + 3) u3).set (k + 4) u4) ts fs nt nf :=
  ((((ho.store (i := 0) rfl rfl k u0).store (i := 0) rfl rfl (k + 1) u1).store (i := 0) rfl rfl (k + 2) u2).store (i := 0) rfl rfl (k + 3) u3).store (i := 0) rfl rfl (k + 4) u4

theorem set55_other {xs : List Value} {k i q : Nat} (u0 u1 u2 u3 u4 : Value) (h : i ≠ k) (hq : q < 5) :
    (((((xs.set (k * 5) u0).set (k * 5 + 1) u1).set (k * 5 + 2) u2).set (k * 5 + 3) u3).set (k * 5 + 4) u4)[i * 5 + q]? = xs[i * 5 + q]? := by
  rw [List.getElem?_set_ne (by omega), List.getElem?_set_ne (by omega), List.getElem?_set_ne (by omega), List.getElem?_set_ne (by omega), List.getElem?_set_ne (by omega)]
theorem set55_at {xs : List Value} {k : Nat} (u0 u1 u2 u3 u4 : Value) (h : k * 5 + 4 < xs.length) :
    let ys := (((((xs.set (k * 5) u0).set (k * 5 + 1) u1).set (k * 5 + 2) u2).set (k * 5 + 3) u3).set (k * 5 + 4) u4)
    ys[k * 5]? = some u0 ∧ ys[k * 5 + 1]? = some u1 ∧ ys[k * 5 + 2]? = some u2 ∧ ys[k * 5 + 3]? = some u3 ∧ ys[k * 5 + 4]? = some u4 := by
  refine ⟨?_, ?_, ?_, ?_, ?_⟩
  · rw [List.getElem?_set_ne (by omega), List.getElem?_set_ne (by omega), List.getElem?_set_ne (by omega), List.getElem?_set_ne (by omega), List.getElem?_set_self (by omega)]
  · rw [List.getElem?_set_ne (by omega), List.getElem?_set_ne (by omega), List.getElem?_set_ne (by omega), List.getElem?_set_self (by simp; omega)]
  · rw [List.getElem?_set_ne (by omega), List.getElem?_set_ne (by omega), List.getElem?_set_self (by simp; omega)]
  · rw [List.getElem?_set_ne (by omega), List.getElem?_set_self (by simp; omega)]
  · rw [List.getElem?_set_self (by simp; omega)]

/-- What is read where a node was put in the place of another one, or behind. -/
theorem RefIs.set {w0 : World} {L : List (Option Nd)} {xs : List Value} {k : Nat} {x : Nd} {hh : Nh} (h : RefIs w0 L xs) (hk : k < L.length) (hl : xs.length = L.length * 5) (hr : NdR w0 hh x) :
    RefIs w0 (L.set k (some x)) (((((xs.set (k * 5) (.bool x.leaf)).set (k * 5 + 1) (.slice hh.A hh.n hh.c)).set (k * 5 + 2) (.slice hh.B hh.m hh.d)).set (k * 5 + 3) (.slice hh.K hh.k hh.e)).set (k * 5 + 4) (.int .i64 x.next)) := by
  intro i y hy
  rw [lat_set hk] at hy
  by_cases e : i = k
  · rw [if_pos e] at hy
    injection hy with hy
    subst hy
    subst e
    obtain ⟨e0, e1, e2, e3, e4⟩ := set55_at (xs := xs) (k := i) (.bool x.leaf) (.slice hh.A hh.n hh.c) (.slice hh.B hh.m hh.d) (.slice hh.K hh.k hh.e) (.int .i64 x.next) (by omega)
    exact ⟨hh, e0, e1, e2, e3, e4, hr⟩
  · rw [if_neg e] at hy
    obtain ⟨h', e0, e1, e2, e3, e4, e5⟩ := h i y hy
    have ho := fun q (hq : q < 5) => set55_other (xs := xs) (k := k) (i := i) (.bool x.leaf) (.slice hh.A hh.n hh.c) (.slice hh.B hh.m hh.d) (.slice hh.K hh.k hh.e) (.int .i64 x.next) e hq
    exact ⟨h', (ho 0 (by omega)).trans e0, (ho 1 (by omega)).trans e1, (ho 2 (by omega)).trans e2, (ho 3 (by omega)).trans e3, (ho 4 (by omega)).trans e4, e5⟩
theorem RefIs.push {w0 : World} {L : List (Option Nd)} {xs : List Value} {x : Nd} {hh : Nh} (h : RefIs w0 L xs) (hl : xs.length = L.length * 5) (hr : NdR w0 hh x) :
    RefIs w0 (L ++ [some x]) (xs ++ [.bool x.leaf, .slice hh.A hh.n hh.c, .slice hh.B hh.m hh.d, .slice hh.K hh.k hh.e, .int .i64 x.next]) := by
  intro i y hy
  rw [lat_push] at hy
  by_cases e : i = L.length
  · rw [if_pos e] at hy
    injection hy with hy
    subst hy
    subst e
    have hq : ∀ q, (xs ++ [.bool x.leaf, .slice hh.A hh.n hh.c, .slice hh.B hh.m hh.d, .slice hh.K hh.k hh.e, .int .i64 x.next])[L.length * 5 + q]? = [Value.bool x.leaf, .slice hh.A hh.n hh.c, .slice hh.B hh.m hh.d, .slice hh.K hh.k hh.e, .int .i64 x.next][q]? := fun q => by
      rw [List.getElem?_append_right (by omega)]
      congr 1
      omega
    exact ⟨hh, hq 0, hq 1, hq 2, hq 3, hq 4, hr⟩
  · rw [if_neg e] at hy
    obtain ⟨h', e0, e1, e2, e3, e4, e5⟩ := h i y hy
    have hil : i < L.length := by
      rcases Nat.lt_or_ge i L.length with h | h
      · exact h
      · rw [lat_out h] at hy; cases hy
    have ho := fun q (hq : q < 5) => List.getElem?_append_left (l₁ := xs) (l₂ := [.bool x.leaf, .slice hh.A hh.n hh.c, .slice hh.B hh.m hh.d, .slice hh.K hh.k hh.e, .int .i64 x.next]) (i := i * 5 + q) (by omega)
    exact ⟨h', (ho 0 (by omega)).trans e0, (ho 1 (by omega)).trans e1, (ho 2 (by omega)).trans e2, (ho 3 (by omega)).trans e3, (ho 4 (by omega)).trans e4, e5⟩

set_option maxRecDepth 100000 in
set_option maxHeartbeats 4000000 in
theorem rmake_pop {w0 w : World} {E : Nat → Prop} {r k : Nat} {L : List (Option Nd)} {F : List Nat} {P T Q : Option Addr} {pc tc qc : Nat} {xs : List Value} (h : Ref w0 w E r L (F ++ [k]) P T Q pc tc qc xs) (hk : k < L.length) (hN : L.length ≤ 10000) (hM : F.length ≤ 10000) {hh : Nh} {x : Nd} (hr : NdR w0 hh x) :
    Calls Try.prog 11 #[.pointer (some ⟨r, 0, none⟩), ndV hh x] w fun e w' => e = .returned (.int .i64 k) ∧ RTurn w0 w E r (L.set k (some x)) F w' := by
  have hrl := h.1.lt r h.1.er
  obtain ⟨q, rfl, hqr, hqc, cq⟩ := h.last
  obtain ⟨c0, c1, c2, f0, f1, f2⟩ := three_cells h.1.hr
  simp only [RowD.v, List.length_append, List.length_cons, List.length_nil, Nat.zero_add] at c0 c1 c2
  have hql := h.1.lt q (h.1.el 2 _ rfl _ rfl).1
  have hcut := h.1.cut (i := 2) (m := F.length) rfl (by simp)
  have hfs : (List.map natV (F ++ [k])).take (F.length * 1) = List.map natV F := by
    rw [List.map_append, Nat.mul_one, List.take_append_of_le_length (by simp)]
    exact List.take_of_length_le (by simp)
  simp only [List.set_cons_succ, List.set_cons_zero, hfs] at hcut
  obtain ⟨W, hW, hWo, hWs, hWh⟩ : ∃ W, W = (w.setCell ⟨r, 2, none⟩ (.slice (some ⟨q, 0, none⟩) F.length qc)).alloc (.cells #[.bool x.leaf, .slice hh.A hh.n hh.c, .slice hh.B hh.m hh.d, .slice hh.K hh.k hh.e, .int .i64 x.next] 43) ∧
      Own3 W E r P T (some ⟨q, 0, none⟩) pc tc qc L.length xs (L.map isV) (F.map natV) L.length F.length ∧ W.heap.size = w.heap.size + 1 ∧ W.heap[w.heap.size]? = some (.cells #[.bool x.leaf, .slice hh.A hh.n hh.c, .slice hh.B hh.m hh.d, .slice hh.K hh.k hh.e, .int .i64 x.next] 43 (0, 0)) := by
    have hz : (w.setCell ⟨r, 2, none⟩ (.slice (some ⟨q, 0, none⟩) F.length qc)).heap.size = w.heap.size := by simp [World.setCell]
    refine ⟨_, rfl, hcut.keep (agree_alloc _ _), alloc_size hz _, ?_⟩
    have := heap_alloc_new (w.setCell ⟨r, 2, none⟩ (.slice (some ⟨q, 0, none⟩) F.length qc)) (.cells #[.bool x.leaf, .slice hh.A hh.n hh.c, .slice hh.B hh.m hh.d, .slice hh.K hh.k hh.e, .int .i64 x.next] 43)
    rw [hz] at this
    exact this
  obtain ⟨p, u0, u1, u2, u3, u4, rfl, hEp, hpr, g0, g1, g2, g3, g4, fz⟩ := own_five hWo hk
  obtain ⟨t, ut, rfl, hEt, htr, htp, gt', ft⟩ := own_bit hWo hk
  have htp := htp p rfl
  have hpl := h.1.lt p hEp
  have htl := h.1.lt t hEt
  have hE := h.1.er
  have K1 := Lib.hid (And.intro g0 (And.intro g1 (And.intro g2 (And.intro g3 (And.intro g4 (And.intro gt' (And.intro fz ft)))))))
  have K2 := Lib.hid (three_cells hWo.hr)
  have K3 := Lib.hid (five hWh)
  have HO := Lib.hid hWo
  have HW := Lib.hid hW
  have HS := Lib.hid hWs
  have H := Lib.hid h
  have HR := Lib.hid hr
  generalize hn : L.length = n at c0 c1 hN hk K2
  generalize hm : F.length = m at c2 hM cq hqc HW K2
  have HNL := Lib.hid (And.intro hn hm)
  have hm0 : (0 : Int) < (m : Int) + 1 := by omega
  have hmq : m ≤ qc := by omega
  have z1 : ¬ (r = p) := fun e => hpr e.symm
  have z2 : ¬ (r = t) := fun e => htr e.symm
  have z3 : ¬ (p = t) := fun e => htp e.symm
  clear h hr fz ft hn hm hcut hfs hW hWo hWs hWh g0 g1 g2 g3 g4 gt'
  go_enter Try.func11, Try.ntmps11
  go_wp2
  rw [← HW.out]
  clear c0 c1 c2 f0 f1 f2 cq
  obtain ⟨g0, g1, g2, g3, g4, gt', fz, ft⟩ := K1.out
  obtain ⟨c0, c1, c2, f0, f1, f2⟩ := K2.out
  simp only [RowD.v] at c0 c1 c2
  obtain ⟨b0, b1, b2, b3, b4, -⟩ := K3.out
  have y0 := fz (k * 5)
  have y1 := fz (k * 5 + 1)
  have y2 := fz (k * 5 + 2)
  have y3 := fz (k * 5 + 3)
  have y4 := fz (k * 5 + 4)
  have yt := ft k
  have z4 : ¬ (p = w.heap.size) := by omega
  have z5 : ¬ (w.heap.size = p) := by omega
  have hp' : ¬ (t = p) := htp
  clear fz ft
  go_region_held3 (fun w' => w'.cell? ⟨r, 0, none⟩ = some (.slice (some ⟨p, 0, none⟩) n pc) ∧ w'.cell? ⟨w.heap.size, 0, none⟩ = some (.bool x.leaf) ∧ w'.cell? ⟨w.heap.size, 1, none⟩ = some (.slice hh.A hh.n hh.c) ∧ w'.cell? ⟨w.heap.size, 2, none⟩ = some (.slice hh.B hh.m hh.d) ∧ w'.cell? ⟨w.heap.size, 3, none⟩ = some (.slice hh.K hh.k hh.e) ∧ w'.cell? ⟨w.heap.size, 4, none⟩ = some (.int .i64 x.next)) (go_keep) (fail)
  go_wp2
  go_ret
  refine ⟨rfl, ?_⟩
  have hkl : k < L.length := by rw [HNL.out.1]; exact hk
  have ho5 := ((HO.out.five5 (k * 5) (.bool x.leaf) (.slice hh.A hh.n hh.c) (.slice hh.B hh.m hh.d) (.slice hh.K hh.k hh.e) (.int .i64 x.next)).store (i := 1) rfl rfl k (.bool true)).keep (agree_drew _)
  have h1 : Only E w W := by rw [HW.out]; exact ((Only.refl E w).set _ _ (.inr hE)).alloc _
  have h2 := ((five_only h1 (.inr hEp) (k * 5) (.bool x.leaf) (.slice hh.A hh.n hh.c) (.slice hh.B hh.m hh.d) (.slice hh.K hh.k hh.e) (.int .i64 x.next)).set ⟨t, k, none⟩ (.bool true) (.inr hEt)).drew
  have h3 := H.out.2.set hkl (by exact (H.out.1.row 0 _ rfl).1) HR.out
  simp only [List.set_cons_succ, List.set_cons_zero, is_set (o := some x) true rfl] at ho5
  generalize ((((((W.setCell ⟨p, k * 5, none⟩ (.bool x.leaf)).setCell ⟨p, k * 5 + 1, none⟩ (.slice hh.A hh.n hh.c)).setCell ⟨p, k * 5 + 2, none⟩ (.slice hh.B hh.m hh.d)).setCell ⟨p, k * 5 + 3, none⟩ (.slice hh.K hh.k hh.e)).setCell ⟨p, k * 5 + 4, none⟩ (.int .i64 x.next)).setCell ⟨t, k, none⟩ (.bool true)).drew = W5 at ho5 h2 ⊢
  generalize hys : (((((xs.set (k * 5) (Value.bool x.leaf)).set (k * 5 + 1) (.slice hh.A hh.n hh.c)).set (k * 5 + 2) (.slice hh.B hh.m hh.d)).set (k * 5 + 3) (.slice hh.K hh.k hh.e)).set (k * 5 + 4) (.int .i64 x.next)) = ys at ho5 h3
  refine ⟨E, some ⟨p, 0, none⟩, some ⟨t, 0, none⟩, some ⟨q, 0, none⟩, pc, tc, qc, ys, ⟨?_, h3⟩, fun b hb => .inl hb, h2⟩
  rw [List.length_set]
  exact ho5
end Go.Proofs.Ytbphjhmmdkaggaa
