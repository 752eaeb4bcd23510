/- The document's own arena: the contract of its Make where no number is free; Make whatever is free. Condition: at most 10000 numbers. -/
import Derived.Test.YtbphjhmmdkaggaaNs
namespace Go.Proofs.Ytbphjhmmdkaggaa
open Go.RowKit
set_option linter.unusedVariables false

theorem Try.infoRNode : (Try.prog.info? 43).map (fun i => (i.zero, i.size, i.bytes)) = some (some (.agg #[.bool false, .slice none 0 0, .slice none 0 0, .slice none 0 0, .int .i64 0]), 5, 88) := by kernel_rfl
theorem Try.infoBool : (Try.prog.info? 4).map (fun i => (i.zero, i.size, i.bytes)) = some (some (.bool false), 1, 1) := by kernel_rfl

theorem five_new {w : World} {x0 x1 x2 x3 x4 : Value} {T : TypeId} {N : Nat} (h : w.heap.size = N) : ∀ j u, [x0, x1, x2, x3, x4][j]? = some u → (w.alloc (.cells #[x0, x1, x2, x3, x4] T)).cell? ((⟨N, 0, none⟩ : Addr).add j) = some u := by
  subst h
  intro j u hu
  rcases j with _ | _ | _ | _ | _ | j
  all_goals first | (simp at hu; done) | (simp at hu; subst hu; simp [Addr.add])
theorem five_one (x : Nd) (h : Nh) : ∀ u ∈ [Value.bool x.leaf, .slice h.A h.n h.c, .slice h.B h.m h.d, .slice h.K h.k h.e, .int .i64 x.next], u.oneCell' = true := by
  intro u hu
  simp at hu
  rcases hu with rfl | rfl | rfl | rfl | rfl <;> rfl

theorem undrewg {w w' : World} {row : Option Nat} (h : w.drew.grownBy w' row) : w.grownBy w' row := ⟨h.os, h.tape, h.output, h.size, h.block⟩

set_option maxRecDepth 100000 in
set_option maxHeartbeats 4000000 in
theorem rmake_new {w0 w : World} {E : Nat → Prop} {r : Nat} {L : List (Option Nd)} {P T Q : Option Addr} {pc tc qc : Nat} {xs : List Value} (h : Ref w0 w E r L [] P T Q pc tc qc xs) (hN : L.length ≤ 10000) {hh : Nh} {x : Nd} (hr : NdR w0 hh x) :
    Calls Try.prog 11 #[.pointer (some ⟨r, 0, none⟩), ndV hh x] w fun e w' => e = .returned (.int .i64 L.length) ∧ RTurn w0 w E r (L ++ [some x]) [] w' := by
  have hrl := h.1.lt r h.1.er
  obtain ⟨W, hW, hWo, hWs, hWh⟩ : ∃ W, W = w.alloc (.cells #[.bool x.leaf, .slice hh.A hh.n hh.c, .slice hh.B hh.m hh.d, .slice hh.K hh.k hh.e, .int .i64 x.next] 43) ∧
      Own3 W E r P T Q pc tc qc L.length xs (L.map isV) (List.map natV []) L.length 0 ∧ W.heap.size = w.heap.size + 1 ∧ W.heap[w.heap.size]? = some (.cells #[.bool x.leaf, .slice hh.A hh.n hh.c, .slice hh.B hh.m hh.d, .slice hh.K hh.k hh.e, .int .i64 x.next] 43 (0, 0)) :=
    ⟨_, rfl, h.1.keep (agree_alloc _ _), alloc_size rfl _, heap_alloc_new w _⟩
  obtain ⟨c0, c1, c2, f0, f1, f2⟩ := three_cells hWo.hr
  simp only [RowD.v] at c0 c1 c2
  obtain ⟨b0, b1, b2, b3, b4, -⟩ := five hWh
  have hPr : ∀ k, (Value.slice P L.length pc).ownBlock = some k → k ≠ r := fun k e => by
    cases P with
    | none => cases e
    | some a => injection e with e; subst e; exact (h.1.el 0 _ rfl a rfl).2
  have hTr : ∀ k, (Value.slice T L.length tc).ownBlock = some k → k ≠ r := fun k e => by
    cases T with
    | none => cases e
    | some a => injection e with e; subst e; exact (h.1.el 1 _ rfl a rfl).2
  have HPR := Lib.hid (And.intro hPr hTr)
  have hE := h.1.er
  have HO := Lib.hid hWo
  have HW := Lib.hid hW
  have HS := Lib.hid hWs
  have H := Lib.hid h
  have HR := Lib.hid hr
  obtain ⟨i0, hi, hz0, hz1, hz2⟩ := info_parts Try.infoRNode
  have HI := Lib.hid hi
  have HZ := Lib.hid (And.intro hz0 (And.intro hz1 hz2))
  obtain ⟨i1, hi1, hy0, hy1, hy2⟩ := info_parts Try.infoBool
  have HI1 := Lib.hid hi1
  have HY := Lib.hid (And.intro hy0 (And.intro hy1 hy2))
  have OP := Lib.hid (hWo.row 0 _ rfl)
  have ONE := Lib.hid (five_one x hh)
  clear h hr hi hz0 hz1 hz2 hi1 hy0 hy1 hy2 hPr hTr hWo hWh
  have hrW : r < W.heap.size := by omega
  go_enter Try.func11, Try.ntmps11
  rw [hW] at c0 c1 c2 f0 f1 f2 b0 b1 b2 b3 b4
  clear hW hWs hrW
  go_wp2
  rw [← HW.out] at c0 c1 c2 f0 f1 f2 b0 b1 b2 b3 b4 ⊢
  have hrW : r < W.heap.size := by have := HS.out; omega
  have z1 : ¬ (r = W.heap.size) := by omega
  have hWz := HS.out
  have hwW : w.heap.size < W.heap.size := by omega
  clear hWz
  go_region_law (first
    | ((refine step_append_lies _ (by rfl) _ _ 27 (by rfl) 0 43 i0 (.agg #[.bool false, .slice none 0 0, .slice none 0 0, .slice none 0 0, .int .i64 0]) 5 88 Try.underlying27 HI.out HZ.out.1 HZ.out.2.1 HZ.out.2.2 (by rfl) (by decide) (.slice P L.length pc) L.length xs (by rfl) (OP.out.alloc _) ⟨W.heap.size, 0, none⟩ 1 1 [.bool x.leaf, .slice hh.A hh.n hh.c, .slice hh.B hh.m hh.d, .slice hh.K hh.k hh.e, .int .i64 x.next] (by rfl) (by rfl) (five_new rfl) ONE.out (by omega) (by unfold maxLen; omega) (by omega) (Nat.zero_le _) (W.heap.size + 1) (by first | exact alloc_size rfl _ | simp) ?_
        intro p' cap w4 hown4 hgrow4 hat4 hlt4
        have hgrow4 := undrewg hgrow4
        have hgl4 := hgrow4.size
        have f0 := ((hgrow4.frozen_far ⟨r, 0, none⟩ (by rw [alloc_size rfl]; exact Nat.lt_succ_of_lt hrW) (fun e => HPR.out.1 r e.symm rfl)).trans (((Below.refl W.heap.size W).alloc (Nat.le_refl _) (.cells #[.bool x.leaf, .slice hh.A hh.n hh.c, .slice hh.B hh.m hh.d, .slice hh.K hh.k hh.e, .int .i64 x.next] 43)).frozen (p := ⟨r, 0, none⟩) hrW)).trans f0
        have c0 := ((hgrow4.cell_far ⟨r, 0, none⟩ (by rw [alloc_size rfl]; exact Nat.lt_succ_of_lt hrW) (fun e => HPR.out.1 r e.symm rfl)).trans (((Below.refl W.heap.size W).alloc (Nat.le_refl _) (.cells #[.bool x.leaf, .slice hh.A hh.n hh.c, .slice hh.B hh.m hh.d, .slice hh.K hh.k hh.e, .int .i64 x.next] 43)).cell (p := ⟨r, 0, none⟩) hrW)).trans c0
        have HG4 := Lib.hid (And.intro hown4 (And.intro hgrow4 (And.intro hat4 hlt4)))
        clear hown4 hgrow4 hat4 hlt4)))
  all_goals
    have hpush := HO.out.push (i := 0) (w2 := W.alloc (.cells #[.bool x.leaf, .slice hh.A hh.n hh.c, .slice hh.B hh.m hh.d, .slice hh.K hh.k hh.e, .int .i64 x.next] 43)) (w3 := w4) (p' := p') (c' := cap) (n' := L.length + 1) (xs' := xs ++ [.bool x.leaf, .slice hh.A hh.n hh.c, .slice hh.B hh.m hh.d, .slice hh.K hh.k hh.e, .int .i64 x.next]) rfl ((Below.refl _ _).alloc (Nat.le_refl _) _) HG4.out.1 HG4.out.2.1 (HG4.out.2.2.1.imp id (fun e => by rw [e]; exact Nat.le_succ _)) HG4.out.2.2.2
    simp only [List.set_cons_zero] at hpush
    obtain ⟨W5, hW5⟩ : ∃ W5, W5 = w4.setCell ⟨r, 0, none⟩ (.slice (some ⟨p', 0, none⟩) (L.length + 1) cap) := ⟨_, rfl⟩
    rw [← hW5] at hpush ⊢
    obtain ⟨ho5, on5⟩ := hpush
    obtain ⟨d0, d1, d2, e0, e1, e2⟩ := three_cells ho5.hr
    simp only [RowD.v] at d0 d1 d2
    have HO5 := Lib.hid ho5
    have HN5 := Lib.hid on5
    have OT := Lib.hid ((ho5.row 1 _ rfl).alloc (.cells #[.bool true] 4))
    have hrW5 : r < W5.heap.size := Nat.lt_of_lt_of_le hrW on5.size
    clear c0 c1 c2 f0 f1 f2 b0 b1 b2 b3 b4 HG4 ho5 on5 hW5 z1
    go_wp2_with (at_builtin; refine wpList_append_lies _ rfl _ _ 28 rfl 0 4 i1 (.bool false) 1 1 Try.underlying28 HI1.out HY.out.1 HY.out.2.1 HY.out.2.2 rfl (by decide) (.slice T L.length tc) L.length (L.map isV) rfl OT.out ⟨W5.heap.size, 0, none⟩ 1 1 [.bool true] rfl rfl (one_cell_at rfl) (fun u hu => by simp at hu; subst hu; rfl) (by omega) (by unfold maxLen; omega) (by omega) (Nat.zero_le _) (W5.heap.size + 1) (alloc_size rfl _) ?_)
    intro t' capt w6 hown6 hgrow6 hat6 hlt6
    have hgl6 := hgrow6.size
    have far6 := fun (o : Nat) => (hgrow6.cell_far ⟨r, o, none⟩ (by rw [alloc_size rfl]; exact Nat.lt_succ_of_lt hrW5) (fun e => HPR.out.2 r e.symm rfl)).trans (((Below.refl W5.heap.size W5).alloc (Nat.le_refl _) (.cells #[.bool true] 4)).cell (p := ⟨r, o, none⟩) hrW5)
    have e1 := ((hgrow6.frozen_far ⟨r, 1, none⟩ (by rw [alloc_size rfl]; exact Nat.lt_succ_of_lt hrW5) (fun e => HPR.out.2 r e.symm rfl)).trans (((Below.refl W5.heap.size W5).alloc (Nat.le_refl _) (.cells #[.bool true] 4)).frozen (p := ⟨r, 1, none⟩) hrW5)).trans e1
    have d0 := (far6 0).trans d0
    have d1 := (far6 1).trans d1
    have hpush6 := HO5.out.push (i := 1) (w2 := W5.alloc (.cells #[.bool true] 4)) (w3 := w6) (p' := t') (c' := capt) (n' := L.length + 1) (xs' := L.map isV ++ [.bool true]) rfl ((Below.refl _ _).alloc (Nat.le_refl _) _) hown6 hgrow6 (hat6.imp id (fun e => by rw [e]; exact Nat.le_succ _)) hlt6
    simp only [List.set_cons_zero, List.set_cons_succ] at hpush6
    have HP6 := Lib.hid hpush6
    clear far6 hown6 hgrow6 hat6 hlt6 hpush6 d2 e0 e2
    go_wp2
    go_ret
    refine ⟨rfl, ?_⟩
    obtain ⟨ho6, on6⟩ := HP6.out
    have hl : xs.length = L.length * 5 := (H.out.1.row 0 _ rfl).1
    have h3 := H.out.2.push hl HR.out
    have honly : Only E w (w6.setCell ⟨r, 1, none⟩ (.slice (some ⟨t', 0, none⟩) (L.length + 1) capt)) := by
      have h1 : Only E w W := by rw [HW.out]; exact (Only.refl E w).alloc _
      exact (h1.trans HN5.out).trans2 on6 (fun b hb => hb.imp id (fun h => by have := HS.out; omega))
    generalize w6.setCell ⟨r, 1, none⟩ (.slice (some ⟨t', 0, none⟩) (L.length + 1) capt) = W6 at ho6 honly ⊢
    refine ⟨grow (grow E W W5) W5 W6, some ⟨p', 0, none⟩, some ⟨t', 0, none⟩, Q, cap, capt, qc, _, ⟨?_, h3⟩, fun b hb => ?_, honly⟩
    · have e1 : (L ++ [some x]).length = L.length + 1 := by simp
      have e2 : (L ++ [some x]).map isV = L.map isV ++ [.bool true] := by simp [isV]
      rw [e1, e2]
      exact ho6
    · have hz := HS.out
      have hz5 := HN5.out.size
      rcases hb with (hb | hb) | hb
      · exact .inl hb
      · exact .inr (by omega)
      · exact .inr (by omega)
end Go.Proofs.Ytbphjhmmdkaggaa
