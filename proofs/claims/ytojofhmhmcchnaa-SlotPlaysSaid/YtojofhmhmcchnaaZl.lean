/- Contracts of package slot's New, of the document's own Same and Asked (where both read the same: true), and of the law's small, pick. No condition. -/
import Derived.Test.YtojofhmhmcchnaaZk
namespace Go.Proofs.Ytojofhmhmcchnaa
open Go.RowKit
set_option linter.unusedVariables false
set_option maxRecDepth 100000

theorem Try.infoPub : (Try.prog.info? 73).map (fun i => (i.zero, i.size, i.bytes)) = some (some (.agg zs14), 14, 208) := by kernel_rfl
theorem Try.infoSlot : (Try.prog.info? 51).map (fun i => (i.zero, i.size, i.bytes)) = some (some (.agg zs14), 14, 208) := by kernel_rfl
theorem make_slots {t e : TypeId} (ht : Try.prog.underlying t = some (.slice e)) (hinfo : (Try.prog.info? e).map (fun i => (i.zero, i.size, i.bytes)) = some (some (.agg zs14), 14, 208)) (w : World) (n : Nat) (hn : n ≤ 32) :
    (Instr.makeSlice t (.int .i64 (n : Int)) (.int .i64 (n : Int))).run Try.prog w = .ok (.slice (some ⟨w.heap.size, 0, none⟩) n n) (w.alloc (.cells (madeCells zs14 (n * 14)) e)) := by
  obtain ⟨i, hi, hzz⟩ := Option.map_eq_some_iff.1 hinfo
  simp only [Prod.mk.injEq] at hzz
  obtain ⟨hz, hs, hb⟩ := hzz
  have hr := run_make (P := Try.prog) w t e i _ ht hi hz .i64 .i64 n n (by omega) (Int.le_refl _) (by rw [hb]; omega) (by omega)
  simp only [Int.toNat_natCast, hs] at hr
  exact hr

/-- New slots as an object. -/
theorem slO_new (C : Nat → Prop) (w : World) (n : Nat) (hn : n ≤ 32) : SlO C ((w.alloc (.cells (madeCells zs14 (n * 14)) 73)).alloc (.cells #[.slice (some ⟨w.heap.size, 0, none⟩) n n] 68)) (w.heap.size + 1) w.heap.size n (List.replicate n sl0) := by
  refine ⟨?_, by omega, hn, (slM_new C w _ n).below ((Below.refl _ _).alloc (Nat.le_refl _) _)⟩
  rw [show w.heap.size + 1 = (w.alloc (.cells (madeCells zs14 (n * 14)) 73)).heap.size by simp]
  exact Deep.blk_alloc_new _ _

set_option maxHeartbeats 2000000 in
theorem new_yes (C : Nat → Prop) (w : World) {n : Nat} (h1 : 1 ≤ n) (hn : n ≤ 32) :
    Calls Try.prog 6 #[.int .i64 n] w fun e w' => e = .returned (.tuple #[.pointer (some ⟨w.heap.size + 1, 0, none⟩), .nilIface]) ∧ SlO C w' (w.heap.size + 1) w.heap.size n (List.replicate n sl0) ∧ Below w.heap.size w w' := by
  have hmk := make_slots Try.underlying66 Try.infoPub
  have HS := Lib.hid (slO_new C w n hn)
  have HB := Lib.hid (((Below.refl w.heap.size w).alloc (Nat.le_refl _) (.cells (madeCells zs14 (n * 14)) 73)).alloc (by simp) (.cells #[.slice (some ⟨w.heap.size, 0, none⟩) n n] 68))
  have hn1 : ¬ ((n : Int) < 1) := by omega
  have hn2 : ¬ ((32 : Int) < (n : Int)) := by omega
  go_enter Try.func6, Try.ntmps6
  go_wp2
  go_ret2
  exact ⟨rfl, HS.out, HB.out⟩
set_option maxHeartbeats 2000000 in
theorem new_no (w : World) {i : Int} (h : i < 1 ∨ 32 < i) : Calls Try.prog 6 #[.int .i64 i] w fun e w' => e = .returned (.tuple #[.pointer none, .iface 29 (.int .i64 1)]) ∧ w = w' := by
  rcases h with h | h
  · go_enter Try.func6, Try.ntmps6
    go_wp2
    go_ret2
    exact ⟨rfl, rfl⟩
  · have h1 : ¬ (i < 1) := by omega
    go_enter Try.func6, Try.ntmps6
    go_wp2
    go_ret2
    exact ⟨rfl, rfl⟩

theorem box_aa (w : World) (h h' : Sh) (a a' : An) : ∃ V, V = (w.alloc (.cells #[.int .i64 a.code, .bool a.found, .slice h.A h.n h.c, .slice h.B h.m h.d, .int .u64 a.stamp] 37)).alloc (.cells #[.int .i64 a'.code, .bool a'.found, .slice h'.A h'.n h'.c, .slice h'.B h'.m h'.d, .int .u64 a'.stamp] 37) ∧
    Below w.heap.size w V ∧ BoxA V w.heap.size h a ∧ BoxA V (w.heap.size + 1) h' a' := by
  obtain ⟨W, hW, hWB, hWS, hWs⟩ := box_a w h a
  obtain ⟨V, hV, hVB, hVS, hVs⟩ := box_a W h' a'
  subst hW
  rw [hWs] at hVS
  exact ⟨V, hV, hWB.trans (hVB.mono (by omega)), hWS.below hVB (by omega), hVS⟩

set_option maxHeartbeats 4000000 in
theorem samea_any {w : World} {h h' : Sh} {a : An} (hr : AnR w h a) (hr' : AnR w h' a) :
    Calls Try.prog 18 #[.agg #[.int .i64 a.code, .bool a.found, .slice h.A h.n h.c, .slice h.B h.m h.d, .int .u64 a.stamp], .agg #[.int .i64 a.code, .bool a.found, .slice h'.A h'.n h'.c, .slice h'.B h'.m h'.d, .int .u64 a.stamp]] w fun e w' => e = .returned (.bool true) ∧ Below w.heap.size w w' := by
  obtain ⟨V, hV, hVB, hV1, hV2⟩ := box_aa w h h' a a
  have HPR := Lib.hid (pairs_same (hr.2.below hVB) (hr'.2.below hVB))
  have HR := Lib.hid (hr.1.below hVB)
  have HR' := Lib.hid (hr'.1.below hVB)
  have HB := Lib.hid hVB
  have H1 := Lib.hid hV1
  have H2 := Lib.hid hV2
  have hVe := Lib.hid hV
  have hl1 := hV1.lt
  have hl2 := hV2.lt
  obtain ⟨x0, x1, x2, x3, x4⟩ := hV1.cells
  obtain ⟨y0, y1, y2, y3, y4⟩ := hV2.cells
  clear hr hr' hV hVB hV1 hV2
  go_enter Try.func18, Try.ntmps18
  go_wp2_with fail
  rw [← hVe.out]
  refine HPR.out.mono ?_
  rintro e w1 ⟨rfl, hd⟩
  have hb := hd.bel V.heap.size
  have HB1 := Lib.hid (HB.out.trans (hb.mono HB.out.size))
  have H11 := Lib.hid (H1.out.below hb hl1)
  have H21 := Lib.hid (H2.out.below hb hl2)
  have r1 := run_str (c := h.c) (hd.byt HR.out)
  have r2 := run_str (c := h'.c) (hd.byt HR'.out)
  clear x0 x1 x2 x3 x4 y0 y1 y2 y3 y4 hd hb HPR hVe hl1 hl2
  obtain ⟨x0, x1, x2, x3, x4⟩ := H11.out.cells
  obtain ⟨y0, y1, y2, y3, y4⟩ := H21.out.cells
  have e1 : (a.code == a.code) = true := by simp
  have e2 : (a.found == a.found) = true := by simp
  go_wp2
  go_ret
  exact ⟨rfl, HB1.out⟩

theorem box_qr (w : World) (h h' : Qh) (r r' : Rq) : ∃ V, V = (w.alloc (.cells #[.int .i64 r.cl, .int .i64 r.sq, .int .i64 r.kind, .slice h.A h.n h.c, .slice h.B h.m h.d, .slice h.C h.o h.p, .slice h.D h.q h.s, .int .i64 r.limit] 33)).alloc (.cells #[.int .i64 r'.cl, .int .i64 r'.sq, .int .i64 r'.kind, .slice h'.A h'.n h'.c, .slice h'.B h'.m h'.d, .slice h'.C h'.o h'.p, .slice h'.D h'.q h'.s, .int .i64 r'.limit] 33) ∧
    Below w.heap.size w V ∧ BoxQ V w.heap.size h r ∧ BoxQ V (w.heap.size + 1) h' r' := by
  obtain ⟨W, hW, hWB, hWS, hWs⟩ := box_q w h r
  obtain ⟨V, hV, hVB, hVS, hVs⟩ := box_q W h' r'
  subst hW
  rw [hWs] at hVS
  exact ⟨V, hV, hWB.trans (hVB.mono (by omega)), hWS.below hVB (by omega), hVS⟩

set_option maxHeartbeats 4000000 in
theorem asked_any {w : World} {h h' : Qh} {r : Rq} (hr : RqR w h r) (hr' : RqR w h' r) :
    Calls Try.prog 23 #[.agg #[.int .i64 r.cl, .int .i64 r.sq, .int .i64 r.kind, .slice h.A h.n h.c, .slice h.B h.m h.d, .slice h.C h.o h.p, .slice h.D h.q h.s, .int .i64 r.limit], .agg #[.int .i64 r.cl, .int .i64 r.sq, .int .i64 r.kind, .slice h'.A h'.n h'.c, .slice h'.B h'.m h'.d, .slice h'.C h'.o h'.p, .slice h'.D h'.q h'.s, .int .i64 r.limit]] w fun e w' => e = .returned (.bool true) ∧ Below w.heap.size w w' := by
  obtain ⟨V, hV, hVB, hV1, hV2⟩ := box_qr w h h' r r
  have HB := Lib.hid hVB
  have hVe := Lib.hid hV
  have r1 := run_str (c := h.c) (hr.1.below hVB)
  have r2 := run_str (c := h'.c) (hr'.1.below hVB)
  have r3 := run_str (c := h.d) (hr.2.1.below hVB)
  have r4 := run_str (c := h'.d) (hr'.2.1.below hVB)
  have r5 := run_str (c := h.p) (hr.2.2.1.below hVB)
  have r6 := run_str (c := h'.p) (hr'.2.2.1.below hVB)
  have r7 := run_str (c := h.s) (hr.2.2.2.below hVB)
  have r8 := run_str (c := h'.s) (hr'.2.2.2.below hVB)
  obtain ⟨x0, x1, x2, x3, x4, x5, x6, x7⟩ := hV1.cells
  obtain ⟨y0, y1, y2, y3, y4, y5, y6, y7⟩ := hV2.cells
  have e1 : (r.cl == r.cl) = true := by simp
  have e2 : (r.sq == r.sq) = true := by simp
  have e3 : (r.kind == r.kind) = true := by simp
  have e4 : (r.limit == r.limit) = true := by simp
  clear hr hr' hV hVB hV1 hV2
  go_enter Try.func23, Try.ntmps23
  go_upto_region 1 with fail
  rw [← hVe.out]
  go_wp2
  go_ret
  exact ⟨rfl, HB.out⟩

/-- The law's own. -/
def smallA (a : An) : Bool := fewB a.rows 20 && decide (a.val.length ≤ 100)
theorem smallA_sm {a : An} (h : smallA a = true) : SmA a := by
  unfold smallA at h
  simp only [Bool.and_eq_true, decide_eq_true_eq] at h
  have := few_small h.1
  exact ⟨by omega, by omega, this.1⟩
set_option maxHeartbeats 4000000 in
theorem lsmall_any {w : World} {h : Sh} {a : An} (hr : AnR w h a) :
    Calls Try.prog 8 #[.agg #[.int .i64 a.code, .bool a.found, .slice h.A h.n h.c, .slice h.B h.m h.d, .int .u64 a.stamp]] w fun e w' => e = .returned (.bool (smallA a)) ∧ Below w.heap.size w w' := by
  obtain ⟨V, hV, hVB, hV1, hVs⟩ := box_a w h a
  have HF := Lib.hid (few_any 20 (hr.2.below hVB))
  have HB := Lib.hid hVB
  have hVe := Lib.hid hV
  have hlv : a.val.length = h.n := hr.1.1
  have HS := Lib.hid (show smallA a = (fewB a.rows 20 && decide (h.n ≤ 100)) by unfold smallA; rw [hlv])
  obtain ⟨x0, x1, x2, x3, x4⟩ := hV1.cells
  clear hr hV hVB hV1 hVs hlv
  cases hf : fewB a.rows 20
  · rw [hf] at HF HS
    clear hf
    go_enter Try.func8, Try.ntmps8
    go_wp2_with fail
    rw [← hVe.out]
    refine HF.out.mono ?_
    rintro e w1 ⟨rfl, rfl⟩
    go_wp2
    go_ret
    exact ⟨ret_bool (by rw [HS.out]; rfl), HB.out⟩
  · rw [hf] at HF HS
    clear hf
    by_cases hn : h.n ≤ 100
    all_goals
      go_enter Try.func8, Try.ntmps8
      go_wp2_with fail
      rw [← hVe.out]
      refine HF.out.mono ?_
      rintro e w1 ⟨rfl, rfl⟩
      go_wp2
      go_ret
      exact ⟨ret_bool (by rw [HS.out, Bool.eq_iff_iff]; first | (simp; done) | (simp; omega)), HB.out⟩
end Go.Proofs.Ytojofhmhmcchnaa
