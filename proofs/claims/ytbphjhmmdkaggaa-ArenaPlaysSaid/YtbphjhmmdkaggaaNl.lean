/- The contract of the arena's Make: the walk. Condition: at most 10000 numbers; no list of a node longer than 1000. -/
import Derived.Test.YtbphjhmmdkaggaaNk
import Derived.Deep.RegionLaw
namespace Go.Proofs.Ytbphjhmmdkaggaa
open Go.RowKit
set_option linter.unusedVariables false

def MakeOut (w : World) (D : Nat → Prop) (g : Nat) (L : List (Option Nd)) (F : List Nat) (k : Nat) (e : Ending) (w' : World) : Prop := e = .returned (.int .i64 k) ∧ Turn w D g L F w'

theorem Try.infoPlace : (Try.prog.info? 63).map (fun i => (i.zero, i.size, i.bytes)) = some (some (.agg #[.bool false, .slice none 0 0, .slice none 0 0, .slice none 0 0, .int .i64 0, .bool false]), 6, 96) := by kernel_rfl

theorem six_cells {w : World} {x0 x1 x2 x3 x4 x5 : Value} {T : TypeId} {N : Nat} (h : w.heap.size = N) : ∀ j u, [x0, x1, x2, x3, x4, x5][j]? = some u → (w.alloc (.cells #[x0, x1, x2, x3, x4, x5] T)).cell? ((⟨N, 0, none⟩ : Addr).add j) = some u := by
  subst h
  intro j u hu
  rcases j with _ | _ | _ | _ | _ | _ | j
  all_goals first | (simp at hu; done) | (simp at hu; subst hu; simp [Addr.add])

theorem six_one (x : Nd) (h : Nh) : ∀ u ∈ [Value.bool x.leaf, .slice h.A h.n h.c, .slice h.B h.m h.d, .slice h.K h.k h.e, .int .i64 x.next, .bool true], u.oneCell' = true := by
  intro u hu
  simp at hu
  rcases hu with rfl | rfl | rfl | rfl | rfl | rfl <;> rfl

set_option maxRecDepth 100000 in
set_option maxHeartbeats 4000000 in
theorem make_new {w : World} {D : Nat → Prop} {g : Nat} {L : List (Option Nd)} (h : Ar w D g L []) (hN : L.length ≤ 10000) {hh : Nh} {x : Nd} (hr : NdR w hh x) (hs : SmallN x) :
    Calls Try.prog 10 #[.pointer (some ⟨g, 0, none⟩), ndV hh x] w (MakeOut w D g (L ++ [some x]) [] L.length) := by
  obtain ⟨C, P, Q, pc, qc, xs, h⟩ := h
  have hgl : g < w.heap.size := h.2.2.2.2.2.lt g h.2.2.2.2.2.dg
  have h' := h.keep (agree_alloc w (.cells #[.bool x.leaf, .slice hh.A hh.n hh.c, .slice hh.B hh.m hh.d, .slice hh.K hh.k hh.e, .int .i64 x.next] 35))
  have hr' := hr.alloc (.cells #[.bool x.leaf, .slice hh.A hh.n hh.c, .slice hh.B hh.m hh.d, .slice hh.K hh.k hh.e, .int .i64 x.next] 35)
  obtain ⟨c0, c1, f0, f1⟩ := pair_cells h'.1
  have HW := Lib.hid (show ∃ W, W = w.alloc (.cells #[.bool x.leaf, .slice hh.A hh.n hh.c, .slice hh.B hh.m hh.d, .slice hh.K hh.k hh.e, .int .i64 x.next] 35) ∧ Below w.heap.size w W ∧ NdR W hh x ∧ W.heap.size = w.heap.size + 1 ∧ W.heap[w.heap.size]? = some (.cells #[.bool x.leaf, .slice hh.A hh.n hh.c, .slice hh.B hh.m hh.d, .slice hh.K hh.k hh.e, .int .i64 x.next] 35 (0, 0)) from
    ⟨_, rfl, (Below.refl _ _).alloc (Nat.le_refl _) _, hr', by simp, heap_alloc_new w _⟩)
  have hPg : some g ≠ (Value.slice P L.length pc).ownBlock := fun e => by
    cases P with
    | none => cases e
    | some a => injection e with e; exact (h.2.2.2.2.2.p a rfl).2.2 e.symm
  have HO := Lib.hid h.2.1
  have H := Lib.hid h
  have HS := Lib.hid hs
  have hPw : some w.heap.size ≠ (Value.slice P L.length pc).ownBlock := fun e => by
    cases P with
    | none => cases e
    | some a => injection e with e; have := h.2.2.2.2.2.lt _ (h.2.2.2.2.2.p a rfl).1; omega
  have HPG := Lib.hid (And.intro hPg hPw)
  obtain ⟨i0, hi, hz0, hz1, hz2⟩ := info_parts Try.infoPlace
  have HI := Lib.hid hi
  have HZ := Lib.hid (And.intro hz0 (And.intro hz1 hz2))
  simp only [List.length_nil] at c1
  generalize hn : L.length = n at c0 hN
  have HNL := Lib.hid hn
  clear h h' hr hr' hs hi hz0 hz1 hz2 hn hPg hPw
  go_enter Try.func10, Try.ntmps10
  go_wp2
  obtain ⟨W, hW, hWB, hWr, hWs, hWh⟩ := HW.out
  rw [← hW] at c0 c1 f0 f1 ⊢
  obtain ⟨b0, b1, b2, b3, b4, -⟩ := five hWh
  have HWB := Lib.hid hWB
  have HWS := Lib.hid hWs
  have D0 := Lib.hid (apart_any (w := W.drew) (show NdR W.drew hh x from hWr) HS.out)
  have K0 := Lib.hid (And.intro c0 f0)
  have KB := Lib.hid (And.intro b0 (And.intro b1 (And.intro b2 (And.intro b3 b4))))
  clear hW HW hWB hWr hWs hWh c1 f0 f1
  have hl1 : w.heap.size < W.heap.size := by have := HWS.out; omega
  have z1 : ¬ (g = w.heap.size) := by omega
  have z2 : ¬ (w.heap.size = g) := by omega
  go_region_law (first
      | (go_simp
         go_at_call 21
         (with_reducible refine D0.out.mono ?_)
         rintro e w3 ⟨h3, rfl, on3, hb3⟩
         have hb3 := undrew hb3
         have hl3 := hb3.size
         have z3 : g < w3.heap.size := by omega
         have c0 := (hb3.cell (p := ⟨g, 0, none⟩) (Nat.lt_trans hgl hl1)).trans K0.out.1
         have f0 := (hb3.frozen (p := ⟨g, 0, none⟩) (Nat.lt_trans hgl hl1)).trans K0.out.2
         have b0 := (hb3.cell (p := ⟨w.heap.size, 0, none⟩) hl1).trans KB.out.1
         have b1 := (hb3.cell (p := ⟨w.heap.size, 1, none⟩) hl1).trans KB.out.2.1
         have b2 := (hb3.cell (p := ⟨w.heap.size, 2, none⟩) hl1).trans KB.out.2.2.1
         have b3 := (hb3.cell (p := ⟨w.heap.size, 3, none⟩) hl1).trans KB.out.2.2.2.1
         have b4 := (hb3.cell (p := ⟨w.heap.size, 4, none⟩) hl1).trans KB.out.2.2.2.2
         have HON := Lib.hid on3
         have HB3 := Lib.hid hb3
         have HO3 := Lib.hid ((own_keep HO.out (HWB.out.trans (hb3.mono HWB.out.size))).alloc (.cells #[.bool x.leaf, .slice h3.A h3.n h3.c, .slice h3.B h3.m h3.d, .slice h3.K h3.k h3.e, .int .i64 x.next, .bool true] 63))
         have ONE := Lib.hid (six_one x h3)
         clear on3 hb3
         go_wp2_with fail)
      | ((refine step_append_lies _ (by rfl) _ _ 56 (by rfl) 0 63 i0 (.agg #[.bool false, .slice none 0 0, .slice none 0 0, .slice none 0 0, .int .i64 0, .bool false]) 6 96 Try.underlying56 HI.out HZ.out.1 HZ.out.2.1 HZ.out.2.2 (by rfl) (by decide) (.slice P L.length pc) L.length xs (by rw [HNL.out]; rfl) HO3.out ⟨w3.heap.size, 0, none⟩ 1 1 [.bool x.leaf, .slice h3.A h3.n h3.c, .slice h3.B h3.m h3.d, .slice h3.K h3.k h3.e, .int .i64 x.next, .bool true] (by rfl) (by rfl) (six_cells rfl) ONE.out (by omega) (by have := HNL.out; unfold maxLen; omega) (by have := HNL.out; omega) (Nat.zero_le _) (w3.heap.size + 1) (by simp) ?_
          intro p' cap w4 hown4 hgrow4 hat4 hlt4
          have far := fun (b o : Nat) (hb : b < w3.heap.size) (hne : some b ≠ (Value.slice P L.length pc).ownBlock) => (hgrow4.cell_far ⟨b, o, none⟩ (by simp; omega) hne).trans (((Below.refl w3.heap.size w3).alloc (Nat.le_refl _) (.cells #[.bool x.leaf, .slice h3.A h3.n h3.c, .slice h3.B h3.m h3.d, .slice h3.K h3.k h3.e, .int .i64 x.next, .bool true] 63)).cell (p := ⟨b, o, none⟩) hb)
          have f0 := ((hgrow4.frozen_far ⟨g, 0, none⟩ (by simp; omega) HPG.out.1).trans (((Below.refl w3.heap.size w3).alloc (Nat.le_refl _) (.cells #[.bool x.leaf, .slice h3.A h3.n h3.c, .slice h3.B h3.m h3.d, .slice h3.K h3.k h3.e, .int .i64 x.next, .bool true] 63)).frozen (p := ⟨g, 0, none⟩) (by show g < w3.heap.size; omega))).trans f0
          have c0 := (far g 0 (by omega) HPG.out.1).trans c0
          have b0 := (far w.heap.size 0 (by omega) HPG.out.2).trans b0
          have b1 := (far w.heap.size 1 (by omega) HPG.out.2).trans b1
          have b2 := (far w.heap.size 2 (by omega) HPG.out.2).trans b2
          have b3 := (far w.heap.size 3 (by omega) HPG.out.2).trans b3
          have b4 := (far w.heap.size 4 (by omega) HPG.out.2).trans b4
          have HG4 := Lib.hid (And.intro hown4 (And.intro hgrow4 (And.intro hat4 hlt4)))
          clear far hown4 hgrow4 hat4 hlt4)))
  all_goals
    have HT := Lib.hid (H.out.new1 (w1 := w3) (w2 := w3.alloc (.cells #[.bool x.leaf, .slice h3.A h3.n h3.c, .slice h3.B h3.m h3.d, .slice h3.K h3.k h3.e, .int .i64 x.next, .bool true] 63)) (w3 := w4) (p' := p') (pc' := cap) (h2 := h3) (x := x) (HWB.out.trans (HB3.out.mono HWB.out.size)) ((Below.refl _ _).alloc (Nat.le_refl _) _) HS.out
      (HON.out.mono (fun b hb => by have hb' : W.heap.size ≤ b := hb; omega)) HG4.out.1 HG4.out.2.1 (HG4.out.2.2.1.imp id (fun e => by rw [e]; exact Nat.le_succ _)) HG4.out.2.2.2)
    have hLb : L.length ≤ 10000 := by rw [HNL.out]; exact hN
    clear HG4 HON HB3 HO3 ONE b0 b1 b2 b3 b4 KB K0 D0 HWB HWS HPG HI HZ H HO HS z1 z2
    go_wp2
    go_ret
    exact ⟨ret_int (by have := HNL.out; omega), HT.out⟩
end Go.Proofs.Ytbphjhmmdkaggaa
