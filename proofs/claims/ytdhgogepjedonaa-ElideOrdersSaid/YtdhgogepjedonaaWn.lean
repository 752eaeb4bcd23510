/- Contracts of the document's own Same and Answers (where both read the same: true); the law's head (the document's example): it returns true. Condition: what came in can be read. -/
import Derived.Test.YtdhgogepjedonaaWm
namespace Go.Proofs.Ytdhgogepjedonaa
open Go.RowKit
set_option linter.unusedVariables false
set_option maxRecDepth 100000

/-- Two answers' boxes. -/
theorem box_two (w : World) (h h' : Sh) (s s' : Rs) : ∃ V, V = (w.alloc (.cells #[.int .i64 s.code, .bool s.found, .slice h.A h.n h.c, .slice h.B h.m h.d, .int .u64 0] 52)).alloc (.cells #[.int .i64 s'.code, .bool s'.found, .slice h'.A h'.n h'.c, .slice h'.B h'.m h'.d, .int .u64 0] 52) ∧
    Below w.heap.size w V ∧ BoxS V w.heap.size h s ∧ BoxS V (w.heap.size + 1) h' s' := by
  obtain ⟨W, hW, hWB, hWS, hWs⟩ := box_s w h s
  obtain ⟨V, hV, hVB, hVS, hVs⟩ := box_s W h' s'
  subst hW
  refine ⟨V, hV, hWB.trans (hVB.mono (by omega)), hWS.below hVB (by omega), ?_⟩
  rw [hWs] at hVS
  exact hVS

set_option maxHeartbeats 4000000 in
theorem same12 {w : World} {h h' : Sh} {s : Rs} (hr : RsR w h s) (hr' : RsR w h' s) :
    Calls Try.prog 29 #[.agg #[.int .i64 s.code, .bool s.found, .slice h.A h.n h.c, .slice h.B h.m h.d, .int .u64 0], .agg #[.int .i64 s.code, .bool s.found, .slice h'.A h'.n h'.c, .slice h'.B h'.m h'.d, .int .u64 0]] w fun e w' => e = .returned (.bool true) ∧ Below w.heap.size w w' := by
  obtain ⟨V, hV, hVB, hV1, hV2⟩ := box_two w h h' s s
  have HPR := Lib.hid (pairs_same (hr.2.below hVB) (hr'.2.below hVB))
  have HR := Lib.hid (hr.1.below hVB)
  have HR' := Lib.hid (hr'.1.below hVB)
  have HB := Lib.hid hVB
  have H1 := Lib.hid hV1
  have H2 := Lib.hid hV2
  have hVe := Lib.hid hV
  have hl1 := hV1.lt
  have hl2 := hV2.lt
  obtain ⟨x0, x1, x2, x3, x4, -, -, -, -, -⟩ := hV1.cells
  obtain ⟨y0, y1, y2, y3, y4, -, -, -, -, -⟩ := hV2.cells
  clear hr hr' hV hVB hV1 hV2
  go_enter Try.func29, Try.ntmps29
  go_wp2_with fail
  rw [← hVe.out]
  refine HPR.out.mono ?_
  rintro e w1 ⟨rfl, hd⟩
  have hb := hd.bel V.heap.size
  have HB1 := Lib.hid (HB.out.trans (hb.mono HB.out.size))
  have H11 := Lib.hid (H1.out.below hb hl1)
  have H21 := Lib.hid (H2.out.below hb hl2)
  have r1 := run_str (c := h.c) (hd.byt HR.out)
  have r2 := run_str (c := h'.c) (hd.byt HR'.out)
  clear x0 x1 x2 x3 x4 y0 y1 y2 y3 y4 hd hb HPR hVe hl1 hl2
  obtain ⟨x0, x1, x2, x3, x4, -, -, -, -, -⟩ := H11.out.cells
  obtain ⟨y0, y1, y2, y3, y4, -, -, -, -, -⟩ := H21.out.cells
  have e1 : (s.code == s.code) = true := by simp
  have e2 : (s.found == s.found) = true := by simp
  go_wp2
  go_ret
  exact ⟨rfl, HB1.out⟩

set_option maxHeartbeats 4000000 in
theorem answers_same {w : World} {A B : Option Addr} {n : Nat} (c d : Nat) {R : List Rs} (h : Ress w A n R) (h' : Ress w B n R) :
    Calls Try.prog 15 #[.slice A n c, .slice B n d] w fun e w' => e = .returned (.bool true) ∧ Below w.heap.size w w' := by
  have hn := h.2.1
  unfold maxLen at hn
  have H := Lib.hid h
  have H' := Lib.hid h'
  clear h h'
  have en : ((n : Int) != (n : Int)) = false := by simp
  go_enter Try.func15, Try.ntmps15
  go_wp2
  go_loopw [5] (fun i wr => ∃ j : Nat, j ≤ n ∧ i = .int .i64 j ∧ Below w.heap.size w wr) (fun i _ => n - (intOf i).toNat)
  case atStart => exact ⟨0, Nat.zero_le _, rfl, Below.refl _ _⟩
  case round =>
    obtain ⟨j, hj, rfl, hd⟩ := hrel
    have HD := Lib.hid hd
    clear hd
    by_cases hlt : j < n
    · obtain ⟨b, oo, rfl, hbl, h1, x0, x1, x2, x3, x4, hr1⟩ := (H.out.below HD.out).at_ hlt
      obtain ⟨b', oo', rfl, hbl', h2, y0, y1, y2, y3, y4, hr2⟩ := (H'.out.below HD.out).at_ hlt
      obtain ⟨s, hs⟩ : ∃ s, s = gs R j := ⟨_, rfl⟩
      rw [← hs] at x0 x1 hr1 y0 y1 hr2
      have HSM := Lib.hid (same12 (w := wr.drew) (hr1.below (Below.refl _ _).drew) (hr2.below (Below.refl _ _).drew))
      clear hs hr1 hr2
      go_upto_region 6 with fail
      go_region_held3 (fun w' => w'.cell? ⟨b, oo + j * 5, none⟩ = some (.int .i64 s.code) ∧ w'.cell? ⟨b, oo + j * 5 + 1, none⟩ = some (.bool s.found) ∧ w'.cell? ⟨b, oo + j * 5 + 2, none⟩ = some (.slice h1.A h1.n h1.c) ∧ w'.cell? ⟨b, oo + j * 5 + 3, none⟩ = some (.slice h1.B h1.m h1.d) ∧ w'.cell? ⟨b, oo + j * 5 + 4, none⟩ = some (.int .u64 0) ∧
          w'.cell? ⟨b', oo' + j * 5, none⟩ = some (.int .i64 s.code) ∧ w'.cell? ⟨b', oo' + j * 5 + 1, none⟩ = some (.bool s.found) ∧ w'.cell? ⟨b', oo' + j * 5 + 2, none⟩ = some (.slice h2.A h2.n h2.c) ∧ w'.cell? ⟨b', oo' + j * 5 + 3, none⟩ = some (.slice h2.B h2.m h2.d) ∧ w'.cell? ⟨b', oo' + j * 5 + 4, none⟩ = some (.int .u64 0)) (go_keep)
        ((go_at_call 29
          (with_reducible refine HSM.out.mono ?_)
          rintro e w3 ⟨rfl, hb3⟩
          have hb3 : Below wr.heap.size wr w3 := undrew hb3
          have HB3 := Lib.hid (HD.out.trans (hb3.mono HD.out.size))
          have x0 := (hb3.cell (p := ⟨b, oo + j * 5, none⟩) hbl).trans x0
          have x1 := (hb3.cell (p := ⟨b, oo + j * 5 + 1, none⟩) hbl).trans x1
          have x2 := (hb3.cell (p := ⟨b, oo + j * 5 + 2, none⟩) hbl).trans x2
          have x3 := (hb3.cell (p := ⟨b, oo + j * 5 + 3, none⟩) hbl).trans x3
          have x4 := (hb3.cell (p := ⟨b, oo + j * 5 + 4, none⟩) hbl).trans x4
          have y0 := (hb3.cell (p := ⟨b', oo' + j * 5, none⟩) hbl').trans y0
          have y1 := (hb3.cell (p := ⟨b', oo' + j * 5 + 1, none⟩) hbl').trans y1
          have y2 := (hb3.cell (p := ⟨b', oo' + j * 5 + 2, none⟩) hbl').trans y2
          have y3 := (hb3.cell (p := ⟨b', oo' + j * 5 + 3, none⟩) hbl').trans y3
          have y4 := (hb3.cell (p := ⟨b', oo' + j * 5 + 4, none⟩) hbl').trans y4
          clear hb3))
      clear x0 x1 x2 x3 x4 y0 y1 y2 y3 y4 HSM
      go_wp2
      go_roundw
      case rel => exact ⟨j + 1, by omega, by go_num, HB3.out⟩
      case measure => simp [intOf]; omega
    · go_wp2
      go_ret
      exact ⟨rfl, HD.out⟩
end Go.Proofs.Ytdhgogepjedonaa
