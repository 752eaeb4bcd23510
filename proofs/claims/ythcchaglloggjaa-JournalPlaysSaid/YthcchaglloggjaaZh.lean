/- The contract of package slot's copyRes: the same answer in new memory. Condition: no more than 1000 rows; keys and values of at most 1000 bytes that can be read. -/
import Derived.Test.YthcchaglloggjaaZg
import Derived.Deep.AppendLies
namespace Go.Proofs.Ythcchaglloggjaa
open Go.RowKit
set_option linter.unusedVariables false
set_option maxRecDepth 100000

/-- An answer's box. -/
def BoxA (w : World) (b : Nat) (h : Sh) (a : An) : Prop := w.heap[b]? = some (.cells #[.int .i64 a.code, .bool a.found, .slice h.A h.n h.c, .slice h.B h.m h.d, .int .u64 a.stamp] 46 (0, 0))
theorem BoxA.lt {w : World} {b : Nat} {h : Sh} {a : An} (hb : BoxA w b h a) : b < w.heap.size := (Array.getElem?_eq_some_iff.1 hb).1
theorem BoxA.below {w w' : World} {b B : Nat} {h : Sh} {a : An} (hx : BoxA w b h a) (hb : Below B w w') (hB : b < B) : BoxA w' b h a := (hb.block b hB).trans hx
theorem BoxA.cells {w : World} {b : Nat} {h : Sh} {a : An} (hb : BoxA w b h a) :
    w.cell? ⟨b, 0, none⟩ = some (.int .i64 a.code) ∧ w.cell? ⟨b, 1, none⟩ = some (.bool a.found) ∧ w.cell? ⟨b, 2, none⟩ = some (.slice h.A h.n h.c) ∧ w.cell? ⟨b, 3, none⟩ = some (.slice h.B h.m h.d) ∧ w.cell? ⟨b, 4, none⟩ = some (.int .u64 a.stamp) := by
  unfold BoxA at hb
  simp [World.cell?, hb]
theorem BoxA.frz {w : World} {b : Nat} {h : Sh} {a : An} (hb : BoxA w b h a) (o : Nat) : w.frozen? ⟨b, o, none⟩ = false := by
  unfold BoxA at hb
  simp [World.frozen?, hb]
theorem box_a (w : World) (h : Sh) (a : An) : ∃ W, W = w.alloc (.cells #[.int .i64 a.code, .bool a.found, .slice h.A h.n h.c, .slice h.B h.m h.d, .int .u64 a.stamp] 46) ∧ Below w.heap.size w W ∧ BoxA W w.heap.size h a ∧ W.heap.size = w.heap.size + 1 :=
  ⟨_, rfl, (Below.refl _ _).alloc (Nat.le_refl _) _, Deep.blk_alloc_new _ _, by simp⟩
theorem box_ca (w : World) (h : Sh) (a : An) : ∃ W, W = (w.alloc (.cells #[.int .i64 a.code, .bool a.found, .slice h.A h.n h.c, .slice h.B h.m h.d, .int .u64 a.stamp] 46)).alloc (.cells #[.int .i64 0, .bool false, .slice none 0 0, .slice none 0 0, .int .u64 0] 46) ∧
    Below w.heap.size w W ∧ BoxA W w.heap.size h a ∧ BoxA W (w.heap.size + 1) sh0 an0 ∧ W.heap.size = w.heap.size + 1 + 1 := by
  obtain ⟨V, hV, hVB, hVQ, hVs⟩ := box_a w h a
  obtain ⟨W, hW, hWB, hWQ, hWs⟩ := box_a V sh0 an0
  subst hV
  rw [hVs] at hWQ hWs
  exact ⟨W, hW, hVB.trans (hWB.mono (by omega)), hVQ.below hWB (by omega), hWQ, hWs⟩

/-- A list of pairs of one's own, that grows: its row, and all that it leads to, in new memory. -/
def OffV (v : Value) (b : Nat) : Prop := ∀ k, v.ownBlock = some k → b ≠ k
def GrowsR (w : World) (N : Nat) (v : Value) (n : Nat) (P : List Pr) : Prop := ∃ xs, w.ownsRow N 91 2 v n xs ∧ ReadsC (fun _ b => N ≤ b ∧ OffV v b) w xs P
theorem growsR_nil (w : World) (N : Nat) : GrowsR w N (.slice none 0 0) 0 [] := ⟨[], World.ownsRow_nil _ _ _ _, rfl, fun j hj => by cases hj⟩
theorem GrowsR.prs {w : World} {N : Nat} {v : Value} {n : Nat} {P : List Pr} (h : GrowsR w N v n P) : ∃ A c, v = .slice A n c ∧ On (N ≤ ·) w (Prs · A n c P) := by
  obtain ⟨xs, h1, h2⟩ := h
  obtain ⟨A, c, rfl, hN, -⟩ := own_new h1
  exact ⟨A, c, rfl, prs_on h1 (h2.mono fun t _ b hb => hb.1) hN⟩
theorem GrowsR.more {w w' : World} {N n : Nat} {v v' : Value} {P : List Pr} {xs : List Value} {p : Pr} {A B : Option Addr} {m k : Nat} (c d : Nat) (hr : ReadsC (fun _ b => N ≤ b ∧ OffV v b) w xs P)
    (h1 : On (fun b => N ≤ b ∧ OffV v b) w (Byt · A m p.1)) (h2 : On (fun b => N ≤ b ∧ OffV v b) w (Byt · B k p.2))
    (hown : w'.ownsRow N 91 2 v' (n + 1) (xs ++ [.slice A m c, .slice B k d])) (hg : w.grownBy w' v.ownBlock) (hat : v'.ownBlock = v.ownBlock ∨ ∀ k, v'.ownBlock = some k → w.heap.size ≤ k) : GrowsR w' N v' (n + 1) (P ++ [p]) := by
  have key : ∀ b, ((N ≤ b ∧ OffV v b) ∧ b < w.heap.size) → N ≤ b ∧ OffV v' b := fun b hb => ⟨hb.1.1, fun k hk => by
    rcases hat with e | e
    · exact hb.1.2 k (by rw [← e]; exact hk)
    · have := e k hk; have := hb.2; omega⟩
  have hag : Agree (fun b => (N ≤ b ∧ OffV v b) ∧ b < w.heap.size) w w' := agree_grown hg fun k hk hc => hc.1.2 k hk rfl
  refine ⟨_, hown, ?_⟩
  refine ReadsC.append (C := fun b => N ≤ b ∧ OffV v' b) ((hr.now.keep fun t => hag).mono fun t _ b hb => key b hb) ⟨rfl, fun j hj => ?_⟩
  obtain rfl : j = 0 := by simp at hj; omega
  exact ⟨A, m, c, B, k, d, rfl, rfl, (h1.now.keep hag).mono key, (h2.now.keep hag).mono key⟩
theorem take_more {P : List Pr} {j : Nat} (h : j < P.length) : P.take (j + 1) = P.take j ++ [gt P j] := by
  rw [List.take_add_one, List.getElem?_eq_getElem h]
  unfold gt
  simp [h]

def SmA (a : An) : Prop := a.val.length ≤ 1000 ∧ a.rows.length ≤ 1000 ∧ Small a.rows

set_option maxHeartbeats 8000000 in
theorem copya_any {w : World} {h : Sh} {a : An} (hr : AnR w h a) (hs : SmA a) :
    Calls Try.prog 30 #[anV h a] w fun e w' => ∃ h' : Sh, e = .returned (anV h' a) ∧ On (w.heap.size ≤ ·) w' (AnR · h' a) ∧ Below w.heap.size w w' := by
  obtain ⟨W, hW, hWB, hWQ, hWZ, hWs⟩ := box_ca w h a
  obtain ⟨A0, n0, c0, B0, m0, d0⟩ := h
  dsimp only at hW
  obtain ⟨i0, hi, hz0, hz1, hz2⟩ := info_parts Try.infoPair
  have HI := Lib.hid hi
  have HZI := Lib.hid (And.intro hz0 (And.intro hz1 hz2))
  have HR := Lib.hid (hr.below hWB)
  have HSM := Lib.hid hs.2.2
  have hn : n0 ≤ 1000 := by have := hr.1.1; have := hs.1; dsimp only at *; omega
  have hlen := hr.2.len
  have hm : m0 ≤ 1000 := by have := hs.2.1; dsimp only at *; omega
  dsimp only at hlen
  have HL := Lib.hid hlen
  have HB := Lib.hid hWB
  have HQ := Lib.hid hWQ
  have HZ := Lib.hid hWZ
  have hWe := Lib.hid hW
  have hlt : w.heap.size < W.heap.size := by omega
  have hlt1 : w.heap.size + 1 < W.heap.size := by omega
  have HN := Lib.hid (show w.heap.size + 1 + 1 ≤ W.heap.size from by omega)
  clear hr hs hW hWB hWQ hWZ hWs hlen hi hz0 hz1 hz2
  unfold anV
  dsimp only
  go_enter Try.func30, Try.ntmps30
  go_upto_region 2 with fail
  rw [← hWe.out]
  obtain ⟨b0, b1, b2, b3, b4⟩ := HQ.out.cells
  dsimp only at b2 b3
  go_wp2
  clear b0 b1 b2 b3 b4
  go_loopw [3, 9] (fun v i wr => ∃ j : Nat, j ≤ m0 ∧ i = .int .i64 j ∧ GrowsR wr W.heap.size v j (a.rows.take j) ∧ Below W.heap.size W wr) (fun _ i _ => m0 - (intOf i).toNat)
  case atStart => exact ⟨0, Nat.zero_le _, rfl, growsR_nil _ _, Below.refl _ _⟩
  case round =>
    obtain ⟨j, hj, rfl, hg, hb⟩ := hrel
    have HG := Lib.hid hg
    have HB1 := Lib.hid hb
    clear hg hb
    by_cases hlt2 : j < m0
    · obtain ⟨pb, oo, rfl, hbl, A1, n1, c1, B1, m1, d1, k0, k1, y1, y2⟩ := (HR.out.2.below HB1.out).at_ hlt2
      have hsm := HSM.out _ (gt_mem (show j < a.rows.length by rw [HL.out]; exact hlt2))
      have HTM := Lib.hid (take_more (show j < a.rows.length by rw [HL.out]; exact hlt2))
      have hn1 : n1 ≤ 1000 := by rw [← y1.1]; exact hsm.1
      have hm1 : m1 ≤ 1000 := by rw [← y2.1]; exact hsm.2
      obtain ⟨pr, hpr⟩ : ∃ pr, pr = gt a.rows j := ⟨_, rfl⟩
      rw [← hpr] at y1 y2 HTM
      have Y := Lib.hid (And.intro y1 y2)
      have HWX := Lib.hid (show ∃ V, V = wr.alloc (.cells #[.slice A1 n1 c1, .slice B1 m1 d1] 91) ∧ Below wr.heap.size wr V ∧ V.cell? ⟨wr.heap.size, 0, none⟩ = some (.slice A1 n1 c1) ∧ V.cell? ⟨wr.heap.size, 1, none⟩ = some (.slice B1 m1 d1) ∧ V.heap.size = wr.heap.size + 1 from
        ⟨_, rfl, (Below.refl _ _).alloc (Nat.le_refl _) _, by simp, by simp, by simp⟩)
      clear hpr y1 y2 hsm
      go_upto_region 5 with fail
      obtain ⟨V, hV, hVB, hV0, hV1, hVs⟩ := HWX.out
      rw [← hV]
      have HVB := Lib.hid hVB
      have HV := Lib.hid (And.intro hV0 (And.intro hV1 hVs))
      clear hV HWX hVB hVs k0 k1
      have D := Lib.hid (clone_any (w := V.drew) c1 (show Byt V A1 n1 pr.1 from Y.out.1.below HVB.out) hn1)
      obtain ⟨xs, hown, hrd⟩ := HG.out
      have HO := Lib.hid hown
      have HRD := Lib.hid hrd
      have HLT := Lib.hid (fun k hk => (hown.lt k hk))
      have HCP := Lib.hid (hown.1)
      clear hown hrd
      have hlv : wr.heap.size < V.heap.size := by have := HV.out.2.2; omega
      go_region_held3 (fun w' => w'.cell? ⟨wr.heap.size, 0, none⟩ = some (.slice A1 n1 c1) ∧ w'.cell? ⟨wr.heap.size, 1, none⟩ = some (.slice B1 m1 d1)) (go_keep)
        (first
          | (go_at_call 43
             (with_reducible refine D.out.mono ?_)
             rintro e w3 ⟨A2, x2, rfl, p2, n2, hb3⟩
             have hb3 : Below V.heap.size V w3 := undrew hb3
             have g0 := (hb3.cell (p := ⟨wr.heap.size, 0, none⟩) hlv).trans HV.out.1
             have g1 := (hb3.cell (p := ⟨wr.heap.size, 1, none⟩) hlv).trans HV.out.2.1
             have HB3 := Lib.hid (HVB.out.trans (hb3.mono HVB.out.size))
             have HX2 := Lib.hid (byt_new p2 n2)
             have hl3 := hb3.size
             have E := Lib.hid (clone_any d1 (Y.out.2.below HB3.out) hm1)
             clear p2 n2 hb3)
          | (go_at_call 43
             (with_reducible refine E.out.mono ?_)
             rintro e w4 ⟨B2, x3, rfl, p3, n3, hb4⟩
             have hl4 := hb4.size
             have g0 := (hb4.cell (p := ⟨wr.heap.size, 0, none⟩) (show wr.heap.size < w3.heap.size by omega)).trans g0
             have g1 := (hb4.cell (p := ⟨wr.heap.size, 1, none⟩) (show wr.heap.size < w3.heap.size by omega)).trans g1
             have HB4 := Lib.hid (HB3.out.trans (hb4.mono HB3.out.size))
             have HX3 := Lib.hid (And.intro (HX2.out.keep (below_all hb4)) (byt_new p3 n3))
             have HO4 := Lib.hid ((own_keep HO.out HB4.out).alloc (.cells #[.slice A2 n1 x2, .slice B2 m1 x3] 91))
             clear p3 n3 hb4)
          | ((have t1 : (0:Nat) < 1 := Nat.one_pos
              have t2 : j + 1 ≤ maxLen := by unfold maxLen; omega
              have t3 : (j + 1) * 48 ≤ 140737488355328 := by omega
              have t4 : W.heap.size ≤ (w4.alloc (.cells #[.slice A2 n1 x2, .slice B2 m1 x3] 91)).heap.size := by have := HB1.out.size; simp; omega
              have t5 : ∀ u ∈ [Value.slice A2 n1 x2, Value.slice B2 m1 x3], u.oneCell' = true := by intro u hu; simp at hu; rcases hu with rfl | rfl <;> rfl
              have t6 : (w4.alloc (.cells #[.slice A2 n1 x2, .slice B2 m1 x3] 91)).heap.size = w4.heap.size + 1 := by simp
              refine step_append_lies _ (by rfl) _ _ 43 (by rfl) W.heap.size 91 i0 (.agg #[.slice none 0 0, .slice none 0 0]) 2 48 Try.underlying43 HI.out HZI.out.1 HZI.out.2.1 HZI.out.2.2 (by rfl) (by decide) u3 j xs (by rfl) HO4.out ⟨w4.heap.size, 0, none⟩ 1 1 [.slice A2 n1 x2, .slice B2 m1 x3] (by rfl) (by rfl) two_cells t5 t1 t2 t3 t4 (w4.heap.size + 1) t6 ?_
              intro p' cap w5 hown5 hgrow5 hat5 hlt5
              have HG5 := Lib.hid (And.intro hown5 (And.intro hgrow5 (And.intro hat5 hlt5)))
              have hne : some wr.heap.size ≠ u3.ownBlock := fun e => by have := (HLT.out _ e.symm).2; omega
              have g0 := ((hgrow5.cell_far ⟨wr.heap.size, 0, none⟩ (by simp; omega) hne).trans (((Below.refl w4.heap.size w4).alloc (Nat.le_refl _) (.cells #[.slice A2 n1 x2, .slice B2 m1 x3] 91)).cell (p := ⟨wr.heap.size, 0, none⟩) (by show wr.heap.size < w4.heap.size; omega))).trans g0
              have g1 := ((hgrow5.cell_far ⟨wr.heap.size, 1, none⟩ (by simp; omega) hne).trans (((Below.refl w4.heap.size w4).alloc (Nat.le_refl _) (.cells #[.slice A2 n1 x2, .slice B2 m1 x3] 91)).cell (p := ⟨wr.heap.size, 1, none⟩) (by show wr.heap.size < w4.heap.size; omega))).trans g1
              clear hown5 hgrow5 hat5 hlt5)))
      have hal := (Below.refl w4.heap.size w4).alloc (Nat.le_refl _) (.cells #[.slice A2 n1 x2, .slice B2 m1 x3] 91)
      have hb14 := HB1.out.size
      have hoff : ∀ b, V.heap.size ≤ b → W.heap.size ≤ b ∧ OffV u3 b := fun b hb => ⟨by omega, fun k hk => by have := (HLT.out k hk).2; omega⟩
      have HNX := Lib.hid (GrowsR.more (N := W.heap.size) (p := pr) x2 x3 ((HRD.out.keep fun t => below_all HB4.out).keep fun t => below_all hal)
        ((HX3.out.1.mono hoff).keep (below_all hal)) ((HX3.out.2.mono (fun b hb => hoff b (by have hb' : w3.heap.size ≤ b := hb; omega))).keep (below_all hal)) HG5.out.1 HG5.out.2.1
        (HG5.out.2.2.1.imp (fun e => e.symm) (fun e k hk => by
          have hk' : p' = k := Option.some.inj (show some p' = some k from hk)
          have h6 : (w4.alloc (.cells #[.slice A2 n1 x2, .slice B2 m1 x3] 91)).heap.size = w4.heap.size + 1 := by simp
          omega)))
      have HBN := Lib.hid ((((HB1.out.trans (HB4.out.mono HB1.out.size))).trans (hal.mono (by omega))).grown HG5.out.2.1 (by simp; omega) (fun k hk => (HLT.out k hk).1))
      rw [← HTM.out] at HNX
      clear g0 g1 D E HG5 HO4 HX3 HB4 hl4 HX2 HB3 hl3 hal hoff hb14 HO HRD HLT HCP hlv HV HVB Y HTM
      go_wp2
      go_roundw
      case rel => exact ⟨j + 1, by omega, by go_num, HNX.out, HBN.out⟩
      case measure => simp [intOf]; omega
    · obtain rfl : j = m0 := by omega
      obtain ⟨A9, c9, rfl, hp9⟩ := HG.out.prs
      rw [List.take_of_length_le (by rw [HL.out]; exact Nat.le_refl _)] at hp9
      have HP9 := Lib.hid hp9
      have HQ1 := Lib.hid (HQ.out.below HB1.out hlt)
      have HZ1 := Lib.hid (HZ.out.below HB1.out hlt1)
      have D := Lib.hid (clone_any (w := wr) c0 (HR.out.1.below HB1.out) hn)
      obtain ⟨b0, b1, b2, b3, b4⟩ := HQ1.out.cells
      dsimp only at b2 b3
      have hb14 := HB1.out.size
      clear hp9 HG
      go_wp2_with fail
      refine D.out.mono ?_
      rintro e w2 ⟨A2, x2, rfl, p2, n2, hb2⟩
      have HX2 := Lib.hid ((byt_new p2 n2).mono (C' := (w.heap.size + 1 + 1 ≤ ·)) (fun b hb => Nat.le_trans HN.out (Nat.le_trans hb14 hb)))
      have HP2 := Lib.hid ((HP9.out.keep (below_all hb2)).mono (C' := (w.heap.size + 1 + 1 ≤ ·)) (fun b hb => Nat.le_trans HN.out hb))
      have HQ2 := Lib.hid (HQ1.out.below hb2 (by omega))
      have HZ2 := Lib.hid (HZ1.out.below hb2 (by omega))
      have HB2 := Lib.hid (HB.out.trans ((HB1.out.trans (hb2.mono hb14)).mono HB.out.size))
      obtain ⟨b0, b1, b2, b3, b4⟩ := HQ2.out.cells
      dsimp only at b2 b3
      obtain ⟨z0, z1, z2, z3, z4⟩ := HZ2.out.cells
      have fq := HQ2.out.frz
      have fz := HZ2.out.frz
      clear p2 n2 hb2 HP9 HQ1 HZ1 D HB1 HQ HZ HR hWe HI HZI HSM hb14
      go_wp2
      refine bodyPost_ret (v := anV ⟨A2, n0, x2, A9, j, c9⟩ a) (by simp [results, Try.results30, go_sem, anV, z0, z1, z2, z3, z4]) rfl ⟨⟨A2, n0, x2, A9, j, c9⟩, rfl, ?_, ?_⟩
      · have h1 := (chg_stores w.heap.size [.slice A2 n0 x2, .slice A9 j c9] w2 2).agree (C := (w.heap.size + 1 + 1 ≤ ·)) (by omega)
        have h2 := (chg_stores (w.heap.size + 1) [.int .i64 a.code, .bool a.found, .slice A2 n0 x2, .slice A9 j c9, .int .u64 a.stamp] (stores w2 w.heap.size 2 [.slice A2 n0 x2, .slice A9 j c9]) 0).agree (C := (w.heap.size + 1 + 1 ≤ ·)) (by omega)
        have hon : On (w.heap.size + 1 + 1 ≤ ·) w2 (AnR · ⟨A2, n0, x2, A9, j, c9⟩ a) := fun v hv => ⟨HX2.out v hv, HP2.out v hv⟩
        exact ((hon.keep h1).keep h2).mono (fun b hb => by have hb' : w.heap.size + 1 + 1 ≤ b := hb; omega)
      · exact stores_below (b := w.heap.size + 1) (by omega) [.int .i64 a.code, .bool a.found, .slice A2 n0 x2, .slice A9 j c9, .int .u64 a.stamp] w _ 0 (stores_below (b := w.heap.size) (Nat.le_refl _) [.slice A2 n0 x2, .slice A9 j c9] w w2 2 HB2.out)
end Go.Proofs.Ythcchaglloggjaa
