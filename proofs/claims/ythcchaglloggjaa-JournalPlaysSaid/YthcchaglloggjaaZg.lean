/- The contract of package slot's copyReq: the same request in new memory. Condition: slices of at most 100 bytes that can be read. -/
import Derived.Test.YthcchaglloggjaaZa
namespace Go.Proofs.Ythcchaglloggjaa
open Go.RowKit
set_option linter.unusedVariables false
set_option maxRecDepth 100000

theorem stores_below {B b : Nat} (hb : B ≤ b) : ∀ (us : List Value) (a w : World) (o : Nat), Below B a w → Below B a (stores w b o us)
  | [], _, _, _, h => h
  | u :: us, a, w, o, h => by rw [stores]; exact stores_below hb us a _ _ (h.setCell hb _)
theorem BoxQ.frz {w : World} {b : Nat} {h : Qh} {r : Rq} (hb : BoxQ w b h r) (o : Nat) : w.frozen? ⟨b, o, none⟩ = false := by
  unfold BoxQ at hb
  simp [World.frozen?, hb]
/-- A request's box, and a result's. -/
theorem box_cp (w : World) (h : Qh) (r : Rq) : ∃ W, W = (w.alloc (.cells #[.int .i64 r.cl, .int .i64 r.sq, .int .i64 r.kind, .slice h.A h.n h.c, .slice h.B h.m h.d, .slice h.C h.o h.p, .slice h.D h.q h.s, .int .i64 r.limit] 60)).alloc
      (.cells #[.int .i64 0, .int .i64 0, .int .i64 0, .slice none 0 0, .slice none 0 0, .slice none 0 0, .slice none 0 0, .int .i64 0] 60) ∧
    Below w.heap.size w W ∧ BoxQ W w.heap.size h r ∧ BoxQ W (w.heap.size + 1) qh0 rq0 ∧ W.heap.size = w.heap.size + 1 + 1 := by
  obtain ⟨V, hV, hVB, hVQ, hVs⟩ := box_q w h r
  obtain ⟨W, hW, hWB, hWQ, hWs⟩ := box_q V qh0 rq0
  subst hV
  rw [hVs] at hWQ hWs
  exact ⟨W, hW, hVB.trans (hWB.mono (by omega)), hVQ.below hWB (by omega), hWQ, hWs⟩
/-- Where two slices have been made anew. -/
def Cp1 (w : World) (h : Qh) (r : Rq) (wx : World) : Prop :=
  ∃ A c B d, BoxQ wx w.heap.size ⟨A, h.n, c, B, h.m, d, h.C, h.o, h.p, h.D, h.q, h.s⟩ r ∧ BoxQ wx (w.heap.size + 1) qh0 rq0 ∧ Below w.heap.size w wx ∧ On (w.heap.size + 1 + 1 ≤ ·) wx (Byt · A h.n r.key) ∧ On (w.heap.size + 1 + 1 ≤ ·) wx (Byt · B h.m r.val)
def Cp2 (w : World) (h : Qh) (r : Rq) (wx : World) : Prop :=
  ∃ h' : Qh, BoxQ wx w.heap.size h' r ∧ BoxQ wx (w.heap.size + 1) qh0 rq0 ∧ Below w.heap.size w wx ∧ On (w.heap.size + 1 + 1 ≤ ·) wx (RqR · h' r)
theorem cp_one {w V : World} {h : Qh} {r : Rq} {A B : Option Addr} {c d : Nat} (hq : BoxQ V w.heap.size h r) (hz : BoxQ V (w.heap.size + 1) qh0 rq0) (hb : Below w.heap.size w V) (h1 : On (w.heap.size + 1 + 1 ≤ ·) V (Byt · A h.n r.key)) (h2 : On (w.heap.size + 1 + 1 ≤ ·) V (Byt · B h.m r.val)) :
    Cp1 w h r ((V.setCell ⟨w.heap.size, 3, none⟩ (.slice A h.n c)).setCell ⟨w.heap.size, 4, none⟩ (.slice B h.m d)) ∧ Cp1 w h r ((V.setCell ⟨w.heap.size, 4, none⟩ (.slice B h.m d)).setCell ⟨w.heap.size, 3, none⟩ (.slice A h.n c)) := by
  have hn : ¬ (w.heap.size + 1 + 1 ≤ w.heap.size) := by omega
  have hne : w.heap.size + 1 ≠ w.heap.size := by omega
  unfold BoxQ at hq
  refine ⟨⟨A, c, B, d, ?_, ?_, (hb.setCell (Nat.le_refl _) _).setCell (Nat.le_refl _) _, (h1.keep (agree_set _ _ _ hn)).keep (agree_set _ _ _ hn), (h2.keep (agree_set _ _ _ hn)).keep (agree_set _ _ _ hn)⟩,
    ⟨A, c, B, d, ?_, ?_, (hb.setCell (Nat.le_refl _) _).setCell (Nat.le_refl _) _, (h1.keep (agree_set _ _ _ hn)).keep (agree_set _ _ _ hn), (h2.keep (agree_set _ _ _ hn)).keep (agree_set _ _ _ hn)⟩⟩
  · simp [BoxQ, World.setCell, Array.getElem?_modify, hq]
  · unfold BoxQ at hz ⊢; rw [Below.heap_setCell _ _ _ _ hne, Below.heap_setCell _ _ _ _ hne]; exact hz
  · simp [BoxQ, World.setCell, Array.getElem?_modify, hq]
  · unfold BoxQ at hz ⊢; rw [Below.heap_setCell _ _ _ _ hne, Below.heap_setCell _ _ _ _ hne]; exact hz
theorem cp_two {w V : World} {h : Qh} {r : Rq} {A B : Option Addr} {c d : Nat} (hq : BoxQ V w.heap.size h r) (hz : BoxQ V (w.heap.size + 1) qh0 rq0) (hb : Below w.heap.size w V) (h1 : On (w.heap.size + 1 + 1 ≤ ·) V (Byt · A h.o r.old)) (h2 : On (w.heap.size + 1 + 1 ≤ ·) V (Byt · B h.q r.to_))
    (h3 : On (w.heap.size + 1 + 1 ≤ ·) V (Byt · h.A h.n r.key)) (h4 : On (w.heap.size + 1 + 1 ≤ ·) V (Byt · h.B h.m r.val)) :
    Cp2 w h r ((V.setCell ⟨w.heap.size, 5, none⟩ (.slice A h.o c)).setCell ⟨w.heap.size, 6, none⟩ (.slice B h.q d)) ∧ Cp2 w h r ((V.setCell ⟨w.heap.size, 6, none⟩ (.slice B h.q d)).setCell ⟨w.heap.size, 5, none⟩ (.slice A h.o c)) := by
  have hn : ¬ (w.heap.size + 1 + 1 ≤ w.heap.size) := by omega
  have hne : w.heap.size + 1 ≠ w.heap.size := by omega
  have hon : On (w.heap.size + 1 + 1 ≤ ·) V (RqR · ⟨h.A, h.n, h.c, h.B, h.m, h.d, A, h.o, c, B, h.q, d⟩ r) := fun v hv => ⟨h3 v hv, h4 v hv, h1 v hv, h2 v hv⟩
  unfold BoxQ at hq
  refine ⟨⟨⟨h.A, h.n, h.c, h.B, h.m, h.d, A, h.o, c, B, h.q, d⟩, ?_, ?_, (hb.setCell (Nat.le_refl _) _).setCell (Nat.le_refl _) _, (hon.keep (agree_set _ _ _ hn)).keep (agree_set _ _ _ hn)⟩,
    ⟨⟨h.A, h.n, h.c, h.B, h.m, h.d, A, h.o, c, B, h.q, d⟩, ?_, ?_, (hb.setCell (Nat.le_refl _) _).setCell (Nat.le_refl _) _, (hon.keep (agree_set _ _ _ hn)).keep (agree_set _ _ _ hn)⟩⟩
  · simp [BoxQ, World.setCell, Array.getElem?_modify, hq]
  · unfold BoxQ at hz ⊢; rw [Below.heap_setCell _ _ _ _ hne, Below.heap_setCell _ _ _ _ hne]; exact hz
  · simp [BoxQ, World.setCell, Array.getElem?_modify, hq]
  · unfold BoxQ at hz ⊢; rw [Below.heap_setCell _ _ _ _ hne, Below.heap_setCell _ _ _ _ hne]; exact hz

set_option maxHeartbeats 8000000 in
theorem copyq_any {w : World} {h : Qh} {r : Rq} (hr : RqR w h r) (hs : smallQ r = true) :
    Calls Try.prog 34 #[rqV h r] w fun e w' => ∃ h' : Qh, e = .returned (rqV h' r) ∧ On (w.heap.size ≤ ·) w' (RqR · h' r) ∧ Below w.heap.size w w' := by
  obtain ⟨W, hW, hWB, hWQ, hWZ, hWs⟩ := box_cp w h r
  obtain ⟨l1, l2, l3, l4⟩ := small_lens hs
  have HR := Lib.hid (hr.below hWB)
  have HRW := Lib.hid hr
  have HL := Lib.hid (show h.n ≤ 1000 ∧ h.m ≤ 1000 ∧ h.o ≤ 1000 ∧ h.q ≤ 1000 from by
    have e1 := hr.1.1
    have e2 := hr.2.1.1
    have e3 := hr.2.2.1.1
    have e4 := hr.2.2.2.1
    omega)
  have HB := Lib.hid hWB
  have HQ := Lib.hid hWQ
  have HZ := Lib.hid hWZ
  have HS := Lib.hid hWs
  have hWe := Lib.hid hW
  clear hr hs hW hWB hWQ hWZ hWs l1 l2 l3 l4
  unfold rqV
  go_enter Try.func34, Try.ntmps34
  go_upto_region 1 with fail
  rw [← hWe.out]
  have hsz : W.heap.size = w.heap.size + 1 + 1 := HS.out
  have hlt : w.heap.size < W.heap.size := by omega
  have HSZ := Lib.hid (Nat.le_of_eq hsz.symm)
  clear hsz
  go_cut [5] (fun _ wx => Cp1 w h r wx)
  case first =>
    obtain ⟨b0, b1, b2, b3, b4, b5, b6, b7⟩ := HQ.out.cells
    have f3 := HQ.out.frz 3
    have f4 := HQ.out.frz 4
    have HK := Lib.hid (And.intro b3 (And.intro b4 (And.intro f3 f4)))
    have D3 := Lib.hid (clone_any (w := W.drew) h.c (show Byt W.drew h.A h.n r.key from HR.out.1) HL.out.1)
    have D4 := Lib.hid (clone_any (w := W.drew) h.d (show Byt W.drew h.B h.m r.val from HR.out.2.1) HL.out.2.1)
    clear b0 b1 b2 b5 b6 b7 hWe
    go_region_law (first
      | (go_simp
         go_at_call 43
         first
         | ((with_reducible refine D3.out.mono ?_)
            rintro e wa ⟨A3, c3, rfl, p3, n3, hb⟩
            have hb : Below W.heap.size W wa := undrew hb
            have HX3 := Lib.hid ((byt_new p3 n3).mono (fun b hb => Nat.le_trans HSZ.out hb))
            have E4 := Lib.hid (clone_any (w := wa) h.d (HR.out.2.1.below hb) HL.out.2.1)
            clear p3 n3)
         | ((with_reducible refine D4.out.mono ?_)
            rintro e wa ⟨A4, c4, rfl, p4, n4, hb⟩
            have hb : Below W.heap.size W wa := undrew hb
            have HX4 := Lib.hid ((byt_new p4 n4).mono (fun b hb => Nat.le_trans HSZ.out hb))
            have E3 := Lib.hid (clone_any (w := wa) h.c (HR.out.1.below hb) HL.out.1)
            clear p4 n4)
         have HBA := Lib.hid hb
         have b3 := (hb.cell (p := ⟨w.heap.size, 3, none⟩) hlt).trans HK.out.1
         have b4 := (hb.cell (p := ⟨w.heap.size, 4, none⟩) hlt).trans HK.out.2.1
         have f3 := (hb.frozen (p := ⟨w.heap.size, 3, none⟩) hlt).trans HK.out.2.2.1
         have f4 := (hb.frozen (p := ⟨w.heap.size, 4, none⟩) hlt).trans HK.out.2.2.2
         clear hb
         go_wp2_with fail)
      | (go_simp
         go_at_call 43
         first
         | ((with_reducible refine E4.out.mono ?_)
            rintro e wb ⟨A4, c4, rfl, p4, n4, hb⟩
            have hb0 : Below W.heap.size W wb := HBA.out.trans (hb.mono HBA.out.size)
            have HXX := Lib.hid (And.intro (HX3.out.keep (below_all hb)) (And.intro ((byt_new p4 n4).mono (fun b hb => Nat.le_trans (Nat.le_trans HSZ.out HBA.out.size) hb)) hb0))
            clear p4 n4)
         | ((with_reducible refine E3.out.mono ?_)
            rintro e wb ⟨A3, c3, rfl, p3, n3, hb⟩
            have hb0 : Below W.heap.size W wb := HBA.out.trans (hb.mono HBA.out.size)
            have HXX := Lib.hid (And.intro ((byt_new p3 n3).mono (fun b hb => Nat.le_trans (Nat.le_trans HSZ.out HBA.out.size) hb)) (And.intro (HX4.out.keep (below_all hb)) hb0))
            clear p3 n3)
         have b3 := (hb0.cell (p := ⟨w.heap.size, 3, none⟩) hlt).trans HK.out.1
         have b4 := (hb0.cell (p := ⟨w.heap.size, 4, none⟩) hlt).trans HK.out.2.1
         have f3 := (hb0.frozen (p := ⟨w.heap.size, 3, none⟩) hlt).trans HK.out.2.2.1
         have f4 := (hb0.frozen (p := ⟨w.heap.size, 4, none⟩) hlt).trans HK.out.2.2.2
         clear hb hb0
         go_wp2_with fail))
    all_goals
      have HCP := Lib.hid (cp_one (c := c3) (d := c4) (HQ.out.below HXX.out.2.2 hlt) (HZ.out.below HXX.out.2.2 (by have := HS.out; omega)) (HB.out.trans (HXX.out.2.2.mono HB.out.size)) HXX.out.1 HXX.out.2.1)
      go_wp2
      go_meet
      first
        | exact HCP.out.1
        | exact HCP.out.2
  case rest =>
    rename World => wx
    obtain ⟨A3, c3, B4, c4, hq, hz, hb0, h1, h2⟩ := hcut
    have HQ1 := Lib.hid hq
    have HZ1 := Lib.hid hz
    have HB1 := Lib.hid hb0
    have H12 := Lib.hid (And.intro h1 h2)
    have hlx : w.heap.size < wx.heap.size := hq.lt
    have HSX := Lib.hid (show w.heap.size + 1 + 1 ≤ wx.heap.size from by have := hz.lt; omega)
    have HR2 := Lib.hid (And.intro (HRW.out.2.2.1.below hb0) (HRW.out.2.2.2.below hb0))
    clear hq hz hb0 h1 h2 HR HQ HZ HB hWe HSZ hlt HS
    go_upto_region 2 with fail
    go_cut [11] (fun _ wy => Cp2 w h r wy)
    case first =>
      obtain ⟨b0, b1, b2, b3, b4, b5, b6, b7⟩ := HQ1.out.cells
      dsimp only at b5 b6
      have f5 := HQ1.out.frz 5
      have f6 := HQ1.out.frz 6
      have HK := Lib.hid (And.intro b5 (And.intro b6 (And.intro f5 f6)))
      have D3 := Lib.hid (clone_any (w := wx.drew) h.p (show Byt wx.drew h.C h.o r.old from HR2.out.1) HL.out.2.2.1)
      have D4 := Lib.hid (clone_any (w := wx.drew) h.s (show Byt wx.drew h.D h.q r.to_ from HR2.out.2) HL.out.2.2.2)
      clear b0 b1 b2 b3 b4 b7
      go_region_law (first
        | (go_simp
           go_at_call 43
           first
           | ((with_reducible refine D3.out.mono ?_)
              rintro e wa ⟨Ax3, cx3, rfl, p3, n3, hb⟩
              have hb : Below wx.heap.size wx wa := undrew hb
              have HX3 := Lib.hid ((byt_new p3 n3).mono (fun b hb => Nat.le_trans HSX.out hb))
              have E4 := Lib.hid (clone_any (w := wa) h.s (HR2.out.2.below hb) HL.out.2.2.2)
              clear p3 n3)
           | ((with_reducible refine D4.out.mono ?_)
              rintro e wa ⟨Ax4, cx4, rfl, p4, n4, hb⟩
              have hb : Below wx.heap.size wx wa := undrew hb
              have HX4 := Lib.hid ((byt_new p4 n4).mono (fun b hb => Nat.le_trans HSX.out hb))
              have E3 := Lib.hid (clone_any (w := wa) h.p (HR2.out.1.below hb) HL.out.2.2.1)
              clear p4 n4)
           have HBA := Lib.hid hb
           have b5 := (hb.cell (p := ⟨w.heap.size, 5, none⟩) hlx).trans HK.out.1
           have b6 := (hb.cell (p := ⟨w.heap.size, 6, none⟩) hlx).trans HK.out.2.1
           have f5 := (hb.frozen (p := ⟨w.heap.size, 5, none⟩) hlx).trans HK.out.2.2.1
           have f6 := (hb.frozen (p := ⟨w.heap.size, 6, none⟩) hlx).trans HK.out.2.2.2
           clear hb
           go_wp2_with fail)
        | (go_simp
           go_at_call 43
           first
           | ((with_reducible refine E4.out.mono ?_)
              rintro e wb ⟨Ax4, cx4, rfl, p4, n4, hb⟩
              have hb0 : Below wx.heap.size wx wb := HBA.out.trans (hb.mono HBA.out.size)
              have HXX := Lib.hid (And.intro (HX3.out.keep (below_all hb)) (And.intro ((byt_new p4 n4).mono (fun b hb => Nat.le_trans (Nat.le_trans HSX.out HBA.out.size) hb)) hb0))
              clear p4 n4)
           | ((with_reducible refine E3.out.mono ?_)
              rintro e wb ⟨Ax3, cx3, rfl, p3, n3, hb⟩
              have hb0 : Below wx.heap.size wx wb := HBA.out.trans (hb.mono HBA.out.size)
              have HXX := Lib.hid (And.intro ((byt_new p3 n3).mono (fun b hb => Nat.le_trans (Nat.le_trans HSX.out HBA.out.size) hb)) (And.intro (HX4.out.keep (below_all hb)) hb0))
              clear p3 n3)
           have b5 := (hb0.cell (p := ⟨w.heap.size, 5, none⟩) hlx).trans HK.out.1
           have b6 := (hb0.cell (p := ⟨w.heap.size, 6, none⟩) hlx).trans HK.out.2.1
           have f5 := (hb0.frozen (p := ⟨w.heap.size, 5, none⟩) hlx).trans HK.out.2.2.1
           have f6 := (hb0.frozen (p := ⟨w.heap.size, 6, none⟩) hlx).trans HK.out.2.2.2
           clear hb hb0
           go_wp2_with fail))
      all_goals
        have HCP := Lib.hid (cp_two (h := ⟨A3, h.n, c3, B4, h.m, c4, h.C, h.o, h.p, h.D, h.q, h.s⟩) (c := cx3) (d := cx4) (HQ1.out.below HXX.out.2.2 hlx) (HZ1.out.below HXX.out.2.2 (by have := HSX.out; omega)) (HB1.out.trans (HXX.out.2.2.mono HB1.out.size)) HXX.out.1 HXX.out.2.1 (H12.out.1.keep (below_all HXX.out.2.2)) (H12.out.2.keep (below_all HXX.out.2.2)))
        go_wp2
        go_meet
        first
          | exact HCP.out.1
          | exact HCP.out.2
    case rest =>
      rename World => wy
      obtain ⟨h', hq, hz, hb0, h1⟩ := hcut
      have HON := Lib.hid h1
      have HB2 := Lib.hid hb0
      obtain ⟨b0, b1, b2, b3, b4, b5, b6, b7⟩ := hq.cells
      obtain ⟨z0, z1, z2, z3, z4, z5, z6, z7⟩ := hz.cells
      have fz := hz.frz
      clear hq hz hb0 h1 HQ1 HZ1 HB1 H12 HR2 hlx HSX
      go_wp2
      refine bodyPost_ret (v := rqV h' r) (by simp [results, Try.results34, go_sem, rqV, z0, z1, z2, z3, z4, z5, z6, z7]) rfl ⟨h', rfl, ?_, ?_⟩
      · exact (HON.out.keep ((chg_stores (w.heap.size + 1) [.int .i64 r.cl, .int .i64 r.sq, .int .i64 r.kind, .slice h'.A h'.n h'.c, .slice h'.B h'.m h'.d, .slice h'.C h'.o h'.p, .slice h'.D h'.q h'.s, .int .i64 r.limit] wy 0).agree (C := (w.heap.size + 1 + 1 ≤ ·)) (by omega))).mono (fun b hb => by have hb' : w.heap.size + 1 + 1 ≤ b := hb; omega)
      · exact stores_below (b := w.heap.size + 1) (by omega) [.int .i64 r.cl, .int .i64 r.sq, .int .i64 r.kind, .slice h'.A h'.n h'.c, .slice h'.B h'.m h'.d, .slice h'.C h'.o h'.p, .slice h'.D h'.q h'.s, .int .i64 r.limit] w wy 0 HB2.out
end Go.Proofs.Ythcchaglloggjaa
