/- The contract of package journal's Apply. Condition: at most 32 requests and answers; answers of at most 1000 bytes and rows that can be read. -/
import Derived.Test.YthcchaglloggjaaJf
namespace Go.Proofs.Ythcchaglloggjaa
open Go.RowKit
set_option linter.unusedVariables false
set_option maxRecDepth 100000

/-- A slice of answers with stamps that reads as a list. -/
def aq (L : List An) (j : Nat) : An := L.getD j an0
def AnAt (w : World) (b o : Nat) (a : An) : Prop :=
  ∃ k : Sh, w.cell? ⟨b, o, none⟩ = some (.int .i64 a.code) ∧ w.cell? ⟨b, o + 1, none⟩ = some (.bool a.found) ∧ w.cell? ⟨b, o + 2, none⟩ = some (.slice k.A k.n k.c) ∧ w.cell? ⟨b, o + 3, none⟩ = some (.slice k.B k.m k.d) ∧ w.cell? ⟨b, o + 4, none⟩ = some (.int .u64 a.stamp) ∧ AnR w k a
def Anss (w : World) (A : Option Addr) (n : Nat) (L : List An) : Prop :=
  L.length = n ∧ n ≤ maxLen ∧ (0 < n → ∃ b o, A = some ⟨b, o, none⟩ ∧ b < w.heap.size ∧ ∀ j, j < n → AnAt w b (o + j * 5) (aq L j))
theorem AnAt.below {w w' : World} {b o : Nat} {a : An} (h : AnAt w b o a) (hl : b < w.heap.size) (hb : Below w.heap.size w w') : AnAt w' b o a := by
  obtain ⟨k, k0, k1, k2, k3, k4, hr⟩ := h
  exact ⟨k, (hb.cell (p := ⟨b, o, none⟩) hl).trans k0, (hb.cell (p := ⟨b, o + 1, none⟩) hl).trans k1, (hb.cell (p := ⟨b, o + 2, none⟩) hl).trans k2, (hb.cell (p := ⟨b, o + 3, none⟩) hl).trans k3, (hb.cell (p := ⟨b, o + 4, none⟩) hl).trans k4, hr.below hb⟩
theorem Anss.below {w w' : World} {A : Option Addr} {n : Nat} {L : List An} (h : Anss w A n L) (hb : Below w.heap.size w w') : Anss w' A n L :=
  ⟨h.1, h.2.1, fun h0 => by
    obtain ⟨b, o, e, hl, hj⟩ := h.2.2 h0
    exact ⟨b, o, e, Nat.lt_of_lt_of_le hl hb.size, fun j hjn => (hj j hjn).below hl hb⟩⟩
theorem Anss.at_ {w : World} {A : Option Addr} {n j : Nat} {L : List An} (h : Anss w A n L) (hj : j < n) : ∃ b o, A = some ⟨b, o, none⟩ ∧ b < w.heap.size ∧ AnAt w b (o + j * 5) (aq L j) := by
  obtain ⟨b, o, e, hb, hp⟩ := h.2.2 (by omega)
  exact ⟨b, o, e, hb, hp j hj⟩

/-- What Apply tells, and leaves. -/
def zipA (g : Gr) (L : List An) : List Ry := (g.zip L).map fun q => (q.1.1, q.2)
def applyK (T : List Gr) (m : Nat) : Int := match T with | [] => 10 | g :: _ => if m = g.length then 0 else 1
def applyT (T : List Gr) (m : Nat) : List Gr := match T with | [] => [] | g :: T' => if m = g.length then T' else g :: T'
def applyR (T : List Gr) (R : List Ry) (L : List An) : List Ry := match T with | [] => R | g :: _ => if L.length = g.length then R ++ zipA g L else R
theorem zipA_len {g : Gr} {L : List An} (h : L.length = g.length) : (zipA g L).length = g.length := by unfold zipA; simp [h]
theorem zipA_take {g : Gr} {L : List An} {j : Nat} (h : L.length = g.length) (hj : j < g.length) : (zipA g L).take (j + 1) = (zipA g L).take j ++ [(it (g.map Prod.fst) j, aq L j)] := by
  have hj2 : j < (zipA g L).length := by rw [zipA_len h]; exact hj
  rw [List.take_add_one, List.getElem?_eq_getElem hj2]
  have e : (zipA g L)[j] = ((g[j]).1, L[j]'(by omega)) := by simp only [zipA, List.getElem_map, List.getElem_zip]
  rw [e]
  unfold it aq
  simp [hj, show j < L.length by omega]

/-- One answer more. -/
theorem JM.more {C : Nat → Prop} {w w3 wa w5 : World} {N p : Nat} {vt vr v5 : Value} {T : List Gr} {R : List Ry} {ys : List Value} {x : Ry} {k : Sh} (h : JM C w N p vt vr T R) (hr : ReadsY (fun b => C b ∧ Jo p vt vr b) w ys R) (h3 : Below w.heap.size w w3)
    (hx : On (w.heap.size ≤ ·) w3 (AnR · k x.2)) (ha : Below w3.heap.size w3 wa) (hown : w5.ownsRow N 78 6 v5 (R.length + 1) (ys ++ ryC k x)) (hg : wa.grownBy w5 vr.ownBlock) (hat : vr.ownBlock = v5.ownBlock ∨ v5.ownBlock = some wa.heap.size) (hC : ∀ b, w.heap.size ≤ b → C b) :
    JM C (w5.setCell ⟨p, 1, none⟩ v5) N p vt v5 T (R ++ [x]) ∧ Kp (Jo p vt vr) (Jo p vt v5) w (w5.setCell ⟨p, 1, none⟩ v5) := by
  have hpl := h.lt
  have h3s := h3.size
  have has := ha.size
  have hR := h.ltr
  have hT := h.ltt
  have hgs := hg.size
  have new : ∀ b, b < wa.heap.size → Off vr b → Off v5 b := fun b hb ho q hq => by
    rcases hat with e | e
    · exact ho q (by rw [e]; exact hq)
    · rw [e] at hq; injection hq with hq; omega
  have hblk : ∀ b, b < w.heap.size → Off vr b → w5.heap[b]? = w.heap[b]? := fun b hb ho => (hg.block b (by omega) (fun e => ho b e.symm rfl)).trans ((ha.block b (by omega)).trans (h3.block b hb))
  have hk : Kp (Jo p vt vr) (Jo p vt v5) w (w5.setCell ⟨p, 1, none⟩ v5) := by
    refine ⟨hg.os.trans (ha.os.trans h3.os), hg.tape.trans (ha.tape.trans h3.tape), hg.output.trans (ha.output.trans h3.output), by simp [World.setCell]; omega, fun b hb hj => ?_, fun b hb hj => ⟨hj.1, hj.2.1, new b (by omega) hj.2.2⟩⟩
    rw [Below.heap_setCell _ _ _ _ hj.1]
    exact hblk b hb hj.2.2
  have hag : Agree (fun b => b ≠ p ∧ Off vr b) w (w5.setCell ⟨p, 1, none⟩ v5) := ⟨hk.size, fun b hb hl => by rw [Below.heap_setCell _ _ _ _ hb.1]; exact hblk b hl hb.2⟩
  have h5p : ∀ b, v5.ownBlock = some b → b ≠ p := fun b hb e => by
    rcases hat with e2 | e2
    · exact h.pr b (by rw [e2]; exact hb) e.symm
    · rw [e2] at hb; injection hb with hb; omega
  obtain ⟨xs, h1, h2⟩ := h.todo
  refine ⟨⟨?_, h.np, ⟨xs, own_agree h1 hag (fun b hb => ⟨fun e => h.pt b hb e.symm, h.tr b hb⟩), h2.imp fun Q ho => hk.on ho (fun b hb => hb.2) fun b hb _ hn => ⟨hb.1, hn⟩⟩,
    ⟨ys ++ ryC k x, ?_, ?_⟩, h.pt, new p (by omega) h.pr, fun b hb => new b (by have := (hT b hb).2; omega) (h.tr b hb)⟩, hk⟩
  · have e1 : w5.heap[p]? = some (.cells [vt, vr].toArray 66 (0, 0)) := (hblk p hpl h.pr).trans h.obj
    exact set_obj v5 e1
  · rw [show (R ++ [x]).length = R.length + 1 by simp]
    exact own_agree (C := fun b => b ≠ p) hown (agree_set w5 ⟨p, 1, none⟩ v5 (by simp)) h5p
  · refine ReadsY.more (hr.imp fun Q ho => hk.on ho (fun b hb => hb.2) fun b hb _ hn => ⟨hb.1, hn⟩) ?_
    have hag3 : Agree (fun b => w.heap.size ≤ b ∧ b < w3.heap.size) w3 (w5.setCell ⟨p, 1, none⟩ v5) := ⟨by simp [World.setCell]; omega, fun b hb hl => by
      rw [Below.heap_setCell _ _ _ _ (by show b ≠ p; omega)]
      exact (hg.block b (by omega) (fun e => by have := (hR b e.symm).2; omega)).trans (ha.block b hl)⟩
    exact ((hx.now).keep hag3).mono fun b hb => ⟨hC b hb.1, by omega, fun q hq e => by have := (hT q hq).2; omega, new b (by have := hb.2; omega) (fun q hq e => by have := (hR q hq).2; omega)⟩
/-- The first group is done with. -/
theorem JM.cut {C : Nat → Prop} {w w2 : World} {N p t cap : Nat} {vr : Value} {g : Gr} {T : List Gr} {R : List Ry} {xs : List Value} (h : JM C w N p (.slice (some ⟨t, 0, none⟩) (T.length + 1) cap) vr (g :: T) R)
    (hr : ReadsG (fun b => C b ∧ Jo p (.slice (some ⟨t, 0, none⟩) (T.length + 1) cap) vr b) w xs (g :: T)) (hown : w2.ownsRow N 72 2 (.slice (some ⟨t, 0, none⟩) T.length cap) T.length (xs.drop 2)) (hg : w.grownBy w2 (some t)) :
    JM C (w2.setCell ⟨p, 0, none⟩ (.slice (some ⟨t, 0, none⟩) T.length cap)) N p (.slice (some ⟨t, 0, none⟩) T.length cap) vr T R ∧
      Kp (Jo p (.slice (some ⟨t, 0, none⟩) (T.length + 1) cap) vr) (Jo p (.slice (some ⟨t, 0, none⟩) T.length cap) vr) w (w2.setCell ⟨p, 0, none⟩ (.slice (some ⟨t, 0, none⟩) T.length cap)) := by
  have hpl := h.lt
  have htp : t ≠ p := fun e => h.pt t rfl e.symm
  have hk : Kp (Jo p (.slice (some ⟨t, 0, none⟩) (T.length + 1) cap) vr) (Jo p (.slice (some ⟨t, 0, none⟩) T.length cap) vr) w (w2.setCell ⟨p, 0, none⟩ (.slice (some ⟨t, 0, none⟩) T.length cap)) := by
    refine ⟨hg.os, hg.tape, hg.output, by simpa [World.setCell] using hg.size, fun k hk hj => ?_, fun k _ hj => hj⟩
    rw [Below.heap_setCell _ _ _ _ hj.1]
    exact hg.block k hk (fun e => hj.2.1 t rfl (Option.some.inj e))
  have hag : Agree (fun b => b ≠ p ∧ b ≠ t) w (w2.setCell ⟨p, 0, none⟩ (.slice (some ⟨t, 0, none⟩) T.length cap)) :=
    ((agree_grown (C := fun b => b ≠ t) hg fun k hk hc => hc (Option.some.inj hk).symm).mono fun b hb => hb.2).trans (agree_set _ _ _ (fun hc => hc.1 rfl))
  obtain ⟨ys, h1, h2⟩ := h.ready
  refine ⟨⟨?_, h.np, ⟨xs.drop 2, own_agree (C := fun b => b ≠ p) hown (agree_set w2 ⟨p, 0, none⟩ _ (by simp)) (fun k hk' => by have e : t = k := Option.some.inj hk'; omega), hr.tail.imp fun Q ho => hk.on ho (fun b hb => hb.2) fun b hb _ hn => ⟨hb.1, hn⟩⟩,
    ⟨ys, own_agree h1 hag (fun k hk' => ⟨fun e => h.pr k hk' e.symm, fun e => h.tr t rfl k hk' e.symm⟩), h2.imp fun Q ho => hk.on ho (fun b hb => hb.2) fun b hb _ hn => ⟨hb.1, hn⟩⟩, h.pt, h.pr, h.tr⟩, hk⟩
  have e1 : w2.heap[p]? = some (.cells [.slice (some ⟨t, 0, none⟩) (T.length + 1) cap, vr].toArray 66 (0, 0)) := (hg.block p hpl (fun e => htp (Option.some.inj e).symm)).trans h.obj
  exact set_obj _ e1

theorem six_cells {w : World} {x0 x1 x2 x3 x4 x5 : Value} {T : TypeId} {N : Nat} (h : w.heap.size = N) : ∀ j u, [x0, x1, x2, x3, x4, x5][j]? = some u → (w.alloc (.cells #[x0, x1, x2, x3, x4, x5] T)).cell? ((⟨N, 0, none⟩ : Addr).add j) = some u := by
  subst h
  intro j u hu
  rcases j with _ | _ | _ | _ | _ | _ | j
  all_goals first | (simp at hu; done) | (simp at hu; subst hu; simp [Addr.add])
theorem ryC_one (k : Sh) (x : Ry) : ∀ u ∈ ryC k x, u.oneCell' = true := by
  intro u hu
  simp [ryC] at hu
  rcases hu with rfl | rfl | rfl | rfl | rfl | rfl <;> rfl

set_option maxHeartbeats 16000000 in
theorem apply_any {C : Nat → Prop} {w : World} {N p n : Nat} {A : Option Addr} (c : Nat) {vt vr : Value} {T : List Gr} {R : List Ry} {L : List An} (h : JM C w N p vt vr T R) (hok : OkJ T R) (hC : ∀ b, w.heap.size ≤ b → C b) (ha : On (Jo p vt vr) w (Anss · A n L)) (hs : ∀ j, j < n → SmA (aq L j)) :
    Calls Try.prog 12 #[.pointer (some ⟨p, 0, none⟩), .slice A n c] w (JdO C w N p vt vr (applyK T n) (applyT T n) (applyR T R L)) := by
  have H := Lib.hid h
  have hnl : n = L.length := ha.here.1.symm
  obtain ⟨c0, -, -, -⟩ := h.cells
  cases T with
  | nil =>
    obtain ⟨A', c', B, d, rfl, -⟩ := h.shape
    dsimp only [List.length_nil] at c0
    clear h hok hC ha hs hnl
    go_enter Try.func12, Try.ntmps12
    go_wp2
    go_ret
    exact ⟨_, _, rfl, H.out, Kp.refl _ _⟩
  | cons g T =>
    obtain ⟨t, cap, ev, htl, htp, A1, n1, c1, B1, m1, d1, k0, k1, r1, r2⟩ := h.group (j := 0) (by simp)
    have r1 : On (fun b => C b ∧ Jo p vt vr b) w (Ils · A1 n1 (g.map Prod.fst)) := r1
    have hn1 : n1 = g.length := by have := r1.here.1; simp at this; omega
    subst hn1
    subst ev
    rw [show (g :: T).length = T.length + 1 from rfl] at *
    simp only [Nat.zero_mul, Nat.zero_add] at k0 k1
    have hne : ¬ (T.length + 1 = 0) := by omega
    have hz : (((T.length : Int) + 1) == 0) = false := by simp; omega
    have hlt0 : (0 : Int) < (T.length : Int) + 1 := by omega
    by_cases hng : n = g.length
    · have hK : applyK (g :: T) n = 0 := if_pos hng
      have hT : applyT (g :: T) n = T := if_pos hng
      have hR : applyR (g :: T) R L = R ++ zipA g L := if_pos (by omega)
      rw [hK, hT, hR]
      have hzn : ((n : Int) != (g.length : Int)) = false := by simp; omega
      have hfew : g.length + R.length ≤ 32 := by have := hok.few; rw [sizeT_cons] at this; omega
      have hTl : T.length ≤ 32 := by have := hok.len; simp at this; omega
      have hlg : L.length = g.length := by omega
      have HZL := Lib.hid (And.intro (zipA_len hlg) (fun j (hj : j < g.length) => zipA_take hlg hj))
      have HA := Lib.hid ha
      have HS := Lib.hid hs
      have HSL := Lib.hid r1
      have HC := Lib.hid hC
      obtain ⟨i0, hi, hz0, hz1, hz2⟩ := info_parts Try.infoRy
      have HI := Lib.hid hi
      have HZ := Lib.hid (And.intro hz0 (And.intro hz1 hz2))
      obtain ⟨gl, hgl⟩ : ∃ gl, gl = g.length := ⟨_, rfl⟩
      rw [← hgl] at k0 hzn hfew HZL HSL hng
      subst hng
      clear h hok hC ha hs hnl r1 r2 k1 hK hT hR hi hz0 hz1 hz2 hlg hgl
      have hwN : w.heap.size ≤ w.heap.size := Nat.le_refl _
      go_enter Try.func12, Try.ntmps12
      go_wp2
      clear c0 k0
      go_loopw [30] (fun s wr => ∃ j : Nat, j ≤ n ∧ s = .int .i64 j ∧ ∃ v, JM C wr N p (.slice (some ⟨t, 0, none⟩) (T.length + 1) cap) v (g :: T) (R ++ (zipA g L).take j) ∧ Kp (Jo p (.slice (some ⟨t, 0, none⟩) (T.length + 1) cap) vr) (Jo p (.slice (some ⟨t, 0, none⟩) (T.length + 1) cap) v) w wr) (fun s _ => n - (intOf s).toNat)
      case atStart => exact ⟨0, Nat.zero_le _, rfl, vr, by rw [List.take_zero, List.append_nil]; exact H.out, Kp.refl _ _⟩
      case round =>
        clear H
        obtain ⟨j, hj, rfl, v, hm, hkp⟩ := hrel
        have HM := Lib.hid hm
        have HK := Lib.hid hkp
        clear hm hkp
        by_cases hlt : j < n
        · have hra := (HK.out.on HA.out (fun b hb => hb) (D' := Jo p (.slice (some ⟨t, 0, none⟩) (T.length + 1) cap) v) (fun b _ _ hn => hn))
          obtain ⟨ab, ao, rfl, hal, k, y0, y1, y2, y3, y4, hr⟩ := hra.here.at_ hlt
          have hsl := (HK.out.on HSL.out (fun b hb => hb.2) (D' := Jo p (.slice (some ⟨t, 0, none⟩) (T.length + 1) cap) v) (fun b _ _ hn => hn))
          obtain ⟨sb, so, rfl, hsb, s0⟩ := hsl.here.at_ hlt
          have hsm := HS.out j hlt
          obtain ⟨a, haa⟩ : ∃ a, a = aq L j := ⟨_, rfl⟩
          obtain ⟨s, hss⟩ : ∃ s, s = it (g.map Prod.fst) j := ⟨_, rfl⟩
          rw [← haa] at y0 y1 y4 hr hsm
          rw [← hss] at s0
          have HTK := Lib.hid (show (zipA g L).take (j + 1) = (zipA g L).take j ++ [(s, a)] by rw [HZL.out.2 j hlt, hss, haa])
          have hzl : (R ++ (zipA g L).take j).length = R.length + j := by rw [List.length_append, List.length_take, HZL.out.1]; omega
          have HZJ := Lib.hid hzl
          have HRR := Lib.hid hr
          have HSA := Lib.hid hsm
          have HWX := Lib.hid (box_a wr k a)
          clear hra hsl haa hss hr hsm hzl
          go_upto_region 9 with fail
          obtain ⟨W, hW, hWB, hWA, hWs⟩ := HWX.out
          rw [← hW]
          have HWB := Lib.hid hWB
          have HMW := Lib.hid (HM.out.below hWB)
          have hpl := HMW.out.lt
          obtain ⟨q0, q1, q2, q3, q4⟩ := hWA.cells
          have s0 := (hWB.cell (p := ⟨sb, so + j, none⟩) hsb).trans s0
          have hsbW : sb < W.heap.size := by omega
          have D := Lib.hid (copya_lit (w := W.drew) (show AnR W.drew k a from HRR.out.below hWB.drew) HSA.out)
          obtain ⟨-, p1, -, f1⟩ := HMW.out.cells
          obtain ⟨ys, hown, hrd⟩ := HMW.out.ready
          rw [HZJ.out] at hown
          have HO := Lib.hid hown
          have HRD := Lib.hid hrd
          have HNB := Lib.hid (show some p ≠ v.ownBlock from fun e => HMW.out.pr p e.symm rfl)
          have HK1 := Lib.hid (And.intro p1 (And.intro f1 s0))
          have hbW : wr.heap.size < W.heap.size := by omega
          have hNp : N ≤ W.heap.size := by have := HMW.out.np; omega
          have HNP := Lib.hid hNp
          clear hW hWB hWA hWs HWX y0 y1 y2 y3 y4 hown hrd HM hNp
          go_region_law (first
            | (go_simp
               go_at_call 30
               (with_reducible refine D.out.mono ?_)
               rintro e w3 ⟨h3, rfl, on3, hb3⟩
               have hb3 : Below W.heap.size W w3 := undrew hb3
               have hl3 := hb3.size
               have hne3 : ¬ (p = w3.heap.size) := by omega
               have p1 := (hb3.cell (p := ⟨p, 1, none⟩) hpl).trans HK1.out.1
               have f1 := (hb3.frozen (p := ⟨p, 1, none⟩) hpl).trans HK1.out.2.1
               have s0 := (hb3.cell (p := ⟨sb, so + j, none⟩) hsbW).trans HK1.out.2.2
               have oa : ∀ o : Obj, (w3.alloc o).cell? ⟨p, 1, none⟩ = some v := fun o => (World.cell?_alloc_lt w3 o ⟨p, 1, none⟩ (show p < w3.heap.size by omega)).trans p1
               have HB3 := Lib.hid hb3
               have HON := Lib.hid on3
               have HO3 := Lib.hid ((own_keep HO.out (hb3.mono (Nat.le_refl _))).alloc (.cells #[.int .i64 s, .int .i64 a.code, .bool a.found, .slice h3.A h3.n h3.c, .slice h3.B h3.m h3.d, .int .u64 a.stamp] 78))
               clear on3 hb3
               go_wp2_with fail)
            | ((refine step_append_lies _ (by rfl) _ _ 64 (by rfl) N 78 i0 (.agg #[.int .i64 0, .int .i64 0, .bool false, .slice none 0 0, .slice none 0 0, .int .u64 0]) 6 80 Try.underlying64 HI.out HZ.out.1 HZ.out.2.1 HZ.out.2.2 (by rfl) (by decide) v (R.length + j) ys (by rfl) HO3.out ⟨w3.heap.size, 0, none⟩ 1 1 (ryC h3 (s, a)) (by rfl) (by rfl) (six_cells rfl) (ryC_one h3 (s, a)) (by omega) (by unfold maxLen; omega) (by omega) (by rw [alloc_sz]; have := HNP.out; omega) (w3.heap.size + 1) (by simp) ?_
                intro p' cap5 w5 hown5 hgrow5 hat5 hlt5
                have hal := (Below.refl w3.heap.size w3).alloc (Nat.le_refl _) (.cells #[.int .i64 s, .int .i64 a.code, .bool a.found, .slice h3.A h3.n h3.c, .slice h3.B h3.m h3.d, .int .u64 a.stamp] 78)
                have f1 := ((hgrow5.frozen_far ⟨p, 1, none⟩ (by rw [alloc_sz]; show p < _; omega) HNB.out).trans (hal.frozen (p := ⟨p, 1, none⟩) (show p < w3.heap.size by omega))).trans f1
                have p1 := ((hgrow5.cell_far ⟨p, 1, none⟩ (by rw [alloc_sz]; show p < _; omega) HNB.out).trans (hal.cell (p := ⟨p, 1, none⟩) (show p < w3.heap.size by omega))).trans p1
                have HG5 := Lib.hid (And.intro hown5 (And.intro hgrow5 (And.intro hat5 (And.intro hlt5 hal))))
                clear hown5 hgrow5 hat5 hlt5 hal)))
          all_goals
            have HNX := Lib.hid (HMW.out.more (v5 := .slice (some ⟨p', 0, none⟩) (R.length + j + 1) cap5) (k := h3) (x := (s, a)) (w3 := w3) (w5 := w5) HRD.out HB3.out HON.out HG5.out.2.2.2.2 (by rw [HZJ.out]; exact HG5.out.1) HG5.out.2.1 (by
              rcases HG5.out.2.2.1 with e | e
              · exact .inl e
              · right; rw [e, alloc_sz]; rfl) (fun b hb => HC.out b (by have := HK.out.size; omega)))
            have HKX := Lib.hid ((HK.out.trans (below_kp HWB.out)).trans HNX.out.2)
            have HE := Lib.hid (show R ++ (zipA g L).take (j + 1) = R ++ (zipA g L).take j ++ [(s, a)] by rw [HTK.out, List.append_assoc])
            clear HG5 HON HB3 HO3 D HRR HK1 HNB HRD HO HMW HK HWB
            go_wp2
            go_roundw
            case rel => exact ⟨j + 1, by omega, by go_num, _, by rw [HE.out]; exact HNX.out.1, HKX.out⟩
            case measure => simp [intOf]; omega
        · obtain rfl : j = n := by omega
          obtain ⟨xs, h1, h2⟩ := HM.out.todo
          have h1 : wr.ownsRow N 72 2 (.slice (some ⟨t, 0, none⟩) (T.length + 1) cap) (T.length + 1) xs := h1
          have D := Lib.hid (delGr h1 (by omega) (readsG_one h2))
          have HX := Lib.hid h2
          have HE := Lib.hid (show R ++ (zipA g L).take j = R ++ zipA g L by rw [List.take_of_length_le (by rw [HZL.out.1]; exact Nat.le_refl _)])
          obtain ⟨p0, -, f0, -⟩ := HM.out.cells
          have HP0 := Lib.hid (And.intro p0 f0)
          have hpl := HM.out.lt
          clear h1 h2
          go_wp2_with fail
          refine D.out.mono ?_
          rintro e w2 ⟨rfl, hown, hg⟩
          have HT := Lib.hid (HM.out.cut HX.out hown hg)
          have p0 := (hg.cell_far ⟨p, 0, none⟩ hpl (fun e => htp (Option.some.inj e).symm)).trans HP0.out.1
          have f0 := (hg.frozen_far ⟨p, 0, none⟩ hpl (fun e => htp (Option.some.inj e).symm)).trans HP0.out.2
          clear hown hg D
          go_wp2
          go_ret
          exact ⟨_, _, rfl, by rw [← HE.out]; exact HT.out.1, HK.out.trans HT.out.2⟩
    · have hK : applyK (g :: T) n = 1 := if_neg hng
      have hT : applyT (g :: T) n = g :: T := if_neg hng
      have hR : applyR (g :: T) R L = R := if_neg (by omega)
      rw [hK, hT, hR]
      have hzn : ((n : Int) != (g.length : Int)) = true := by simp; omega
      obtain ⟨gl, hgl⟩ : ∃ gl, gl = g.length := ⟨_, rfl⟩
      rw [← hgl] at k0 hzn
      clear h hok hC ha hs hnl r1 r2 k1 hK hT hR hgl hng
      go_enter Try.func12, Try.ntmps12
      go_wp2
      go_ret
      exact ⟨_, _, rfl, H.out, Kp.refl _ _⟩
end Go.Proofs.Ythcchaglloggjaa
