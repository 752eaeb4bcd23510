/- The law's own look at a leaf. Condition: a sound one, in its range. -/
import Derived.Test.YthbmchkbebneiaaG7
namespace Go.Proofs.Ythbmchkbebneiaa
open Go.RowKit
set_option linter.unusedVariables false
set_option maxRecDepth 100000

def LkOut (w : World) (S : Nat → Prop) (xb tb : Nat) (s : LkS) (e : Ending) (w' : World) : Prop :=
  e = .returned (.tuple #[]) ∧ ∃ S', LkM w' S' xb tb s ∧ (∀ b, S' b → S b ∨ w.heap.size ≤ b) ∧ Only S w w'

theorem undrew_grown {w w' : World} {row : Option Nat} (h : w.drew.grownBy w' row) : w.grownBy w' row := ⟨h.os, h.tape, h.output, h.size, h.block⟩
theorem setcell_size (w : World) (a : Addr) (u : Value) : (w.setCell a u).heap.size = w.heap.size := by simp [World.setCell]
theorem cell_one {wr : World} (u : Value) (T : TypeId) (hu : u.oneCell' = true) : (∀ j v, [u][j]? = some v → (wr.alloc (.cells #[u] T)).cell? ((⟨wr.heap.size, 0, none⟩ : Addr).add j) = some v) ∧ ∀ v ∈ [u], v.oneCell' = true := by
  refine ⟨fun j v hj => ?_, fun v hv => by simp at hv; rw [hv]; exact hu⟩
  have hj0 : j = 0 := by have := (List.getElem?_eq_some_iff.1 hj).1; simp at this; omega
  subst hj0
  simp at hj
  subst hj
  rw [add_lit]
  simp
/-- What the leaf's own loop leaves as it was. -/
structure LfI (w W : World) (xb tb : Nat) (vL vN vP : Value) (s : LkS) (wr : World) : Prop where
  lk : LkIn wr xb tb vL vN vP s
  only : Only (LkSet xb vL vN vP) W wr
theorem LfI.keep {w W wr wr' : World} {xb tb : Nat} {vL vN vP : Value} {s : LkS} (h : LfI w W xb tb vL vN vP s wr) (hb : Below wr.heap.size wr wr') : LfI w W xb tb vL vN vP s wr' := ⟨h.lk.below hb, h.only.trans (below_only hb)⟩
theorem LfI.store {w W wr : World} {xb tb : Nat} {vL vN vP : Value} {s : LkS} (h : LfI w W xb tb vL vN vP s wr) : LfI w W xb tb vL vN vP s (wr.setCell ⟨xb, 6, none⟩ (.bool false)) := ⟨h.lk.good, h.only.set _ _ (.inr (.inl rfl))⟩

set_option maxHeartbeats 8000000 in
theorem lkleaf_any {w : World} {D : Nat → Prop} {tb g : Nat} {L : List (Option Nd)} {F : List Nat} {root m many : Nat} {S : Nat → Prop} {xb : Nat} {s : LkS} (hT : TrM w D tb g L F root m many) (hK : LkM w S xb tb s) (hdis : ∀ b, S b → ¬ D b ∧ b ≠ tb) {h : Nh} {x : Nd}
    (hr : On (fun b => ¬ S b) w (NdR · h x)) (hx : Fit x.pairs) (i : Nat) (h1 : x.pairs.length ≤ m) (h2 : i ≠ root → m / 2 ≤ x.pairs.length) (hm : m ≤ 16) {lo hi : Ky} (hin : ∀ p ∈ x.pairs, inR lo hi p.1) {A1 B1 : Option Addr} {n1 m1 : Nat} (c1 d1 : Nat)
    (hlo : On (fun b => ¬ S b) w (Byt · A1 n1 lo)) (hhi : On (fun b => ¬ S b) w (Byt · B1 m1 hi)) (hn1 : n1 ≤ 16) (hm1 : m1 ≤ 16) (dd : Nat) (hd : s.dep = 0 ∨ s.dep = dd) (hdd : dd ≤ 100) (hl5 : s.lv.length ≤ 5000) (hn5 : s.nx.length ≤ 5000) (hp5 : s.ps.length ≤ 5000) :
    Calls Try.prog 54 #[.pointer (some ⟨xb, 0, none⟩), .int .i64 i, ndV h x, .agg #[.slice A1 n1 c1, .slice B1 m1 d1], .int .i64 dd] w (LkOut w S xb tb { s with lv := s.lv ++ [i], nx := s.nx ++ [x.next], ps := s.ps ++ x.pairs, dep := dd }) := by
  obtain ⟨vL, vN, vP, rfl, hK⟩ := hK
  obtain ⟨A, n, c, B, mk, dk, K, kk, ee⟩ := h
  have hlen : x.pairs.length = n := hr.here.1.1
  have hSlt := hK.lt
  have WS := Lib.hid (fun u => two_new (w.setCell ⟨xb, 5, none⟩ u) (.cells #[.bool x.leaf, .slice A n c, .slice B mk dk, .slice K kk ee, .int .i64 x.next] 74) (.cells #[.slice A1 n1 c1, .slice B1 m1 d1] 53))
  have WN := Lib.hid (two_new w (.cells #[.bool x.leaf, .slice A n c, .slice B mk dk, .slice K kk ee, .int .i64 x.next] 74) (.cells #[.slice A1 n1 c1, .slice B1 m1 d1] 53))
  have HK := Lib.hid hK
  have HT := Lib.hid hT
  have HD := Lib.hid (And.intro hdis hSlt)
  have HR := Lib.hid (And.intro hr (And.intro hlo hhi))
  have HX := Lib.hid (And.intro hx (And.intro hin hlen))
  have hnm : n ≤ m := by omega
  have hnr : i ≠ root → m / 2 ≤ n := fun e => by have := h2 e; omega
  clear hT hdis hr hlo hhi hx hin hlen h1 h2 hSlt
  obtain ⟨-, -, -, -, -, k5, -, kf⟩ := hK.cells
  have kf5 := kf 5
  have hxl : xb < w.heap.size := hK.lt xb (.inl rfl)
  clear hK kf
  by_cases hd0 : s.dep = 0
  case' pos =>
    have k5' : w.cell? ⟨xb, 5, none⟩ = some (.int .i64 0) := by rw [k5, hd0]; rfl
    have HD0 := Lib.hid hd0
    clear k5 hd0 hd
    go_enter Try.func54, Try.ntmps54
    go_wp2_with fail
    obtain ⟨W, hW, hWB, hWs, hW0, hW1⟩ := WS.out (.int .i64 dd)
    rw [← hW]
    rw [setcell_size] at hWB hWs hW0 hW1
    obtain ⟨hO, hI1⟩ : Only (LkSet xb vL vN vP) w W ∧ LfI w W xb tb vL vN vP { s with dep := dd } W := ⟨((Only.refl _ w).set _ _ (.inr (.inl rfl))).trans ⟨hWB.os, hWB.tape, hWB.output, hWB.size, fun k hk _ => hWB.block k (by rwa [setcell_size] at hk)⟩, (HK.out.depth dd).below (by rw [setcell_size]; exact hWB), Only.refl _ _⟩
  case' neg =>
    have hdd0 : s.dep = dd := by omega
    have k5' : w.cell? ⟨xb, 5, none⟩ = some (.int .i64 dd) := by rw [k5, hdd0]
    have hdz : ((dd : Int) == 0) = false := by simp; omega
    have HD0 := Lib.hid hdd0
    clear k5 hd0 hd hdd0
    go_enter Try.func54, Try.ntmps54
    go_wp2_with fail
    obtain ⟨W, hW, hWB, hWs, hW0, hW1⟩ := WN.out
    rw [← hW]
    obtain ⟨hO, hI1⟩ : Only (LkSet xb vL vN vP) w W ∧ LfI w W xb tb vL vN vP { s with dep := dd } W := ⟨below_only hWB, by rw [← HD0.out]; exact HK.out.below hWB, Only.refl _ _⟩
  all_goals
    have HO := Lib.hid hO
    have HWX := Lib.hid (And.intro hWs (And.intro hW0 hW1))
    clear k5' kf5 hxl hW WS WN hWB hWs hW0 hW1 hO
    have HI1 := Lib.hid hI1
    have hag : Agree (fun b => ¬ LkSet xb vL vN vP b) w W := HO.out.agree (fun b hb => hb)
    have HAG := Lib.hid hag
    have hb0 := (hI1.only.block w.heap.size (by have := HWX.out.1; omega) (fun hs => by have := HD.out.2 _ hs; omega)).trans HWX.out.2.1
    obtain ⟨d0, d1', d2, d3, d4, -⟩ := five hb0
    have HP1 := Lib.hid ((HR.out.1.keep hag).here.1)
    have HIs := ris_any HP1.out (small_fit HX.out.1)
    rw [HX.out.1.is] at HIs
    clear hI1 hag hb0
    refine HIs.mono ?_
    rintro e W2 ⟨rfl, hdr⟩
    obtain ⟨k, rfl⟩ := hdr
    have HI2 := Lib.hid (HI1.out.keep (below_drewN (Below.refl _ _) k))
    clear HIs d0 d1' d2 d3 d4
    obtain ⟨W2, hW2, hI2⟩ : ∃ W2, W2 = W.drewN k ∧ LfI w W xb tb vL vN vP { s with dep := dd } W2 := ⟨_, rfl, HI2.out⟩
    rw [← hW2]
    clear hW2 HI2 HP1
    have HI2 := Lib.hid hI2
    obtain ⟨k0, k1, k2, k3, k4, k5, k6, kf⟩ := hI2.lk.cells
    have hb0 := (hI2.only.block w.heap.size (by have := HWX.out.1; omega) (fun hs => by have := HD.out.2 _ hs; omega)).trans HWX.out.2.1
    obtain ⟨d0, d1', d2, d3, d4, -⟩ := five hb0
    have hT2 := HT.out.keep ((HO.out.trans hI2.only).agree (fun b hb hs => by
      have := HD.out.1 b hs
      rcases hb with hb | hb
      · exact this.1 hb
      · exact this.2 hb))
    obtain ⟨c0, c1', c2, c3, -, -⟩ := hT2.cells
    clear hI2 hb0 hT2
    have hir0 : (i : Int) = (root : Int) ∨ (i : Int) ≠ (root : Int) := by omega
    have hmax : Hid (n ≤ 1000) := Lib.hid (by omega)
    rcases hir0 with hir | hir
    case' inl =>
      have HIR := Lib.hid hir
      clear hnr hir
      go_wp2_with fail
      have hir := HIR.out
      have hgt : decide ((m : Int) < (n : Int)) = false := by simp; omega
      have hgt2 : decide (m < n) = false := by simp; omega
      have hne : ((i : Int) != (root : Int)) = false := by simp; omega
      have hne2 : (i != root) = false := by simp; omega
      clear hir
      go_quiet (fail)
      clear hgt hgt2 hne hne2 HIR
    case' inr =>
      have hq := Lib.hid (hnr (by omega))
      have HIR := Lib.hid hir
      clear hnr hir
      go_wp2_with fail
      have hir := HIR.out
      have hq := hq.out
      have hgt : decide ((m : Int) < (n : Int)) = false := by simp; omega
      have hgt2 : decide (m < n) = false := by simp; omega
      have hne : ((i : Int) != (root : Int)) = true := by simp; omega
      have hne2 : (i != root) = true := by simp; omega
      have hq1 : decide ((n : Int) < (m : Int) / 2) = false := by simp; omega
      have hq2 : decide (n < m / 2) = false := by simp; omega
      clear hir hq
      go_quiet (fail)
      clear hgt hgt2 hne hne2 hq1 hq2 HIR
  all_goals
    obtain ⟨W3, hW3, hI3⟩ : ∃ W3, W3 = W2.drewN nq ∧ LfI w W xb tb vL vN vP { s with dep := dd } W3 := ⟨_, rfl, HI2.out.keep (below_drewN (Below.refl _ _) nq)⟩
    rw [← hW3]
    clear hW3 HI2 k0 k1 k2 k3 k4 k5 k6 kf d0 d1' d2 d3 d4 c0 c1' c2 c3
    have HI3 := Lib.hid hI3
    obtain ⟨k0, k1, k2, k3, k4, k5, k6, kf⟩ := hI3.lk.cells
    have kf6 := kf 6
    clear kf hI3
    go_wp2_with fail
    clear k0 k1 k2 k3 k4 k5 k6 kf6
    go_loopw [12] (fun k wr => ∃ j : Nat, k = .int .i64 (j : Nat) ∧ j ≤ n ∧ LfI w W xb tb vL vN vP { s with dep := dd } wr) (fun k _ => n + 1 - (intOf k).toNat)
    case atStart => exact ⟨0, rfl, Nat.zero_le _, HI3.out.store⟩
    case round =>
      obtain ⟨j, rfl, hj, hI⟩ := hrel
      clear HI3
      have HI := Lib.hid hI
      have hb0 := (hI.only.block w.heap.size (by have := HWX.out.1; omega) (fun hs => by have := HD.out.2 _ hs; omega)).trans HWX.out.2.1
      obtain ⟨d0, d1', d2, d3, d4, -⟩ := five hb0
      have hb1 := (hI.only.block (w.heap.size + 1) (by have := HWX.out.1; omega) (fun hs => by have := HD.out.2 _ hs; omega)).trans HWX.out.2.2
      obtain ⟨r0, r1, -, -⟩ := pair_cells hb1
      have hag : Agree (fun b => ¬ LkSet xb vL vN vP b) w wr := HAG.out.trans (hI.only.agree (fun b hb => hb))
      have HAG2 := Lib.hid hag
      have HX1 := Lib.hid (And.intro hb0 hb1)
      have hmx := hmax.out
      clear hI hb0 hb1 hag
      by_cases hjn : j < n
      case pos =>
        have hjI : (j : Int) < (n : Int) := by omega
        obtain ⟨b, o, A2, n2, c2, B2, m2, d2', rfl, q0, q1, y1, y2⟩ := prs_pair_on ((HR.out.1.imp fun v hv => hv.1).keep HAG2.out) hjn
        have HY := Lib.hid y1
        have hmem : gt x.pairs j ∈ x.pairs := gt_mem (by rw [HX.out.2.2]; exact hjn)
        have hin := HX.out.2.1 _ hmem
        have hfair := HX.out.1.2 _ hmem
        have hn2 : n2 ≤ 16 := by
          unfold fairB mayB at hfair
          simp at hfair
          have := y1.here.1
          omega
        have HIN := Lib.hid hin
        clear y1 y2 hmem hin hfair q1
        go_wp2_with fail
        go_still_tail 7, (by kernel_rfl)
        change wpList _ _ _ _ _ wr.drew
        have hdw : Agree (fun b => ¬ LkSet xb vL vN vP b) wr wr.drew := below_all ((Below.refl wr.heap.size wr).drew)
        have HC := rin_any (w := wr.drew) c1 d1 c2 (((HR.out.2.1).keep (HAG2.out.trans hdw)).here) (((HR.out.2.2).keep (HAG2.out.trans hdw)).here) ((HY.out.keep hdw).here) (by unfold maxLen; omega) (by unfold maxLen; omega) (by unfold maxLen; omega)
        rw [in_is HIN.out] at HC
        clear hdw
        go_wp2_with fail
        refine HC.mono ?_
        rintro e w3 ⟨rfl, hb3⟩
        have hI3 := HI.out.keep (undrew hb3)
        have HI3 := Lib.hid hI3
        obtain ⟨k0, k1, k2, k3, k4, k5, k6, kf⟩ := hI3.lk.cells
        have kf6 := kf 6
        clear kf hI3 HC hb3 d0 d1' d2 d3 d4 r0 r1 q0
        go_wp2
        go_roundw
        case rel => exact ⟨j + 1, rfl, by omega, HI3.out.store⟩
        case measure => simp [intOf]; omega
      case neg =>
        have hjI : ¬ ((j : Int) < (n : Int)) := by omega
        obtain ⟨k0, k1, k2, k3, k4, k5, k6, kf⟩ := HI.out.lk.cells
        have kf1 := kf 1
        clear kf
        obtain ⟨i0, hi, hz0, hz1, hz2⟩ := info_parts Try.infoInt
        have HZ := Lib.hid (And.intro hi (And.intro hz0 (And.intro hz1 hz2)))
        have HO := Lib.hid (HI.out.lk.rl.alloc (.cells #[.int .i64 i] 3))
        clear hi hz0 hz1 hz2
        go_wp2_with (at_builtin; refine wpList_append_lies _ rfl _ _ 47 rfl 0 3 i0 (.int .i64 0) 1 8 Try.underlying47 HZ.out.1 HZ.out.2.1 HZ.out.2.2.1 HZ.out.2.2.2 rfl (by decide) vL s.lv.length (s.lv.map natV) rfl HO.out ⟨wr.heap.size, 0, none⟩ 1 1 [.int .i64 i] rfl rfl (cell_one _ _ rfl).1 (cell_one (wr := wr) _ 3 rfl).2 (by omega) (by unfold maxLen; omega) (by omega) (Nat.zero_le _) (wr.heap.size + 1) (by simp) ?_)
        intro q' cap w4 hown hgrow hat hlt
        have hA := HI.out.lk.below ((Below.refl wr.heap.size wr).alloc (Nat.le_refl _) (.cells #[.int .i64 i] 3))
        have hob := grow_obj hgrow hA.xl hA.obj
        have k1' : w4.cell? ⟨xb, 1, none⟩ = some vL := by simp [World.cell?, hob]
        have kf1' : w4.frozen? ⟨xb, 1, none⟩ = false := by simp [World.frozen?, hob]
        have hL5 := hA.moreL (i := i) hown hgrow (hat.imp (fun e => e.symm) (fun e => by rw [e, alloc_sz]; rfl))
        have hO5 : Only (LkSet xb vL vN vP) W (w4.setCell ⟨xb, 1, none⟩ (.slice (some ⟨q', 0, none⟩) (s.lv.length + 1) cap)) := (HI.out.only.trans (below_only ((Below.refl wr.heap.size wr).alloc (Nat.le_refl _) (.cells #[.int .i64 i] 3)))).trans (grow_only hgrow (fun k hk => .inr (.inl hk)) (.inl rfl))
        have HL5 := Lib.hid hL5
        have HO5 := Lib.hid hO5
        have HV := Lib.hid (show ∀ k, (Value.slice (some ⟨q', 0, none⟩) (s.lv.length + 1) cap).ownBlock = some k → vL.ownBlock = some k ∨ w.heap.size ≤ k from fun k hk => by
          rcases hat with e | e
          · rw [← hk] ; exact .inl e
          · injection hk with hk
            have := HI.out.only.size; have := HWX.out.1
            rw [← hk]; show _ ∨ w.heap.size ≤ q'
            omega)
        clear hown hgrow hat hlt hA hob hL5 hO5 k0 k1 k2 k3 k4 k5 k6 kf1 d0 d1' d2 d3 d4 r0 r1 HX1 HAG2 HO HI
        go_wp2_with fail
        obtain ⟨w5, hw5, hL5, hO5⟩ : ∃ w5, w5 = w4.setCell ⟨xb, 1, none⟩ (.slice (some ⟨q', 0, none⟩) (s.lv.length + 1) cap) ∧ LkIn w5 xb tb (.slice (some ⟨q', 0, none⟩) (s.lv.length + 1) cap) vN vP ⟨s.lv ++ [i], s.nx, s.ps, s.nodes, dd⟩ ∧ Only (LkSet xb vL vN vP) W w5 := ⟨_, rfl, HL5.out, HO5.out⟩
        rw [← hw5]
        generalize (Value.slice (some ⟨q', 0, none⟩) (s.lv.length + 1) cap) = vL' at hL5 HV
        clear hw5 HL5 HO5 k1' kf1'
        have hb0 := (hO5.block w.heap.size (by have := HWX.out.1; omega) (fun hs => by have := HD.out.2 _ hs; omega)).trans HWX.out.2.1
        obtain ⟨d0, d1', d2, d3, d4, -⟩ := five hb0
        obtain ⟨k0, -, k2, k3, -, -, -, kf⟩ := hL5.cells
        have kf2 := kf 2
        have HA5 := Lib.hid (hL5.below ((Below.refl w5.heap.size w5).alloc (Nat.le_refl _) (.cells #[.int .i64 x.next] 3)))
        have HO5 := Lib.hid hO5
        clear hb0 hL5 hO5 kf k3 k0
        have ka2 := HA5.out.cells.2.2.1
        have hobx : w5.frozen? ⟨xb, 2, none⟩ = false := kf2
        go_region_law (first
          | ((refine step_append_lies _ (by rfl) _ _ 47 (by rfl) 0 3 i0 (.int .i64 0) 1 8 Try.underlying47 HZ.out.1 HZ.out.2.1 HZ.out.2.2.1 HZ.out.2.2.2 (by rfl) (by decide) vN s.nx.length (s.nx.map intV) (by rfl) HA5.out.rn ⟨w5.heap.size, 0, none⟩ 1 1 [.int .i64 x.next] (by rfl) (by rfl) (cell_one (wr := w5) _ 3 rfl).1 (cell_one (wr := w5) _ 3 rfl).2 (by omega) (by unfold maxLen; omega) (by omega) (Nat.zero_le _) (w5.heap.size + 1) (by simp) ?_
              intro q2 cap2 w6 hown hgrow hat hlt
              have hob := grow_obj hgrow HA5.out.xn HA5.out.obj
              have k2' : w6.cell? ⟨xb, 2, none⟩ = some vN := by simp [World.cell?, hob]
              have kf2' : w6.frozen? ⟨xb, 2, none⟩ = false := by simp [World.frozen?, hob]
              have HG6 := Lib.hid (And.intro hown (And.intro (undrew_grown hgrow) hat))
              clear hown hgrow hat hlt hob)))
        all_goals
          obtain ⟨w7, hw7, hL7, hO7⟩ : ∃ w7, w7 = w6.setCell ⟨xb, 2, none⟩ (.slice (some ⟨q2, 0, none⟩) (s.nx.length + 1) cap2) ∧ LkIn w7 xb tb vL' (.slice (some ⟨q2, 0, none⟩) (s.nx.length + 1) cap2) vP ⟨s.lv ++ [i], s.nx ++ [x.next], s.ps, s.nodes, dd⟩ ∧ Only (LkSet xb vL vN vP) W w7 :=
            ⟨_, rfl, HA5.out.moreN (i := x.next) HG6.out.1 HG6.out.2.1 (HG6.out.2.2.imp (fun e => e.symm) (fun e => by rw [e, alloc_sz]; rfl)),
              (HO5.out.trans (below_only ((Below.refl w5.heap.size w5).alloc (Nat.le_refl _) (.cells #[.int .i64 x.next] 3)))).trans (grow_only (v := vN) (w := w5.alloc (.cells #[.int .i64 x.next] 3)) HG6.out.2.1 (fun k hk => .inr (.inr (.inl hk))) (.inl rfl))⟩
          rw [← hw7]
          have HV2 := Lib.hid (show ∀ k, (Value.slice (some ⟨q2, 0, none⟩) (s.nx.length + 1) cap2).ownBlock = some k → vN.ownBlock = some k ∨ w.heap.size ≤ k from fun k hk => by
            rcases HG6.out.2.2 with e | e
            · rw [← hk] ; exact .inl e
            · injection hk with hk
              have := HO5.out.size; have := HWX.out.1
              rw [← hk]; show _ ∨ w.heap.size ≤ q2
              omega)
          generalize (Value.slice (some ⟨q2, 0, none⟩) (s.nx.length + 1) cap2) = vN' at hL7 HV2
          clear hw7 k2' kf2' HG6 HA5 HO5 d0 d1' d2 d3 d4 ka2 k2 kf2 hobx
          have hb0 := (hO7.block w.heap.size (by have := HWX.out.1; omega) (fun hs => by have := HD.out.2 _ hs; omega)).trans HWX.out.2.1
          obtain ⟨d0, d1', d2, d3, d4, -⟩ := five hb0
          obtain ⟨-, -, -, k3, -, -, -, kf⟩ := hL7.cells
          have kf3 := kf 3
          have hS : ∀ b, LkSet xb vL' vN' vP b → LkSet xb vL vN vP b ∨ w.heap.size ≤ b := fun b hb => by
            rcases hb with hb | hb | hb | hb
            · exact .inl (.inl hb)
            · exact (HV.out b hb).imp (fun h => .inr (.inl h)) id
            · exact (HV2.out b hb).imp (fun h => .inr (.inr (.inl h))) id
            · exact .inl (.inr (.inr (.inr hb)))
          have hpr : On (fun b => ¬ LkSet xb vL' vN' vP b) w7 (Prs · A n c x.pairs) := ((((HR.out.1.imp fun v hv => hv.1).now).keep ((HO.out.trans hO7).agree (fun b hb => hb.1))).mono fun b hb hs => by
            rcases hS b hs with h | h
            · exact hb.1 h
            · have := hb.2; omega)
          obtain ⟨xs, hown, hrd⟩ := hL7.rp
          have HL7 := Lib.hid hL7
          have HO7 := Lib.hid hO7
          have HS := Lib.hid hS
          have HP7 := Lib.hid (And.intro hpr (And.intro hown hrd))
          have HOW7 := Lib.hid (show w7.drew.ownsRow 0 31 2 vP s.ps.length xs from hown)
          have hsum : s.ps.length + n ≤ 9000 := by omega
          clear hb0 hL7 hO7 kf hS hpr hown hrd
          go_wp2_with fail
          go_region_law (first
            | ((refine step_append_prs (w := w7.drew) (w0 := w7) (by rfl) _ _ (by rfl) 0 vP s.ps.length xs (by rfl) HOW7.out A n c x.pairs (by rfl) HP7.out.1 ((Below.refl w7.heap.size w7).drew) hsum (Nat.zero_le _) ?_
                intro v' w8 ys hys hown hgrow hat
                obtain ⟨A8, c8, rfl, -⟩ := own_new hown
                have hgrow := undrew_grown hgrow
                have hob := grow_obj hgrow HL7.out.xp HL7.out.obj
                have k3' : w8.cell? ⟨xb, 3, none⟩ = some vP := by simp [World.cell?, hob]
                have kf3' : w8.frozen? ⟨xb, 3, none⟩ = false := by simp [World.frozen?, hob]
                have HG8 := Lib.hid (And.intro hys (And.intro hown (And.intro hgrow (show (Value.slice A8 (s.ps.length + n) c8).ownBlock = vP.ownBlock ∨ (Value.slice A8 (s.ps.length + n) c8).ownBlock = some w7.heap.size from hat))))
                clear hys hown hgrow hat hob)))
          all_goals
            have hL9 := HL7.out.moreP (w0 := w7) (w := w7) HP7.out.2.2 HG8.out.1 HX.out.2.2 HG8.out.2.1 HG8.out.2.2.1 HG8.out.2.2.2
            have hO9 := HO7.out.trans (grow_only (v := vP) (w := w7) (xb := xb) (o := 3) (u := .slice A8 (s.ps.length + n) c8) (S := LkSet xb vL vN vP) HG8.out.2.2.1 (fun k hk => .inr (.inr (.inr hk))) (.inl rfl))
            have HQ := Lib.hid (show LkOut w (LkSet xb vL vN vP) xb tb ⟨s.lv ++ [i], s.nx ++ [x.next], s.ps ++ x.pairs, s.nodes, dd⟩ (.returned (.tuple #[])) (w8.setCell ⟨xb, 3, none⟩ (.slice A8 (s.ps.length + n) c8)) from ⟨rfl, _, ⟨_, _, _, rfl, hL9⟩, fun b hb => by
              rcases hb with hb | hb | hb | hb
              · exact .inl (.inl hb)
              · exact HS.out b (.inr (.inl hb))
              · exact HS.out b (.inr (.inr (.inl hb)))
              · rcases HG8.out.2.2.2 with e | e
                · exact .inl (.inr (.inr (.inr (e ▸ hb))))
                · rw [e] at hb
                  injection hb with hb
                  have := (HO.out.trans HO7.out).size
                  right
                  rw [← hb]
                  exact this, HO.out.trans hO9⟩)
            clear hL9 hO9 HG8 HP7 HS HL7 HO7
            go_wp2
            exact bodyPost_ret (v := .tuple #[]) (by simp [results, Try.results54, go_sem]) rfl HQ.out
end Go.Proofs.Ythbmchkbebneiaa
