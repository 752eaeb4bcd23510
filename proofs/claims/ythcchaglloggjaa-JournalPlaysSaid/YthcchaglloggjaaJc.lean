/- The contract of package journal's gathered: the walk. Condition: at most 100 places, each one of a request and of a slot; slices of at most 100 bytes that can be read. -/
import Derived.Test.YthcchaglloggjaaJb
namespace Go.Proofs.Ythcchaglloggjaa
open Go.RowKit
set_option linter.unusedVariables false
set_option maxRecDepth 100000

def GathO (w : World) (L : List Int) (M : List Rq) (P : List Nat) (e : Ending) (w' : World) : Prop :=
  ∃ A c B d, e = .returned (.agg #[.slice A P.length c, .slice B P.length d]) ∧ On (w.heap.size ≤ ·) w' (Ils · A P.length (P.map (it L))) ∧ On (w.heap.size ≤ ·) w' (Reqs · B P.length (P.map (gq M))) ∧ Below w.heap.size w w'

set_option maxHeartbeats 16000000 in
theorem gathered_any {w : World} {A B C : Option Addr} {n m k : Nat} (c d f : Nat) {L : List Int} {M : List Rq} {P : List Nat} (hA : Ils w A n L) (hB : Reqs w B m M) (hC : Nls w C k f P) (hs : ∀ j, j < m → smallQ (gq M j) = true)
    (hk : k ≤ 100) (hp : ∀ j, j < k → nat P j < n ∧ nat P j < m) :
    Calls Try.prog 27 #[.slice A n c, .slice B m d, .slice C k f] w (GathO w L M P) := by
  obtain ⟨W, hW, hG⟩ := gat_new w L M P
  have HA := Lib.hid hA
  have HB := Lib.hid hB
  have HC := Lib.hid hC
  have HS := Lib.hid hs
  have HP := Lib.hid hp
  have hPl : P.length = k := hC.1
  have HPL := Lib.hid hPl
  have hn63 : n ≤ maxLen := hA.2.1
  have hm63 : m ≤ maxLen := hB.2.1
  have HWE := Lib.hid hW
  have HG0 := Lib.hid hG
  obtain ⟨i0, hi, hz0, hz1, hz2⟩ := info_parts Try.infoInt
  have HI := Lib.hid hi
  have HZ := Lib.hid (And.intro hz0 (And.intro hz1 hz2))
  obtain ⟨i1, hi1, hy0, hy1, hy2⟩ := info_parts Try.infoReq
  have HI1 := Lib.hid hi1
  have HZ1 := Lib.hid (And.intro hy0 (And.intro hy1 hy2))
  unfold maxLen at hn63 hm63
  clear hA hB hC hs hp hW hG hi hz0 hz1 hz2 hi1 hy0 hy1 hy2 hPl
  go_enter Try.func27, Try.ntmps27
  go_upto_region 2 with fail
  rw [← HWE.out]
  clear HWE
  go_wp2
  go_loopw [12] (fun s wr => ∃ j : Nat, j ≤ k ∧ s = .int .i64 j ∧ ∃ vS vQ xs, GatS w L M P j j vS vQ xs wr) (fun s _ => k - (intOf s).toNat)
  case atStart => exact ⟨0, Nat.zero_le _, rfl, _, _, _, HG0.out⟩
  case round =>
    clear HG0
    obtain ⟨j, hj, rfl, vS, vQ, xs, hg⟩ := hrel
    have HG := Lib.hid hg
    clear hg
    by_cases hlt : j < k
    · obtain ⟨pn, pm⟩ := HP.out j hlt
      have HLT := Lib.hid (show j < P.length by rw [HPL.out]; exact hlt)
      obtain ⟨cb, co, rfl, hcl, c0⟩ := (HC.out.below HG.out.below).at_ hlt
      obtain ⟨ab, ao, rfl, hal, a0⟩ := (HA.out.below HG.out.below).at_ pn
      obtain ⟨t, ht⟩ : ∃ t, t = nat P j := ⟨_, rfl⟩
      have HT := Lib.hid ht
      rw [← ht] at pn pm c0 a0
      clear ht
      obtain ⟨o0, o1, f0, f1, -⟩ := HG.out.cells
      have hwl : w.heap.size + 1 < wr.heap.size := by have := HG.out.lt; omega
      have hne : ¬ (w.heap.size + 1 = wr.heap.size) := by omega
      have hNb : some (w.heap.size + 1) ≠ vS.ownBlock := fun e => by have := (HG.out.slots.lt _ e.symm).1; omega
      have HNB := Lib.hid hNb
      have HO := Lib.hid (World.ownsRow.drew (World.ownsRow.alloc HG.out.slots (.cells #[.int .i64 (it L t)] 3)))
      have HWA := Lib.hid (show Below wr.heap.size wr (wr.alloc (.cells #[.int .i64 (it L t)] 3)).drew from ((Below.refl _ _).alloc (Nat.le_refl _) _).drew)
      have HCE := Lib.hid (show ∀ q u, ([.int .i64 (it L t)] : List Value)[q]? = some u → (wr.alloc (.cells #[.int .i64 (it L t)] 3)).drew.cell? ((⟨wr.heap.size, 0, none⟩ : Addr).add q) = some u from one_cell_a_int wr (it L t))
      clear hNb
      generalize hx : it L t = x at a0 HO HWA HCE
      have HX := Lib.hid hx
      clear hx
      go_upto_region 5 with fail
      go_cut [16] (fun _ wx => ∃ v5, GatS w L M P (j + 1) j v5 vQ xs wx)
      case first =>
        go_region_law (first
          | ((refine step_append_lies _ (by rfl) _ _ 30 (by rfl) (w.heap.size + 2) 3 i0 (.int .i64 0) 1 8 Try.underlying30 HI.out HZ.out.1 HZ.out.2.1 HZ.out.2.2 (by rfl) (by decide) vS j _ (by rfl) HO.out ⟨wr.heap.size, 0, none⟩ 1 1 [.int .i64 x] (by rfl) (by rfl) HCE.out (by intro u hu; simp at hu; subst hu; rfl) (by omega) (by unfold maxLen; omega) (by omega) (by have := HWA.out.size; omega) (wr.heap.size + 1) (by show (wr.alloc _).heap.size = _; simp) ?_
              intro p' cap w5 hown5 hgrow5 hat5 hlt5
              have o0 := (hgrow5.cell_far ⟨w.heap.size + 1, 0, none⟩ (by have := HWA.out.size; show w.heap.size + 1 < _; omega) HNB.out).trans ((HWA.out.cell (p := ⟨w.heap.size + 1, 0, none⟩) hwl).trans o0)
              have f0 := (hgrow5.frozen_far ⟨w.heap.size + 1, 0, none⟩ (by have := HWA.out.size; show w.heap.size + 1 < _; omega) HNB.out).trans ((HWA.out.frozen (p := ⟨w.heap.size + 1, 0, none⟩) hwl).trans f0)
              have HG5 := Lib.hid (And.intro hown5 (And.intro hgrow5 (And.intro hat5 hlt5)))
              clear hown5 hgrow5 hat5 hlt5)))
        all_goals
          have HNX := Lib.hid (HG.out.slot (v5 := .slice (some ⟨p', 0, none⟩) (j + 1) cap) (wa := (wr.alloc (.cells #[.int .i64 x] 3)).drew) (w5 := w5) HLT.out HWA.out (by rw [← HT.out, HX.out]; exact HG5.out.1) HG5.out.2.1 (by
            rcases HG5.out.2.2.1 with e | e
            · exact .inl e
            · right; rw [e]; show _ = some ((wr.alloc _).heap.size); simp [Value.ownBlock]))
          clear HG5 HO HWA HCE HG
          go_wp2
          go_meet
          exact ⟨_, HNX.out⟩
      case rest =>
        rename World => wx
        obtain ⟨v5, hg5⟩ := hcut
        have HGX := Lib.hid hg5
        have HBX := Lib.hid hg5.below
        clear hg5 HG HO HWA HCE HNB o0 o1 f0 f1 c0 a0 hwl hne
        obtain ⟨rb, ro, rfl, hbl, h1, k0, k1, k2, k3, k4, k5, k6, k7, hr⟩ := (HB.out.below HBX.out).at_ pm
        have HSQ := Lib.hid (HS.out t pm)
        have HR := Lib.hid hr
        have HRT := Lib.hid (show gq M t = gq M (nat P j) by rw [HT.out])
        obtain ⟨r, hrr⟩ : ∃ r, r = gq M t := ⟨_, rfl⟩
        rw [← hrr] at k0 k1 k2 k7 HSQ HR HRT
        have D := Lib.hid (copyq_lit (w := wx.drew) (show RqR wx.drew h1 r from HR.out) HSQ.out)
        have HK := Lib.hid (And.intro k0 (And.intro k1 (And.intro k2 (And.intro k3 (And.intro k4 (And.intro k5 (And.intro k6 k7)))))))
        obtain ⟨o0, o1, f0, f1, -⟩ := HGX.out.cells
        have hwl : w.heap.size + 1 < wx.heap.size := by have := HGX.out.lt; omega
        have HNB := Lib.hid (show some (w.heap.size + 1) ≠ vQ.ownBlock from fun e => by have := (HGX.out.reqs.lt _ e.symm).1; omega)
        have HO1 := Lib.hid (And.intro o1 f1)
        clear hr hrr
        go_upto_region 6 with fail
        go_region_law (first
          | (go_simp
             go_at_call 34
             (with_reducible refine D.out.mono ?_)
             rintro e w3 ⟨h3, rfl, on3, hb3⟩
             have hb3 : Below wx.heap.size wx w3 := undrew hb3
             have hl3 := hb3.size
             have hne3 : ¬ (w.heap.size + 1 = w3.heap.size) := by omega
             have o1 := (hb3.cell (p := ⟨w.heap.size + 1, 1, none⟩) hwl).trans HO1.out.1
             have f1 := (hb3.frozen (p := ⟨w.heap.size + 1, 1, none⟩) hwl).trans HO1.out.2
             have oa : ∀ o : Obj, (w3.alloc o).cell? ⟨w.heap.size + 1, 1, none⟩ = some vQ := fun o => (World.cell?_alloc_lt w3 o ⟨w.heap.size + 1, 1, none⟩ (show w.heap.size + 1 < w3.heap.size by omega)).trans o1
             have HB3 := Lib.hid hb3
             have HON := Lib.hid on3
             have HO3 := Lib.hid ((own_keep HGX.out.reqs (hb3.mono (Nat.le_refl _))).alloc (.cells #[.int .i64 r.cl, .int .i64 r.sq, .int .i64 r.kind, .slice h3.A h3.n h3.c, .slice h3.B h3.m h3.d, .slice h3.C h3.o h3.p, .slice h3.D h3.q h3.s, .int .i64 r.limit] 60))
             clear on3 hb3
             go_wp2_with fail)
          | ((refine step_append_lies _ (by rfl) _ _ 31 (by rfl) (w.heap.size + 2) 60 i1 (.agg #[.int .i64 0, .int .i64 0, .int .i64 0, .slice none 0 0, .slice none 0 0, .slice none 0 0, .slice none 0 0, .int .i64 0]) 8 128 Try.underlying31 HI1.out HZ1.out.1 HZ1.out.2.1 HZ1.out.2.2 (by rfl) (by decide) vQ j xs (by rfl) HO3.out ⟨w3.heap.size, 0, none⟩ 1 1 (rqC h3 r) (by rfl) (by rfl) (eight_cells rfl) (rqC_one h3 r) (by omega) (by unfold maxLen; omega) (by omega) (by rw [alloc_sz]; omega) (w3.heap.size + 1) (by simp) ?_
              intro p' cap w5 hown5 hgrow5 hat5 hlt5
              have hal := (Below.refl w3.heap.size w3).alloc (Nat.le_refl _) (.cells #[.int .i64 r.cl, .int .i64 r.sq, .int .i64 r.kind, .slice h3.A h3.n h3.c, .slice h3.B h3.m h3.d, .slice h3.C h3.o h3.p, .slice h3.D h3.q h3.s, .int .i64 r.limit] 60)
              have f1 := ((hgrow5.frozen_far ⟨w.heap.size + 1, 1, none⟩ (by rw [alloc_sz]; show w.heap.size + 1 < _; omega) HNB.out).trans (hal.frozen (p := ⟨w.heap.size + 1, 1, none⟩) (show w.heap.size + 1 < w3.heap.size by omega))).trans f1
              have o1 := ((hgrow5.cell_far ⟨w.heap.size + 1, 1, none⟩ (by rw [alloc_sz]; show w.heap.size + 1 < _; omega) HNB.out).trans (hal.cell (p := ⟨w.heap.size + 1, 1, none⟩) (show w.heap.size + 1 < w3.heap.size by omega))).trans o1
              have HG5 := Lib.hid (And.intro hown5 (And.intro hgrow5 (And.intro hat5 (And.intro hlt5 hal))))
              clear hown5 hgrow5 hat5 hlt5 hal)))
        all_goals
          have HNX := Lib.hid (HGX.out.req (v5 := .slice (some ⟨p', 0, none⟩) (j + 1) cap) (hh := h3) (w3 := w3) (w5 := w5) HLT.out HB3.out (by rw [← HRT.out]; exact HON.out) HG5.out.2.2.2.2 (by rw [← HRT.out]; exact HG5.out.1) HG5.out.2.1 (by
            rcases HG5.out.2.2.1 with e | e
            · exact .inl e
            · right; rw [e, alloc_sz]; rfl) (by rw [alloc_sz]; omega))
          clear HG5 HON HB3 HO3 D HK HR HSQ HRT HGX HO1 HNB
          go_wp2
          go_roundw
          case rel => exact ⟨j + 1, by omega, by go_num, _, _, _, HNX.out⟩
          case measure => simp [intOf]; omega
    · obtain rfl : j = k := by omega
      obtain ⟨o0, o1, f0, f1, z0, z1, g0, g1⟩ := HG.out.cells
      have hS := HG.out.slots
      rw [List.take_of_length_le (by rw [HPL.out]; exact Nat.le_refl _)] at hS
      have hQ := HG.out.reads
      rw [List.take_of_length_le (by rw [HPL.out]; exact Nat.le_refl _)] at hQ
      have hSb : ∀ b, vS.ownBlock = some b → w.heap.size + 2 ≤ b := fun b hb => (hS.lt b hb).1
      have hQb : ∀ b, vQ.ownBlock = some b → w.heap.size + 2 ≤ b := fun b hb => (HG.out.reqs.lt b hb).1
      obtain ⟨A9, c9, rfl, r9⟩ := own_ils hS
      obtain ⟨B9, d9, rfl, q9⟩ := own_reqs HG.out.reqs hQ
      have HR9 := Lib.hid (And.intro (r9.mono (C' := (w.heap.size + 2 ≤ ·)) hSb) (q9.mono (C' := (w.heap.size + 2 ≤ ·)) (fun b hb => hb.elim (fun h => h.1) (hQb b))))
      have HBW := Lib.hid HG.out.below
      clear r9 q9 hS hQ hSb hQb HG
      go_wp2
      refine bodyPost_ret (v := .agg #[.slice A9 j c9, .slice B9 j d9]) (by simp [results, Try.results27, go_sem, z0, z1]) rfl ?_
      have h2 := (chg_stores w.heap.size [.slice A9 j c9, .slice B9 j d9] wr 0).agree (C := (w.heap.size + 2 ≤ ·)) (by omega)
      unfold GathO
      rw [HPL.out]
      refine ⟨A9, c9, B9, d9, rfl, ((HR9.out.1).keep h2).mono (fun b hb => by have hb' : w.heap.size + 2 ≤ b := hb; omega), ((HR9.out.2).keep h2).mono (fun b hb => by have hb' : w.heap.size + 2 ≤ b := hb; omega), ?_⟩
      exact stores_below (b := w.heap.size) (Nat.le_refl _) [.slice A9 j c9, .slice B9 j d9] w wr 0 HBW.out
end Go.Proofs.Ythcchaglloggjaa
