/- The contract of package bulk's above: the walk. Condition: a level of two branches at least, at most 1000; no key longer than 1000 bytes. -/
import Derived.Test.YtdkppgmhhijkgaaG12
namespace Go.Proofs.Ytdkppgmhhijkgaa
open Go.RowKit
set_option linter.unusedVariables false
set_option maxRecDepth 100000

set_option maxHeartbeats 8000000 in
theorem above_any {d : Nat} {w : World} {D E : Nat → Prop} {tb g root m many b o n c : Nat} {L : List (Option Nd)} {lv : List (Br d)} (hT : TrM w D tb g L [] root m many) (hl : On E w (LvR · (some ⟨b, o, none⟩) n c lv)) (hE : ∀ b, E b → ¬ D b)
    (hn2 : 2 ≤ n) (hn : n ≤ 1000) (hL : L.length ≤ 5000) (hs : ∀ x ∈ lv, x.1.length ≤ 1000) (h3 : 3 ≤ m) (h16 : m ≤ 16) :
    Calls Try.prog 50 #[.pointer (some ⟨tb, 0, none⟩), .slice (some ⟨b, o, none⟩) n c] w (AboveO w D E tb g root m many L lv) := by
  have hlen : lv.length = n := hl.here.1
  have hnc : n ≤ c := hl.here.2.1
  have hcm : c ≤ maxLen := hl.here.2.2.1
  obtain ⟨c0, -, c2, -, -, -⟩ := hT.cells
  obtain ⟨hdr, hhdr⟩ : ∃ hdr : Nat → Value, hdr = fun t => (w.cell? ⟨b, o + t * 2 + 1, none⟩).getD (.bool false) := ⟨_, rfl⟩
  obtain ⟨nmv, hnmv⟩ : ∃ nmv : Nat → Value, nmv = fun t => (w.cell? ⟨b, o + t * 2, none⟩).getD (.bool false) := ⟨_, rfl⟩
  have hat : ∀ t x, lv[t]? = some x → ∃ K kn kc, w.cell? ⟨b, o + t * 2, none⟩ = some (.int .i64 (num d x.2 : Nat)) ∧ w.cell? ⟨b, o + t * 2 + 1, none⟩ = some (.slice K kn kc) ∧ On E w (Byt · K kn x.1) ∧ E b ∧ b < w.heap.size := fun t x hx => by
    obtain ⟨b', o', K, kn, kc, e, hEb, hbl, k0, k1, y⟩ := lv_at hl hx
    injection e with e
    injection e with e1 e2
    subst e1
    subst e2
    exact ⟨K, kn, kc, k0, k1, y, hEb, hbl⟩
  have hok : HdrOk E w lv hdr nmv := fun t x hx => by
    obtain ⟨K, kn, kc, k0, k1, y, -⟩ := hat t x hx
    refine ⟨⟨K, kn, kc, by rw [hhdr]; simp only []; rw [k1]; rfl, y⟩, by rw [hnmv]; simp only []; rw [k0]; rfl⟩
  obtain ⟨hEb, hbl⟩ : E b ∧ b < w.heap.size := by
    obtain ⟨K, kn, kc, k0, k1, y, h1, h2⟩ := hat 0 _ (List.getElem?_eq_getElem (show 0 < lv.length by omega))
    exact ⟨h1, h2⟩
  have hp := pcs_pos (n := n) (m := m + 1) (by omega) (by omega)
  have hp2 := pcs_two (n := n) (m := m + 1) hn2 (by omega)
  obtain ⟨p, hpe⟩ : ∃ p, p = pcs n (m + 1) := ⟨_, rfl⟩
  rw [← hpe] at hp hp2
  have HE := evenb_any (w := w) (b := b) (o := o) (n := n) (c := c) (m := m + 1) (by omega) (by omega) (by omega) (by omega) hnc hcm
  rw [← hpe, show (((m + 1 : Nat) : Int)) = (m : Int) + 1 by omega] at HE
  have hmi : (m : Int) ≤ 16 := by omega
  have HPE := Lib.hid hpe
  have HOK := Lib.hid hok
  have HAT := Lib.hid hat
  have HT := Lib.hid hT
  have HL := Lib.hid hl
  have HFN := Lib.hid (And.intro hhdr hnmv)
  clear hpe hok hat hT hl hhdr hnmv
  go_enter Try.func50, Try.ntmps50
  go_wp2_with fail
  refine HE.mono ?_
  rintro e w1 ⟨gp, rfl, ho, hb⟩
  have hgp := ho.lt gp rfl
  have HO := Lib.hid ho
  have HB := Lib.hid hb
  have HTL := Lib.hid HT.out.lt
  have hI0 : AbvI w w1 D tb g root m many L (evn lv (m + 1)) (fun j => hdr (ctA n p j)) 0 (.slice none 0 0) w1 := by
    refine ⟨D, by simpa using HT.out.below hb, fun b hb => .inl ⟨hb, HT.out.lt.2 b hb⟩, (fun k hk => by cases hk), by simpa [upC] using World.ownsRow_nil _ _ _ _, Only.refl _ _⟩
  have HI0 := Lib.hid hI0
  clear HE ho hb c0 c2 hI0
  have hbl1 : b < w1.heap.size := by have := HB.out.size; omega
  have htb1 : tb < w1.heap.size := by have := HB.out.size; have := HTL.out.1; omega
  go_wp2
  go_loopw [5, 19] (fun v i wr => ∃ j : Nat, j ≤ p ∧ i = .int .i64 j ∧ AbvI w w1 D tb g root m many L (evn lv (m + 1)) (fun j => hdr (ctA n p j)) j v wr) (fun _ i _ => p - (intOf i).toNat)
  case atStart => exact ⟨0, Nat.zero_le _, rfl, HI0.out⟩
  case round =>
    obtain ⟨j, hj, rfl, hI⟩ := hrel
    obtain ⟨wo, hwo⟩ : ∃ wo, wo = wr := ⟨wr, rfl⟩
    subst hwo
    have HI := Lib.hid hI
    obtain ⟨D', t1, t2, t3, t4, t5⟩ := hI
    have hsz := t5.size
    have nD : ∀ k, w.heap.size ≤ k → k < w1.heap.size → ¬ D' k := fun k k1 k2 hk => by rcases t2 k hk with h | h <;> omega
    by_cases hlt : j < p
    · have hcg : wo.cell? ⟨gp, j, none⟩ = some (evV b o n c p j) := by
        refine (World.cell?_of_block (t5.block gp hgp.2 fun h => by have := HTL.out.2 gp h; omega)).trans ?_
        rw [HO.out.cellAt j (by omega), List.getElem?_map, List.getElem?_range hlt]
        rfl
      have hbr : wo.heap[b]? = w.heap[b]? := (t5.block b hbl1 (hE b hEb)).trans (HB.out.block b hbl)
      obtain ⟨s, hse⟩ : ∃ s, s = ctA n p j := ⟨_, rfl⟩
      obtain ⟨q, hqe⟩ : ∃ q, q + 1 = ctA n p (j + 1) - ctA n p j := ⟨ctA n p (j + 1) - ctA n p j - 1, by
        have := ctA_least (n := n) (p := p) (q := 1) (i := j) hp (by omega)
        omega⟩
      have hsn : s + (q + 1) ≤ n := by
        have := ctA_le (n := n) hp (show j + 1 ≤ p by omega)
        have := ctA_mono (n := n) (p := p) (show j ≤ j + 1 by omega)
        omega
      have hq1 : 1 ≤ q := by
        have := (evn_two (l := lv) (m := m) h3 (by omega)).2.1 (pce lv p j) (by
          unfold evn
          rw [hlen, ← HPE.out]
          exact List.mem_map.2 ⟨j, List.mem_range.2 hlt, rfl⟩)
        rw [pce_len hp hlt, hlen] at this
        omega
      have hev : evV b o n c p j = .slice (some ⟨b, o + s * 2, none⟩) (q + 1) (c - s) := by
        unfold evV
        rw [← hqe, ← hse]
      rw [hev] at hcg
      obtain ⟨y0, hy0⟩ : ∃ y, lv[s]? = some y := ⟨_, List.getElem?_eq_getElem (show s < lv.length by omega)⟩
      obtain ⟨K0, kn0, kc0, a0, a1, ya, -, -⟩ := HAT.out s _ hy0
      have hd0 : hdr s = .slice K0 kn0 kc0 := by rw [HFN.out.1]; simp only []; rw [a1]; rfl
      have hn0 : nmv s = .int .i64 (num d y0.2 : Nat) := by rw [HFN.out.2]; simp only []; rw [a0]; rfl
      obtain ⟨x0, hx0⟩ : ∃ x0, x0 = num d y0.2 := ⟨_, rfl⟩
      rw [← hx0] at a0 hn0
      have e0 : wo.cell? ⟨b, o + s * 2, none⟩ = some (.int .i64 (x0 : Nat)) := (World.cell?_of_block hbr).trans a0
      obtain ⟨cs, hcs⟩ : ∃ cs, cs = c - s := ⟨_, rfl⟩
      rw [← hcs] at hcg
      have hcs1 : 1 ≤ cs := by omega
      have hcs2 : q + 1 ≤ cs := by omega
      have hcs3 : ¬ (cs = 1) := by omega
      have HS := Lib.hid (And.intro hse (And.intro hqe hcs))
      have HDN := Lib.hid (And.intro hd0 hn0)
      have HT5 := Lib.hid (And.intro t1 (And.intro t2 (And.intro t3 (And.intro t4 t5))))
      have HA := Lib.hid (And.intro a1 ya)
      clear t1 t2 t3 t4 t5 hse hqe hcs hd0 hn0 a0 a1 ya hev hx0 hy0
      obtain ⟨WA, hWA, hAB, hAs, hA0, hA1⟩ := two_new wo (.cells #[.int .i64 (x0 : Nat)] 3) (.cells #[.bool false, .slice none 0 0, .slice none 0 0, .slice (some ⟨wo.heap.size, 0, none⟩) 1 1, .int .i64 0] 72)
      have hNA : NodeB WA wo.heap.size (wo.heap.size + 1) 0 1 ((List.range 0).map fun t => hdr (s + 1 + t)) ((List.range 1).map fun t => nmv (s + t)) none 0 wo.heap.size 1 := by
        refine ⟨hA1, World.ownsRow_nil _ _ _ _, ?_, by omega, by omega, (fun a e => by cases e)⟩
        have h0 := World.ownsRow_lit (base := wo.heap.size) (e := 3) (size := 1) wo #[.int .i64 (x0 : Nat)] 1 (Nat.le_refl _) (by unfold maxLen; omega) rfl
        have h1 := h0.alloc (.cells #[.bool false, .slice none 0 0, .slice none 0 0, .slice (some ⟨wo.heap.size, 0, none⟩) 1 1, .int .i64 0] 72)
        rw [← hWA] at h1
        simpa [HDN.out.2] using h1
      have HNA := Lib.hid (And.intro hNA hAB)
      have HWA := Lib.hid hWA
      clear hWA hAB hAs hA0 hA1 hNA
      go_wp2
      rw [← HWA.out]
      clear e0 hcg
      have hqI : (q : Int) ≤ 1000 := by omega
      go_loopw [32] (fun i wr => ∃ t : Nat, t ≤ q ∧ i = .int .i64 t ∧ ∃ AK cK gI cI, NodeB wr wo.heap.size (wo.heap.size + 1) t (t + 1) ((List.range t).map fun t => hdr (s + 1 + t)) ((List.range (t + 1)).map fun t => nmv (s + t)) AK cK gI cI ∧ Below wo.heap.size wo wr) (fun i _ => q - (intOf i).toNat)
      case atStart => exact ⟨0, Nat.zero_le _, rfl, none, 0, wo.heap.size, 1, HNA.out.1, HNA.out.2⟩
      case round =>
        obtain ⟨t, ht, rfl, AK, cK, gI, cI, hN, hbw⟩ := hrel
        have hsz' := hbw.size
        by_cases htq : t < q
        · obtain ⟨y1, hy1⟩ : ∃ y, lv[s + 1 + t]? = some y := ⟨_, List.getElem?_eq_getElem (show s + 1 + t < lv.length by omega)⟩
          obtain ⟨K1, kn1, kc1, a0, a1, ya, -, -⟩ := HAT.out (s + 1 + t) _ hy1
          have hd1 : hdr (s + 1 + t) = .slice K1 kn1 kc1 := by rw [HFN.out.1]; simp only []; rw [a1]; rfl
          have hn1 : nmv (s + (t + 1)) = .int .i64 (num d y1.2 : Nat) := by rw [HFN.out.2]; simp only []; rw [show s + (t + 1) = s + 1 + t by omega, a0]; rfl
          obtain ⟨x1, hx1⟩ : ∃ x1, x1 = num d y1.2 := ⟨_, rfl⟩
          rw [← hx1] at a0 hn1
          have hbw' : wr.heap[b]? = w.heap[b]? := (hbw.block b (by omega)).trans hbr
          have k0 : wr.cell? ⟨b, o + s * 2 + 2 + t * 2, none⟩ = some (.int .i64 (x1 : Nat)) := by
            rw [show o + s * 2 + 2 + t * 2 = o + (s + 1 + t) * 2 by omega]
            exact (World.cell?_of_block hbw').trans a0
          have k1 : wr.cell? ⟨b, o + s * 2 + 2 + t * 2 + 1, none⟩ = some (.slice K1 kn1 kc1) := by
            rw [show o + s * 2 + 2 + t * 2 + 1 = o + (s + 1 + t) * 2 + 1 by omega]
            exact (World.cell?_of_block hbw').trans a1
          have HD1 := Lib.hid (And.intro hd1 hn1)
          have HN := Lib.hid (And.intro hN hbw)
          obtain ⟨W9, hW9, h9b, h9s, h9k, h9n⟩ := two_new wr (.cells #[.int .i64 (x1 : Nat), .slice K1 kn1 kc1] 95) (.cells #[.slice K1 kn1 kc1] 25)
          have hN8 := hN.below ((Below.refl wr.heap.size wr).alloc (Nat.le_refl _) (.cells #[.int .i64 (x1 : Nat), .slice K1 kn1 kc1] 95))
          have hN9 := hN.below h9b
          obtain ⟨-, -, n2, -, -, -⟩ := five hN8.obj
          have HK9 := Lib.hid hN9.keys
          have HC9 := Lib.hid (show ∀ k u, [Value.slice K1 kn1 kc1][k]? = some u → W9.cell? ((⟨wr.heap.size + 1, 0, none⟩ : Addr).add k) = some u from fun k u hu => by
            rcases k with _ | k
            · simp at hu
              subst hu
              simpa [Addr.add] using (one_cell_of h9n).1
            · simp at hu)
          have HW9 := Lib.hid (And.intro hW9 (And.intro h9b (And.intro h9s (And.intro h9k h9n))))
          have hwo : wo.heap.size ≤ wr.heap.size := hsz'
          obtain ⟨iK, hiK, hzK0, hzK1, hzK2⟩ := info_parts Try.infoKey
          have HIK := Lib.hid (And.intro hiK (And.intro hzK0 (And.intro hzK1 hzK2)))
          obtain ⟨iI, hiI, hzI0, hzI1, hzI2⟩ := info_parts Try.infoInt
          have HII := Lib.hid (And.intro hiI (And.intro hzI0 (And.intro hzI1 hzI2)))
          have ht1 : t + 1 ≤ 1000 := by omega
          clear a0 a1 ya hd1 hn1 hx1 hy1 hN hbw hbw' hW9 h9b h9s h9k h9n hN8 hN9 hiK hzK0 hzK1 hzK2 hiI hzI0 hzI1 hzI2
          go_wp2_with (first
            | (at_builtin
               rw [← HW9.out.1]
               refine wpList_append_lies _ rfl _ _ 70 rfl wo.heap.size 25 iK (.slice none 0 0) 1 24 Try.underlying70 HIK.out.1 HIK.out.2.1 HIK.out.2.2.1 HIK.out.2.2.2 rfl (by decide) _ _ _ rfl HK9.out ⟨wr.heap.size + 1, 0, none⟩ 1 1 [.slice K1 kn1 kc1] rfl rfl HC9.out ?c2 (by omega) ?c3 ?c4 ?c5 W9.heap.size rfl ?_
               case c2 => exact fun u hu => by simp at hu; subst hu; rfl
               case c3 => unfold maxLen; omega
               case c4 => omega
               case c5 => have := HW9.out.2.2.1; omega
               intro g9 cap9 w9 hown9 hgrow9 hat9 hlt9
               have hkey := HN.out.1.key (w2 := W9) (w3 := w9) (g := g9) (cap := cap9) hwo HW9.out.2.1 hown9 hgrow9 hat9
               obtain ⟨-, -, p2, -, -, -, -, pf2, -, -⟩ := five ((HN.out.1.farK HW9.out.2.1 hgrow9).trans HN.out.1.obj)
               obtain ⟨-, -, -, p3, -, -, -, -, -, -⟩ := five hkey.1.obj
               have pb := HN.out.1.box (x := .slice (some ⟨g9, 0, none⟩) (t + 1) cap9) HW9.out.2.1 HW9.out.2.2.2.1 hgrow9
               obtain ⟨W10, hW10⟩ : ∃ W10, W10 = w9.setCell ⟨wo.heap.size + 1, 2, none⟩ (.slice (some ⟨g9, 0, none⟩) (t + 1) cap9) := ⟨_, rfl⟩
               have HW10 := Lib.hid hW10
               obtain ⟨W11, hW11⟩ : ∃ W11, W11 = (w9.setCell ⟨wo.heap.size + 1, 2, none⟩ (.slice (some ⟨g9, 0, none⟩) (t + 1) cap9)).alloc (.cells #[.int .i64 (x1 : Nat)] 3) := ⟨_, rfl⟩
               have HW11 := Lib.hid hW11
               have h1s : wo.heap.size ≤ W10.heap.size := by rw [hW10]; have := hkey.2.size; exact Nat.le_trans hwo this
               rw [← hW10] at hkey
               have h11b : Below W10.heap.size W10 W11 := by rw [hW11, ← hW10]; exact (Below.refl _ _).alloc (Nat.le_refl _) _
               have HK11 := Lib.hid (hkey.1.below h11b).kids
               have HC11 := Lib.hid (show ∀ k u, [Value.int .i64 (x1 : Nat)][k]? = some u → W11.cell? ((⟨w9.heap.size, 0, none⟩ : Addr).add k) = some u by rw [hW11, ← hW10]; exact one_cell_at (by rw [hW10]; simp [World.setCell]))
               have H11S := Lib.hid (And.intro h11b h1s)
               have HKEY := Lib.hid hkey
               clear hkey hown9 hgrow9 hat9 hlt9 hW10 hW11 h11b h1s n2)
            | (at_builtin
               rw [← HW11.out]
               refine wpList_append_lies _ rfl _ _ 62 rfl wo.heap.size 3 iI (.int .i64 0) 1 8 Try.underlying62 HII.out.1 HII.out.2.1 HII.out.2.2.1 HII.out.2.2.2 rfl (by decide) _ _ _ rfl HK11.out ⟨w9.heap.size, 0, none⟩ 1 1 [.int .i64 (x1 : Nat)] rfl rfl HC11.out ?d2 (by omega) ?d3 ?d4 ?d5 W11.heap.size rfl ?_
               case d2 => exact fun u hu => by simp at hu; subst hu; rfl
               case d3 => unfold maxLen; omega
               case d4 => omega
               case d5 => exact Nat.le_trans H11S.out.2 H11S.out.1.size
               intro g12 cap12 w12 hown12 hgrow12 hat12 hlt12
               have hkid := HKEY.out.1.kid (w2 := W11) (w3 := w12) (g := g12) (cap := cap12) H11S.out.2 H11S.out.1 hown12 hgrow12 hat12
               obtain ⟨-, -, -, q3, -, -, -, -, qf3, -⟩ := five ((HKEY.out.1.farI H11S.out.1 hgrow12).trans HKEY.out.1.obj)
               have HKID := Lib.hid hkid
               clear hkid hown12 hgrow12 hat12 hlt12))
          go_roundw
          case rel =>
            refine ⟨t + 1, by omega, by first | rfl | go_num, some ⟨g9, 0, none⟩, cap9, g12, cap12, ?_, HN.out.2.trans (HKEY.out.2.trans HKID.out.2)⟩
            have e1 : ((List.range (t + 1)).map fun t => hdr (s + 1 + t)) = ((List.range t).map fun t => hdr (s + 1 + t)) ++ [.slice K1 kn1 kc1] := by
              rw [List.range_succ, List.map_append, ← HD1.out.1]
              rfl
            have e2 : ((List.range (t + 1 + 1)).map fun t => nmv (s + t)) = ((List.range (t + 1)).map fun t => nmv (s + t)) ++ [.int .i64 (x1 : Nat)] := by
              rw [List.range_succ (n := t + 1), List.map_append, ← HD1.out.2]
              rfl
            rw [e1, e2]
            exact HKID.out.1
          case measure => simp [intOf]; omega
        · obtain rfl : t = q := by omega
          obtain ⟨t1, t2, t3, t4, t5⟩ := HT5.out
          obtain ⟨P, hPe⟩ : ∃ P, P = pce lv p j := ⟨_, rfl⟩
          have hPl : P.length = t + 1 := by rw [hPe, pce_len hp hlt, hlen, ← HS.out.2.1]
          have hPg : ∀ i, i < t + 1 → P[i]? = lv[s + i]? := fun i hi => by
            rw [hPe, pce_get hp hlt (by rw [hlen, ← HS.out.2.1]; exact hi), hlen, ← HS.out.1]
          have hPs : (evn lv (m + 1))[j]? = some P := by
            unfold evn
            rw [hlen, ← HPE.out, List.getElem?_map, List.getElem?_range hlt, hPe]
            rfl
          have hok2 : HdrOk (fun b => E b ∧ b < w.heap.size) w lv hdr nmv := fun i x hx => by
            obtain ⟨⟨K, kn, kc, e, y⟩, h2⟩ := HOK.out i x hx
            exact ⟨⟨K, kn, kc, e, y.now⟩, h2⟩
          have hag : Agree (fun b => E b ∧ b < w.heap.size) w wr := ((below_agree HB.out fun b hb _ => hb.2).trans (t5.agree fun b hb => hE b hb.1)).trans (below_all hbw)
          have hED : ∀ b, E b ∧ b < w.heap.size → ¬ D' b := fun b hb hd => by
            rcases t2 b hd with h | h
            · exact hE b hb.1 h.1
            · have := HB.out.size; have := hb.2; omega
          have hnd := node_reads hok2 hPl hPg hN hag hED t1.lt.2
          have hsm : SmallN (ndUp P) := node_small (by omega) (fun x hx => hs x (by rw [hPe] at hx; exact List.mem_of_mem_drop (List.mem_of_mem_take hx)))
          have hLl : (L ++ ((evn lv (m + 1)).take j).map fun P => some (ndUp P)).length = L.length + j := by
            have := evn_len lv (m + 1)
            rw [hlen, ← HPE.out] at this
            simp
            omega
          have har := ((t1.below hbw).2.1).keep (below_all (Below.refl wr.heap.size wr).drew)
          have HM := Lib.hid (make_nxt (w := wr.drew) har (by omega) (by simp) (hnd.keep (below_all (Below.refl wr.heap.size wr).drew)) hsm (kx := L.length + j) (by rw [hLl]; rfl))
          rw [show mkA (L ++ ((evn lv (m + 1)).take j).map fun P => some (ndUp P)) [] (ndUp P) = (L ++ ((evn lv (m + 1)).take j).map fun P => some (ndUp P)) ++ [some (ndUp P)] by unfold mkA; rw [if_pos rfl]] at HM
          obtain ⟨c0, -, -, -, -, -⟩ := (t1.below hbw).cells
          obtain ⟨n0, n1, n2, n3, n4, -⟩ := five hN.obj
          have k1 : wr.cell? ⟨b, o + s * 2 + 1, none⟩ = some (.slice K0 kn0 kc0) := (World.cell?_of_block ((hbw.block b (by omega)).trans hbr)).trans HA.out.1
          have nD2 : ¬ D' b := fun h => by
            rcases t2 b h with h | h
            · exact hE b hEb h.1
            · omega
          have hrow : wr.ownsRow w1.heap.size 95 2 u5 j (upC L.length (fun j => hdr (ctA n p j)) j) := own_keep t4 hbw
          have hup0 : ∀ k, u5.ownBlock = some k → k < wo.heap.size := fun k hk => (t4.lt k hk).2
          have HTT := Lib.hid (And.intro t1 (And.intro t2 (And.intro t3 t5)))
          have HROW := Lib.hid hrow
          have HND2 := Lib.hid nD2
          have hnbD : ¬ D' (wo.heap.size + 1) := fun h => by have := t1.lt.2 _ h; omega
          have htbD : ¬ D' tb := t1.2.2
          have HNB := Lib.hid (And.intro hnbD (And.intro htbD (And.intro (show tb < wr.heap.size by omega) (And.intro hN.lt.1 (show b < wr.heap.size by omega)))))
          have HBW := Lib.hid hbw
          have HPS := Lib.hid hPs
          have hjL : j ≤ 1000 := by omega
          have hw1o : w1.heap.size ≤ wr.heap.size := by omega
          obtain ⟨iB, hiB, hzB0, hzB1, hzB2⟩ := info_parts Try.infoBranch
          have HIB := Lib.hid (And.intro hiB (And.intro hzB0 (And.intro hzB1 hzB2)))
          have HUP := Lib.hid (show upC L.length (fun j => hdr (ctA n p j)) (j + 1) = upC L.length (fun j => hdr (ctA n p j)) j ++ [.int .i64 ((L.length + j : Nat) : Int), .slice K0 kn0 kc0] by
            rw [upC_succ, ← HS.out.1, HDN.out.1])
          obtain ⟨Lj, hLj⟩ : ∃ Lj, Lj = L.length + j := ⟨_, rfl⟩
          rw [← hLj] at HM HUP
          have HLj := Lib.hid hLj
          clear hN hbw hnd hsm hLl har t1 t2 t3 t4 t5 hPe hPl hPg hPs hok2 hag hED hrow nD2 hbr hnbD htbD hiB hzB0 hzB1 hzB2 hLj nD
          go_wp2
          refine wp_region_held_drew (S := (fun w' => w'.cell? ⟨tb, 0, none⟩ = some (.pointer (some ⟨g, 0, none⟩)) ∧ w'.cell? ⟨wo.heap.size + 1, 0, none⟩ = some (.bool false) ∧ w'.cell? ⟨wo.heap.size + 1, 1, none⟩ = some (.slice none 0 0) ∧ w'.cell? ⟨wo.heap.size + 1, 2, none⟩ = some (.slice AK t cK) ∧ w'.cell? ⟨wo.heap.size + 1, 3, none⟩ = some (.slice (some ⟨gI, 0, none⟩) (t + 1) cI) ∧ w'.cell? ⟨wo.heap.size + 1, 4, none⟩ = some (.int .i64 0) ∧ w'.cell? ⟨b, o + s * 2 + 1, none⟩ = some (.slice K0 kn0 kc0))) (by kernel_rfl) ⟨c0, n0, n1, n2, n3, n4, k1⟩ (fun hHeld => ?_)
          refine wpAnyH_take (i := 0) (v := u5) rfl (by kernel_rfl) (by kernel_rfl) (by kernel_rfl) (fun _ _ _ h => h) (Or.inl ⟨by rfl, fun w' hSw => ?_⟩) hHeld ?_
          · (try dsimp only at hSw)
            first | (go_simp; done) | rfl
          simp only [Act.put, List.getElem_toArray, List.getElem_cons_zero, List.setIfInBounds_toArray, List.set_cons_zero, List.set_cons_succ]
          refine wpAnyH_take (i := 1) (v := .pointer (some ⟨tb, 0, none⟩)) rfl (by kernel_rfl) (by kernel_rfl) (by kernel_rfl) (fun _ _ _ h => h) (Or.inl ⟨by rfl, fun w' hSw => ?_⟩) hHeld ?_
          · (try dsimp only at hSw)
            go_simp
          simp only [Act.put, List.getElem_toArray, List.getElem_cons_zero, List.getElem_cons_succ, List.setIfInBounds_toArray, List.set_cons_zero, List.set_cons_succ]
          refine wpAnyH_take (i := 2) (v := .pointer (some ⟨tb, 0, none⟩)) rfl (by kernel_rfl) (by kernel_rfl) (by kernel_rfl) (fun _ _ _ h => h) (Or.inl ⟨by rfl, fun w' hSw => ?_⟩) hHeld ?_
          · (try dsimp only at hSw)
            go_simp
          simp only [Act.put, List.getElem_toArray, List.getElem_cons_zero, List.getElem_cons_succ, List.setIfInBounds_toArray, List.set_cons_zero, List.set_cons_succ]
          refine wpAnyH_take (i := 3) (v := .pointer (some ⟨tb, 0, none⟩)) rfl (by kernel_rfl) (by kernel_rfl) (by kernel_rfl) (fun _ _ _ h => h) (Or.inl ⟨by rfl, fun w' hSw => ?_⟩) hHeld ?_
          · (try dsimp only at hSw)
            go_simp
          simp only [Act.put, List.getElem_toArray, List.getElem_cons_zero, List.getElem_cons_succ, List.setIfInBounds_toArray, List.set_cons_zero, List.set_cons_succ]
          refine wpAnyH_take (i := 4) (v := .pointer (some ⟨g, 0, none⟩)) rfl (by kernel_rfl) (by kernel_rfl) (by kernel_rfl) (fun _ _ _ h => h) (Or.inl ⟨by rfl, fun w' hSw => ?_⟩) hHeld ?_
          · (try dsimp only at hSw)
            go_simp
          simp only [Act.put, List.getElem_toArray, List.getElem_cons_zero, List.getElem_cons_succ, List.setIfInBounds_toArray, List.set_cons_zero, List.set_cons_succ]
          refine wpAnyH_take (i := 5) (v := .agg #[.bool false, .slice none 0 0, .slice AK t cK, .slice (some ⟨gI, 0, none⟩) (t + 1) cI, .int .i64 0]) rfl (by kernel_rfl) (by kernel_rfl) (by kernel_rfl) (fun _ _ _ h => h) (Or.inl ⟨by rfl, fun w' hSw => ?_⟩) hHeld ?_
          · (try dsimp only at hSw)
            go_simp
          simp only [Act.put, List.getElem_toArray, List.getElem_cons_zero, List.getElem_cons_succ, List.setIfInBounds_toArray, List.set_cons_zero, List.set_cons_succ]
          refine wpAnyH_take (i := 7) (v := .slice (some ⟨b, o + s * 2, none⟩) (t + 1) cs) rfl (by kernel_rfl) (by kernel_rfl) (by kernel_rfl) (fun _ _ _ h => h) (Or.inl ⟨by rfl, fun w' hSw => ?_⟩) hHeld ?_
          · (try dsimp only at hSw)
            go_simp
          simp only [Act.put, List.getElem_toArray, List.getElem_cons_zero, List.getElem_cons_succ, List.setIfInBounds_toArray, List.set_cons_zero, List.set_cons_succ]
          refine wpAnyH_take (i := 8) (v := .pointer (some ⟨b, o + s * 2, none⟩)) rfl (by kernel_rfl) (by kernel_rfl) (by kernel_rfl) (fun _ _ _ h => h) (Or.inl ⟨by rfl, fun w' hSw => ?_⟩) hHeld ?_
          · (try dsimp only at hSw)
            go_simp
          simp only [Act.put, List.getElem_toArray, List.getElem_cons_zero, List.getElem_cons_succ, List.setIfInBounds_toArray, List.set_cons_zero, List.set_cons_succ]
          refine wpAnyH_take (i := 9) (v := .pointer (some ⟨b, o + s * 2 + 1, none⟩)) rfl (by kernel_rfl) (by kernel_rfl) (by kernel_rfl) (fun _ _ _ h => h) (Or.inl ⟨by rfl, fun w' hSw => ?_⟩) hHeld ?_
          · (try dsimp only at hSw)
            go_simp
          simp only [Act.put, List.getElem_toArray, List.getElem_cons_zero, List.getElem_cons_succ, List.setIfInBounds_toArray, List.set_cons_zero, List.set_cons_succ]
          refine wpAnyH_take (i := 10) (v := .slice K0 kn0 kc0) rfl (by kernel_rfl) (by kernel_rfl) (by kernel_rfl) (fun _ _ _ h => h) (Or.inl ⟨by rfl, fun w' hSw => ?_⟩) hHeld ?_
          · (try dsimp only at hSw)
            go_simp
          simp only [Act.put, List.getElem_toArray, List.getElem_cons_zero, List.getElem_cons_succ, List.setIfInBounds_toArray, List.set_cons_zero, List.set_cons_succ]
          refine wpAnyH_ready (rs := [6]) (by kernel_rfl) (by simp) ?_
          refine AllReadyH.cons rfl (fun K hK => ?_) AllReadyH.nil
          go_simp
          go_at_call 45
          refine HM.out.mono ?_
          rintro e w6 ⟨rfl, hm⟩
          have c06 := (turn_cell hm ⟨tb, 0, none⟩ HNB.out.2.2.1 HNB.out.2.1).1.trans c0
          have n06 := (turn_cell hm ⟨wo.heap.size + 1, 0, none⟩ HNB.out.2.2.2.1 HNB.out.1).1.trans n0
          have n16 := (turn_cell hm ⟨wo.heap.size + 1, 1, none⟩ HNB.out.2.2.2.1 HNB.out.1).1.trans n1
          have n26 := (turn_cell hm ⟨wo.heap.size + 1, 2, none⟩ HNB.out.2.2.2.1 HNB.out.1).1.trans n2
          have n36 := (turn_cell hm ⟨wo.heap.size + 1, 3, none⟩ HNB.out.2.2.2.1 HNB.out.1).1.trans n3
          have n46 := (turn_cell hm ⟨wo.heap.size + 1, 4, none⟩ HNB.out.2.2.2.1 HNB.out.1).1.trans n4
          have k16 := (turn_cell hm ⟨b, o + s * 2 + 1, none⟩ HNB.out.2.2.2.2 HND2.out).1.trans k1
          have HMM := Lib.hid hm
          clear hm hHeld c0 n0 n1 n2 n3 n4 k1
          refine hK.out _ _ ⟨c06, n06, n16, n26, n36, n46, k16⟩ (fun hHeld => ?_)
          clear hK K
          try simp only [Act.put, List.getElem_toArray, List.getElem_cons_zero, List.getElem_cons_succ, List.setIfInBounds_toArray, List.set_cons_zero, List.set_cons_succ]
          refine wpAnyH_take (i := 11) (v := .agg #[.int .i64 (Lj : Nat), .slice K0 kn0 kc0]) rfl (by kernel_rfl) (by kernel_rfl) (by kernel_rfl) (fun _ _ _ h => h) (Or.inl ⟨by rfl, fun w' hSw => ?_⟩) hHeld ?_
          · (try dsimp only at hSw)
            go_simp
          simp only [Act.put, List.getElem_toArray, List.getElem_cons_zero, List.getElem_cons_succ, List.setIfInBounds_toArray, List.set_cons_zero, List.set_cons_succ]
          refine wpAnyH_ready (rs := [12]) (by kernel_rfl) (by simp) ?_
          refine AllReadyH.cons rfl (fun K hK => ?_) AllReadyH.nil
          go_simp
          refine hK.out _ _ ⟨by go_keep, by go_keep, by go_keep, by go_keep, by go_keep, by go_keep, by go_keep⟩ (fun hHeld => ?_)
          clear hK K
          try simp only [Act.put, List.getElem_toArray, List.getElem_cons_zero, List.getElem_cons_succ, List.setIfInBounds_toArray, List.set_cons_zero, List.set_cons_succ]
          have h6row : (w6.alloc (.cells #[.int .i64 (Lj : Nat), .slice K0 kn0 kc0] 95)).ownsRow w1.heap.size 95 2 u5 j (upC L.length (fun j => hdr (ctA n p j)) j) := by
            obtain ⟨D2, m1, m2, m3⟩ := HMM.out
            exact (own_agree (C := fun b => u5.ownBlock = some b) HROW.out (m3.agree fun b hb => HTT.out.2.2.1 b hb) (fun k hk => hk)).alloc _
          have H6ROW := Lib.hid h6row
          have hup1 : ∀ k, u5.ownBlock = some k → w1.heap.size ≤ k ∧ k < wo.heap.size := fun k hk => ⟨(HROW.out.lt k hk).1, hup0 k hk⟩
          have HUP1 := Lib.hid hup1
          clear h6row hup1
          refine wpAnyH_ready (rs := [13]) (by kernel_rfl) (by simp) ?_
          refine AllReadyH.cons rfl (fun K hK => ?_) AllReadyH.nil
          refine step_append_lies _ (by rfl) _ _ 91 (by rfl) w1.heap.size 95 iB (.agg #[.int .i64 0, .slice none 0 0]) 2 32 Try.underlying91 HIB.out.1 HIB.out.2.1 HIB.out.2.2.1 HIB.out.2.2.2 (by rfl) (by decide) u5 j (upC L.length (fun j => hdr (ctA n p j)) j) (by rfl) H6ROW.out ⟨w6.heap.size, 0, none⟩ 1 1 [.int .i64 (Lj : Nat), .slice K0 kn0 kc0] (by rfl) (by rfl) both_cells (fun u hu => by simp at hu; rcases hu with rfl | rfl <;> rfl) (by omega) (by unfold maxLen; omega) (by omega) (by have := turn_size HMM.out; simp at this ⊢; omega) (w6.alloc (.cells #[.int .i64 (Lj : Nat), .slice K0 kn0 kc0] 95)).heap.size rfl ?_
          intro g13 cap13 w13 hown13 hgrow13 hat13 hlt13
          have far := fun (a : Addr) (u : Value) (h1 : a.block < w6.heap.size) (h2 : some a.block ≠ u5.ownBlock) (h3 : w6.cell? a = some u) => (hgrow13.cell_far a (by simp; omega) h2).trans ((((Below.refl w6.heap.size w6).alloc (Nat.le_refl _) (.cells #[.int .i64 (Lj : Nat), .slice K0 kn0 kc0] 95)).cell (p := a) h1).trans h3)
          have s6 : wr.heap.size ≤ w6.heap.size := (turn_size HMM.out : wr.drew.heap.size ≤ w6.heap.size)
          have ne1 : some tb ≠ u5.ownBlock := fun e => by have := (HUP1.out tb e.symm).1; omega
          have ne2 : some (wo.heap.size + 1) ≠ u5.ownBlock := fun e => by have := (HUP1.out _ e.symm).2; omega
          have ne3 : some b ≠ u5.ownBlock := fun e => by have := (HUP1.out b e.symm).1; omega
          have l1 : tb < w6.heap.size := Nat.lt_of_lt_of_le HNB.out.2.2.1 s6
          have l2 : wo.heap.size + 1 < w6.heap.size := Nat.lt_of_lt_of_le HNB.out.2.2.2.1 s6
          have l3 : b < w6.heap.size := Nat.lt_of_lt_of_le HNB.out.2.2.2.2 s6
          have HFIN := Lib.hid (abv_round (w5 := wr.drew) HTT.out.1 HTT.out.2.1 HTT.out.2.2.1 HT5.out.2.2.2.1 HTT.out.2.2.2 HPS.out HBW.out.drew HMM.out ((Below.refl w6.heap.size w6).alloc (Nat.le_refl _) (.cells #[.int .i64 (Lj : Nat), .slice K0 kn0 kc0] 95)) (by rw [HUP.out]; exact hown13) hgrow13 hat13 htb1)
          refine hK.out _ _ ⟨far _ _ l1 ne1 c06, far _ _ l2 ne2 n06, far _ _ l2 ne2 n16, far _ _ l2 ne2 n26, far _ _ l2 ne2 n36, far _ _ l2 ne2 n46, far _ _ l3 ne3 k16⟩ (fun hHeld => ?_)
          clear hK K far hown13 hgrow13 hat13 hlt13 c06 n06 n16 n26 n36 n46 k16
          try simp only [Act.put, List.getElem_toArray, List.getElem_cons_zero, List.getElem_cons_succ, List.setIfInBounds_toArray, List.set_cons_zero, List.set_cons_succ]
          refine wpAnyH_take (i := 14) (v := .slice (some ⟨g13, 0, none⟩) (j + 1) cap13) rfl (by kernel_rfl) (by kernel_rfl) (by kernel_rfl) (fun _ _ _ h => h) (Or.inl ⟨by rfl, fun w' hSw => ?_⟩) hHeld ?_
          · (try dsimp only at hSw)
            go_simp
          simp only [Act.put, List.getElem_toArray, List.getElem_cons_zero, List.getElem_cons_succ, List.setIfInBounds_toArray, List.set_cons_zero, List.set_cons_succ]
          refine wpAnyH_done (by kernel_rfl) ?_ _
          go_wp2
          go_roundw
          case rel => exact ⟨j + 1, by omega, by first | rfl | go_num, HFIN.out⟩
          case measure => simp [intOf]; omega
    · obtain rfl : j = p := by omega
      have hok2 : HdrOk (fun b => E b ∧ b < w.heap.size) w lv hdr nmv := fun i x hx => by
        obtain ⟨⟨K, kn, kc, e, y⟩, h2⟩ := HOK.out i x hx
        exact ⟨⟨K, kn, kc, e, y.now⟩, h2⟩
      have HFIN := Lib.hid (abv_done HI.out hok2 HB.out (fun b hb => hE b hb.1) (fun b hb => hb.2) hlen HPE.out hp (by omega))
      clear t1 t2 t3 t4 t5 nD hok2
      go_wp2
      go_ret
      obtain ⟨A', c', D2, f1, f2, f3, f4, f5⟩ := HFIN.out
      exact ⟨A', c', D2, f1, f2, f3, f4, f5.mono fun b hb => hb.imp (fun h => h.1) id⟩
end Go.Proofs.Ytdkppgmhhijkgaa
