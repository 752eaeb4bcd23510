/- The walk of ArenaPlays: it returns true, and nothing that was there before the call is changed. Condition: what came in can be read. -/
import Derived.Test.YtbphjhmmdkaggaaNy
import Derived.Deep.DeepCutAuto
import Derived.Deep.CutBlock
namespace Go.Proofs.Ytbphjhmmdkaggaa
open Go.RowKit
set_option linter.unusedVariables false

set_option maxRecDepth 100000 in
set_option maxHeartbeats 2000000 in
theorem plays_long {w : World} {A : Option Addr} {n : Nat} (c : Nat) (hm : n ≤ maxLen) (hn : 100 < n) :
    Calls Try.prog 3 #[.slice A n c] w fun e w' => e = .returned (.bool true) ∧ Below w.heap.size w w' := by
  unfold maxLen at hm
  have h2 : (100 : Int) < n := by omega
  go_enter Try.func3, Try.ntmps3
  go_wp2_with fail
  refine (up_any _).mono ?_
  rintro e w1 ⟨rfl, hb1⟩
  go_wp2_with fail
  refine (new_arb _).mono ?_
  rintro e w2 ⟨rfl, -, hb2⟩
  have hb := hb1.trans (hb2.mono hb1.size)
  clear hb1 hb2
  go_wp2
  go_ret
  exact ⟨rfl, hb⟩

theorem ref_new {w w2 : World} (hb : w.heap.size ≤ w2.heap.size) : Ref w (w2.alloc (.cells #[.slice none 0 0, .slice none 0 0, .slice none 0 0] 31)) (· = w2.heap.size) w2.heap.size [] [] none none none 0 0 0 [] := by
  refine ⟨⟨heap_alloc_new w2 _, fun i d hd => ?_, rfl, fun i d hd a ha => ?_, fun i j di dj hi hj hne a b ha hb => ?_, fun b hb => by rw [hb]; simp⟩, fun i x hx => by rw [lat_out (Nat.zero_le _)] at hx; cases hx⟩
  · rcases i with _ | _ | _ | i
    all_goals first | (simp at hd; done) | (simp at hd; subst hd; exact World.ownsRow_nil _ _ _ _)
  · rcases i with _ | _ | _ | i
    all_goals first | (simp at hd; done) | (simp at hd; subst hd; cases ha)
  · rcases i with _ | _ | _ | i
    all_goals first | (simp at hi; done) | (simp at hi; subst hi; cases ha)

set_option maxRecDepth 100000 in
set_option maxHeartbeats 40000000 in
theorem plays_short {w : World} {A : Option Addr} {n : Nat} (c : Nat) (h : Deeds w A n) (hn : n ≤ 100) :
    Calls Try.prog 3 #[.slice A n c] w fun e w' => e = .returned (.bool true) ∧ Below w.heap.size w w' := by
  have H := Lib.hid h
  have h2 : decide ((100 : Int) < n) = false := by simp; omega
  clear h
  go_enter Try.func3, Try.ntmps3
  go_wp2_with fail
  refine (up_any _).mono ?_
  rintro e w1 ⟨rfl, hb1⟩
  go_wp2_with fail
  refine (new_any _).mono ?_
  rintro e w2 ⟨rfl, ha2, hz2, hb2⟩
  have hB2 : Below w.heap.size w w2 := hb1.trans (hb2.mono hb1.size)
  have hR : PS w w1.heap.size w2.heap.size [] [] [] [] (fun _ => False) (w2.alloc (.cells #[.slice none 0 0, .slice none 0 0, .slice none 0 0] 31)) :=
    ⟨_, _, _, _, _, _, _, _, _, ha2.keep (agree_alloc _ _), ref_new hB2.size, (fun b hb => by rw [hb]; exact hb1.size), (fun b hb => by rw [hb]; exact hB2.size), (fun b hb hb' => by rw [hb] at hb'; omega), (fun b hb => False.elim hb), hB2.alloc hB2.size _⟩
  have HR := Lib.hid hR
  obtain ⟨G, hG⟩ : ∃ G, G = w1.heap.size := ⟨_, rfl⟩
  rw [← hG] at HR ⊢
  clear hR ha2 hz2 hb2 hb1 hG
  go_wp2
  obtain ⟨R, hRR⟩ : ∃ R, R = w2.heap.size := ⟨_, rfl⟩
  rw [← hRR] at HR ⊢
  clear h2 hRR hB2
  go_loopw [6] (fun i wr => ∃ (j : Nat) (L : List (Option Nd)) (F : List Nat), j ≤ n ∧ i = .int .i64 j ∧ PS w G R L F L F (fun _ => False) wr ∧ L.length ≤ j ∧ F.length ≤ j) (fun i _ => n - (intOf i).toNat)
  case atStart => exact ⟨0, [], [], Nat.zero_le _, rfl, HR.out, Nat.zero_le _, Nat.zero_le _⟩
  case round =>
    obtain ⟨j, L, F, hj, rfl, hP, hL, hF⟩ := hrel
    clear HR
    by_cases hlt : j < n
    · obtain ⟨b, o, rfl, hbl, hat⟩ := H.out.2 (by omega)
      obtain ⟨wh, at', dh, dx, e0, e1, e2, e3, e4, e5, e6, hdn, hwh, hat'⟩ := hat j hlt
      have hb := hP.size
      have c0 := (hb.cell (p := ⟨b, o + j * 7, none⟩) hbl).trans e0
      have c1' := (hb.cell (p := ⟨b, o + j * 7 + 1, none⟩) hbl).trans e1
      have c2 := (hb.cell (p := ⟨b, o + j * 7 + 2, none⟩) hbl).trans e2
      have c3 := (hb.cell (p := ⟨b, o + j * 7 + 3, none⟩) hbl).trans e3
      have c4 := (hb.cell (p := ⟨b, o + j * 7 + 4, none⟩) hbl).trans e4
      have c5 := (hb.cell (p := ⟨b, o + j * 7 + 5, none⟩) hbl).trans e5
      have c6 := (hb.cell (p := ⟨b, o + j * 7 + 6, none⟩) hbl).trans e6
      have HN := Lib.hid hdn
      have HP := Lib.hid hP
      have HBW := Lib.hid hb
      have hbw : b < wr.heap.size := Nat.lt_of_lt_of_le hbl hb.size
      clear e0 e1 e2 e3 e4 e5 e6 hdn hat hP hb
      go_wp2_with fail
      have hW1 : Below wr.heap.size wr (wr.alloc (.cells #[.int .i64 wh, .int .i64 at', .bool dx.leaf, .slice dh.A dh.n dh.c, .slice dh.B dh.m dh.d, .slice dh.K dh.k dh.e, .int .i64 dx.next] 37)) := (Below.refl _ _).alloc (Nat.le_refl _) _
      have HW1 := Lib.hid hW1
      have HX0 := Lib.hid (heap_alloc_new wr (.cells #[.int .i64 wh, .int .i64 at', .bool dx.leaf, .slice dh.A dh.n dh.c, .slice dh.B dh.m dh.d, .slice dh.K dh.k dh.e, .int .i64 dx.next] 37))
      refine (fewn_any ((HN.out.below HBW.out).below hW1)).mono ?_
      rintro e w3 ⟨bf, rfl, hsm, hb3⟩
      have HB3 := Lib.hid hb3
      have HSM := Lib.hid hsm
      have x0 := (hb3.block wr.heap.size (by simp)).trans HX0.out
      have hsz3 : wr.heap.size < w3.heap.size := by have := hb3.size; simp at this; omega
      obtain ⟨k0, k1, k2, k3, k4, k5, k6⟩ := seven x0
      have HX := Lib.hid x0
      clear c0 c1' c2 c3 c4 c5 c6 hbw hb3 hsm x0 hW1 HX0
      cases bf
      · go_wp2
        go_ret
        exact ⟨rfl, (HBW.out.trans (HW1.out.mono HBW.out.size)).trans (HB3.out.mono (Nat.le_trans HBW.out.size HW1.out.size))⟩
      · have hs := HSM.out rfl
        have hkk : dh.k ≤ 1000 := by have := hs.2.2.2.2; have := HN.out.2.2.1; omega
        have HS := Lib.hid hs
        have HBX := Lib.hid (HW1.out.trans (HB3.out.mono HW1.out.size))
        have ho1 := World.ownsRow_made (base := w3.heap.size + 1) (e := 3) (size := 1) (w3.alloc (.cells #[.bool dx.leaf, .slice dh.A dh.n dh.c, .slice dh.B dh.m dh.d, .slice dh.K dh.k dh.e, .int .i64 dx.next] 35)) #[] 0 (by simp) (Nat.zero_le _) rfl
        rw [show (w3.alloc (.cells #[.bool dx.leaf, .slice dh.A dh.n dh.c, .slice dh.B dh.m dh.d, .slice dh.K dh.k dh.e, .int .i64 dx.next] 35)).heap.size = w3.heap.size + 1 from alloc_size rfl _] at ho1
        have HO1 := Lib.hid ho1
        clear ho1
        have HIN := Lib.hid (show Ins w3 dh.K dh.k dh.e dx.kids from (HN.out.2.2.below HBW.out).below HBX.out)
        have HB4 := Lib.hid (show Below w3.heap.size w3 ((w3.alloc (.cells #[.bool dx.leaf, .slice dh.A dh.n dh.c, .slice dh.B dh.m dh.d, .slice dh.K dh.k dh.e, .int .i64 dx.next] 35)).alloc (.cells #[] 3)) from ((Below.refl _ _).alloc (Nat.le_refl _) _).alloc (by simp) _)
        clear hs HSM
        go_wp2_with (at_builtin; refine wpList_append_ins rfl _ _ rfl (w3.heap.size + 1) _ 0 [] rfl HO1.out dh.K dh.k dh.e dx.kids rfl HIN.out HB4.out (by omega) (by simp) ?_)
        intro vK w4 hown4 hg4
        clear k0 k1 k2 k3 k4 k5 k6
        obtain ⟨K, kc, rfl, hbo, q3, f3, q1⟩ := boxed_of (w := w) (dx := dx) hsz3 HBX.out HX.out (by simpa using hown4) hg4
        obtain ⟨W, hW⟩ : ∃ W, W = w4.setCell ⟨w3.heap.size, 3, none⟩ (.slice K dh.k kc) := ⟨_, rfl⟩
        rw [← hW] at hbo
        have HBO := Lib.hid hbo
        have HW := Lib.hid hW
        have hps := hbo.ps HP.out
        have HPS := Lib.hid hps
        obtain ⟨O, hO⟩ : ∃ O, O = w3.heap.size := ⟨_, rfl⟩
        have HOO := Lib.hid hO
        rw [← hO] at HBO
        have hx := hbo.2.1
        obtain ⟨k0, k1, k2, k3, k4, k5, k6⟩ := seven hx
        have ho := hbo.2.2.1
        rw [← hO] at ho
        obtain ⟨o0, o1, o2, o3, o4, -⟩ := five ho
        have HK := Lib.hid (And.intro k0 (And.intro k1 (And.intro k2 (And.intro k3 (And.intro k4 (And.intro k5 k6))))))
        have HOB := Lib.hid (And.intro o0 (And.intro o1 (And.intro o2 (And.intro o3 o4))))
        have hXW : wr.heap.size < W.heap.size := Nat.lt_of_lt_of_le hbo.1 (Nat.le_of_lt hbo.2.2.2.1)
        have hOW : O < W.heap.size := by rw [hO]; exact hbo.2.2.2.1
        clear hown4 hg4 hbo hW hps hx ho k0 k1 k2 k3 k4 k5 k6 o0 o1 o2 o3 o4 HX HIN HB4 HO1 HB3 HW1 hO
        have hne : ¬ (wr.heap.size = w3.heap.size) := by omega
        go_wp2_with fail
        rw [← HW.out, ← HOO.out]
        clear q1 q3 f3 hne
        refine (ps_is HPS.out at' hat'.2).mono ?_
        rintro e w5 ⟨rfl, rfl⟩
        have hpw := pk_lt wh 4 (by omega)
        obtain ⟨q, hq⟩ : ∃ q, pk wh 4 = q := ⟨_, rfl⟩
        have hq0 : 0 ≤ q ∧ q < 4 := by rw [← hq]; exact hpw
        obtain ⟨k0, k1, k2, k3, k4, k5, k6⟩ := HK.out
        go_wp2_with fail
        refine (pick_any wh 4 q _ hwh.1 hwh.2 (by omega) (by omega) hq).mono ?_
        rintro e w5 ⟨rfl, rfl⟩
        clear hpw hq k0 k1 k2 k3 k4 k5 k6
        generalize hub : usedB L at' = ub
        have HUB := Lib.hid hub
        clear hub
        go_upto_block 2 with fail
        go_cut [11, 12] (fun _ _ wx => Aft w G R j O wr.heap.size W.heap.size K kc dh dx wx)
        case first =>
          have hF2 : F.length ≤ 10000 := by omega
          have hcase : q = 0 ∨ q = 1 ∨ q = 2 ∨ q = 3 := by omega
          have hnode := HBO.out.node HBW.out HN.out
          rcases hcase with rfl | rfl | rfl | rfl
          · as_aux_lemma =>
              go_upto_region 25 with fail
              have D0 := Lib.hid (ps_make HPS.out.drew (by omega) hF2 (hnode.keep (agree_drew _)) HS.out)
              obtain ⟨⟨o0, o1, o2, o3, o4⟩, ⟨k0, k1, k2, k3, k4, k5, k6⟩⟩ := HBO.out.keep (Agree.refl _ W)
              go_region_held3 (fun w' => w'.cell? ⟨O, 0, none⟩ = some (.bool dx.leaf) ∧ w'.cell? ⟨O, 1, none⟩ = some (.slice dh.A dh.n dh.c) ∧ w'.cell? ⟨O, 2, none⟩ = some (.slice dh.B dh.m dh.d) ∧ w'.cell? ⟨O, 3, none⟩ = some (.slice K dh.k kc) ∧ w'.cell? ⟨O, 4, none⟩ = some (.int .i64 dx.next) ∧
                  w'.cell? ⟨wr.heap.size, 2, none⟩ = some (.bool dx.leaf) ∧ w'.cell? ⟨wr.heap.size, 3, none⟩ = some (.slice dh.A dh.n dh.c) ∧ w'.cell? ⟨wr.heap.size, 4, none⟩ = some (.slice dh.B dh.m dh.d) ∧ w'.cell? ⟨wr.heap.size, 5, none⟩ = some (.slice dh.K dh.k dh.e) ∧ w'.cell? ⟨wr.heap.size, 6, none⟩ = some (.int .i64 dx.next)) (go_keep)
                (first
                  | (go_at_call 10
                     (with_reducible refine D0.out.mono ?_)
                     rintro e w5 ⟨rfl, hp5, ha5⟩
                     have ha5 := agree_undrew ha5
                     obtain ⟨⟨o0, o1, o2, o3, o4⟩, ⟨k0, k1, k2, k3, k4, k5, k6⟩⟩ := HBO.out.keep ha5
                     have P5 := Lib.hid (And.intro hp5 ha5)
                     clear hp5 ha5)
                  | (go_at_call 12
                     (refine (as_any dh dx _).mono ?_)
                     rintro e w6 ⟨rfl, hb6⟩
                     have ha6 := P5.out.2.trans (below_all hb6)
                     have hp6 := P5.out.1.below hb6 (fun b hb => .inl hb)
                     obtain ⟨⟨o0, o1, o2, o3, o4⟩, ⟨k0, k1, k2, k3, k4, k5, k6⟩⟩ := HBO.out.keep ha6
                     have D6 := Lib.hid (ps_rmake hp6 HPS.out.free (by omega) hF2 HN.out)
                     have P6 := Lib.hid (And.intro hp6 ha6)
                     clear hp6 ha6 hb6)
                  | (go_at_call 11
                     (refine D6.out.mono ?_)
                     rintro e w7 ⟨rfl, hp7, ha7⟩
                     have ha7 := P6.out.2.trans ha7
                     obtain ⟨⟨o0, o1, o2, o3, o4⟩, ⟨k0, k1, k2, k3, k4, k5, k6⟩⟩ := HBO.out.keep ha7
                     have P7 := Lib.hid (And.intro hp7 ha7)
                     clear hp7 ha7))
              have hz : (((mkI L F : Nat) : Int) != ((mkI L F : Nat) : Int)) = false := by simp
              have hml := mkL_len L F dx
              have HA := Lib.hid (aft_of (j := j) HBO.out P7.out.2 P7.out.1 (by omega) (by omega))
              clear hml hnode P5 P6 P7 D0 D6 o0 o1 o2 o3 o4 k0 k1 k2 k3 k4 k5 k6
              go_wp2
              go_meet
              exact HA.out
          · as_aux_lemma =>
              go_upto_region 25 with fail
              have D0 := Lib.hid (ps_make HPS.out.drew (by omega) hF2 (hnode.keep (agree_drew _)) HS.out)
              obtain ⟨⟨o0, o1, o2, o3, o4⟩, ⟨k0, k1, k2, k3, k4, k5, k6⟩⟩ := HBO.out.keep (Agree.refl _ W)
              go_region_held3 (fun w' => w'.cell? ⟨O, 0, none⟩ = some (.bool dx.leaf) ∧ w'.cell? ⟨O, 1, none⟩ = some (.slice dh.A dh.n dh.c) ∧ w'.cell? ⟨O, 2, none⟩ = some (.slice dh.B dh.m dh.d) ∧ w'.cell? ⟨O, 3, none⟩ = some (.slice K dh.k kc) ∧ w'.cell? ⟨O, 4, none⟩ = some (.int .i64 dx.next) ∧
                  w'.cell? ⟨wr.heap.size, 2, none⟩ = some (.bool dx.leaf) ∧ w'.cell? ⟨wr.heap.size, 3, none⟩ = some (.slice dh.A dh.n dh.c) ∧ w'.cell? ⟨wr.heap.size, 4, none⟩ = some (.slice dh.B dh.m dh.d) ∧ w'.cell? ⟨wr.heap.size, 5, none⟩ = some (.slice dh.K dh.k dh.e) ∧ w'.cell? ⟨wr.heap.size, 6, none⟩ = some (.int .i64 dx.next)) (go_keep)
                (first
                  | (go_at_call 10
                     (with_reducible refine D0.out.mono ?_)
                     rintro e w5 ⟨rfl, hp5, ha5⟩
                     have ha5 := agree_undrew ha5
                     obtain ⟨⟨o0, o1, o2, o3, o4⟩, ⟨k0, k1, k2, k3, k4, k5, k6⟩⟩ := HBO.out.keep ha5
                     have P5 := Lib.hid (And.intro hp5 ha5)
                     clear hp5 ha5)
                  | (go_at_call 12
                     (refine (as_any dh dx _).mono ?_)
                     rintro e w6 ⟨rfl, hb6⟩
                     have ha6 := P5.out.2.trans (below_all hb6)
                     have hp6 := P5.out.1.below hb6 (fun b hb => .inl hb)
                     obtain ⟨⟨o0, o1, o2, o3, o4⟩, ⟨k0, k1, k2, k3, k4, k5, k6⟩⟩ := HBO.out.keep ha6
                     have D6 := Lib.hid (ps_rmake hp6 HPS.out.free (by omega) hF2 HN.out)
                     have P6 := Lib.hid (And.intro hp6 ha6)
                     clear hp6 ha6 hb6)
                  | (go_at_call 11
                     (refine D6.out.mono ?_)
                     rintro e w7 ⟨rfl, hp7, ha7⟩
                     have ha7 := P6.out.2.trans ha7
                     obtain ⟨⟨o0, o1, o2, o3, o4⟩, ⟨k0, k1, k2, k3, k4, k5, k6⟩⟩ := HBO.out.keep ha7
                     have P7 := Lib.hid (And.intro hp7 ha7)
                     clear hp7 ha7))
              have hz : (((mkI L F : Nat) : Int) != ((mkI L F : Nat) : Int)) = false := by simp
              have hml := mkL_len L F dx
              have HA := Lib.hid (aft_of (j := j) HBO.out P7.out.2 P7.out.1 (by omega) (by omega))
              clear hml hnode P5 P6 P7 D0 D6 o0 o1 o2 o3 o4 k0 k1 k2 k3 k4 k5 k6
              go_wp2
              go_meet
              exact HA.out
          · as_aux_lemma =>
              obtain ⟨⟨o0, o1, o2, o3, o4⟩, ⟨k0, k1, k2, k3, k4, k5, k6⟩⟩ := HBO.out.keep (Agree.refl _ W)
              have hset := ps_set HPS.out at' hat'.2 hnode.here HS.out
              have HE := Lib.hid eql_err
              have HNE := Lib.hid neq_err
              cases ub
              · have hu := HUB.out
                rw [hu] at hset
                rw [if_neg (by simp), if_neg (by simp)] at hset
                rw [errV_some (show (3 : Int) ≠ 0 by decide)] at hset
                clear hnode hu
                go_wp2_with fail
                refine hset.mono ?_
                rintro e w5 ⟨rfl, hp5, ha5⟩
                have HA := Lib.hid (aft_of (j := j) HBO.out ha5 hp5 (by omega) (by omega))
                clear hset hp5 ha5 o0 o1 o2 o3 o4 k0 k1 k2 k3 k4 k5 k6
                go_wp2_with fail
                refine (code_some 3 _ (by omega) (by omega)).mono ?_
                rintro e w6 ⟨rfl, rfl⟩
                go_wp2
                go_meet
                exact HA.out
              · have hu := HUB.out
                rw [hu, if_pos rfl, if_pos rfl, errV_zero] at hset
                obtain ⟨kk, rfl⟩ : ∃ kk : Nat, at' = kk := by
                  unfold usedB at hu
                  simp at hu
                  exact ⟨at'.toNat, by omega⟩
                rw [Int.toNat_natCast] at hset
                obtain ⟨y, hy⟩ : ∃ y, lat L kk = some y := by
                  unfold usedB at hu
                  simp at hu
                  exact Option.isSome_iff_exists.1 hu
                clear hnode hu
                go_wp2_with fail
                refine hset.mono ?_
                rintro e w5 ⟨rfl, hp5, ha5⟩
                clear hset o0 o1 o2 o3 o4 k0 k1 k2 k3 k4 k5 k6
                go_upto_region 32 with fail
                obtain ⟨-, ⟨k0, k1, k2, k3, k4, k5, k6⟩⟩ := HBO.out.keep ha5
                obtain ⟨p, pc, u0, u1, u2, u3, u4, c0, hkl, hLm, hpl, hrl, hpr, hXp, g0, g1, g2, g3, g4, fz, hst⟩ := ps_store (x := dx) hp5 hy HN.out
                have hxp : ¬ (wr.heap.size = p) := hXp _ ⟨Nat.le_refl _, hXW⟩
                have hxp' : ¬ (p = wr.heap.size) := fun e => hxp e.symm
                have hrp : ¬ (R = p) := fun e => hpr e.symm
                have hx5 : wr.heap.size < w5.heap.size := Nat.lt_of_lt_of_le hXW ha5.1
                have K5 := Lib.hid (And.intro k1 (And.intro k2 (And.intro k3 (And.intro k4 (And.intro k5 (And.intro k6 c0))))))
                have KG := Lib.hid (And.intro g0 (And.intro g1 (And.intro g2 (And.intro g3 (And.intro g4 fz)))))
                have HST := Lib.hid hst
                have HA5 := Lib.hid ha5
                have hi0 : (0 : Int) ≤ (kk : Int) := by omega
                have hi1 : (kk : Int) < (L.length : Int) := by omega
                clear hst hp5 ha5 fz k0 g0 g1 g2 g3 g4
                go_region_held3 (fun w' => w'.cell? ⟨R, 0, none⟩ = some (.slice (some ⟨p, 0, none⟩) L.length pc) ∧ w'.cell? ⟨wr.heap.size, 1, none⟩ = some (.int .i64 kk) ∧ w'.cell? ⟨wr.heap.size, 2, none⟩ = some (.bool dx.leaf) ∧ w'.cell? ⟨wr.heap.size, 3, none⟩ = some (.slice dh.A dh.n dh.c) ∧ w'.cell? ⟨wr.heap.size, 4, none⟩ = some (.slice dh.B dh.m dh.d) ∧ w'.cell? ⟨wr.heap.size, 5, none⟩ = some (.slice dh.K dh.k dh.e) ∧ w'.cell? ⟨wr.heap.size, 6, none⟩ = some (.int .i64 dx.next)) (go_keep)
                  ((go_at_call 12
                    (refine (as_any dh dx _).mono ?_)
                    rintro e w6 ⟨rfl, hb6⟩
                    have hb6 : Below w5.heap.size w5 w6 := ⟨hb6.os, hb6.tape, hb6.output, hb6.size, hb6.block⟩
                    have c0 := (hb6.cell (p := ⟨R, 0, none⟩) hrl).trans K5.out.2.2.2.2.2.2
                    have k1 := (hb6.cell (p := ⟨wr.heap.size, 1, none⟩) hx5).trans K5.out.1
                    have k2 := (hb6.cell (p := ⟨wr.heap.size, 2, none⟩) hx5).trans K5.out.2.1
                    have k3 := (hb6.cell (p := ⟨wr.heap.size, 3, none⟩) hx5).trans K5.out.2.2.1
                    have k4 := (hb6.cell (p := ⟨wr.heap.size, 4, none⟩) hx5).trans K5.out.2.2.2.1
                    have k5 := (hb6.cell (p := ⟨wr.heap.size, 5, none⟩) hx5).trans K5.out.2.2.2.2.1
                    have k6 := (hb6.cell (p := ⟨wr.heap.size, 6, none⟩) hx5).trans K5.out.2.2.2.2.2.1
                    have g0 := (hb6.cell (p := ⟨p, kk * 5, none⟩) hpl).trans KG.out.1
                    have g1 := (hb6.cell (p := ⟨p, kk * 5 + 1, none⟩) hpl).trans KG.out.2.1
                    have g2 := (hb6.cell (p := ⟨p, kk * 5 + 2, none⟩) hpl).trans KG.out.2.2.1
                    have g3 := (hb6.cell (p := ⟨p, kk * 5 + 3, none⟩) hpl).trans KG.out.2.2.2.1
                    have g4 := (hb6.cell (p := ⟨p, kk * 5 + 4, none⟩) hpl).trans KG.out.2.2.2.2.1
                    have y0 := (hb6.frozen (p := ⟨p, kk * 5, none⟩) hpl).trans (KG.out.2.2.2.2.2 _)
                    have y1 := (hb6.frozen (p := ⟨p, kk * 5 + 1, none⟩) hpl).trans (KG.out.2.2.2.2.2 _)
                    have y2 := (hb6.frozen (p := ⟨p, kk * 5 + 2, none⟩) hpl).trans (KG.out.2.2.2.2.2 _)
                    have y3 := (hb6.frozen (p := ⟨p, kk * 5 + 3, none⟩) hpl).trans (KG.out.2.2.2.2.2 _)
                    have y4 := (hb6.frozen (p := ⟨p, kk * 5 + 4, none⟩) hpl).trans (KG.out.2.2.2.2.2 _)
                    have HB6 := Lib.hid hb6
                    clear hb6))
                have hfin := HST.out _ HB6.out
                have HA := Lib.hid (aft_of (j := j) HBO.out (HA5.out.trans hfin.2) hfin.1 (by simp; omega) (by omega))
                clear hfin
                go_wp2
                go_meet
                exact HA.out
          · as_aux_lemma =>
              obtain ⟨⟨o0, o1, o2, o3, o4⟩, ⟨k0, k1, k2, k3, k4, k5, k6⟩⟩ := HBO.out.keep (Agree.refl _ W)
              have hset := ps_free HPS.out at' hat'.2 hF2
              have HE := Lib.hid eql_err
              cases ub
              · have hu := HUB.out
                rw [hu] at hset
                rw [if_neg (by simp), if_neg (by simp), if_neg (by simp)] at hset
                rw [errV_some (show (3 : Int) ≠ 0 by decide)] at hset
                clear hnode hu
                go_wp2_with fail
                refine hset.mono ?_
                rintro e w5 ⟨rfl, hp5, ha5⟩
                have HA := Lib.hid (aft_of (j := j) HBO.out ha5 hp5 (by omega) (by omega))
                clear hset hp5 ha5 o0 o1 o2 o3 o4 k0 k1 k2 k3 k4 k5 k6
                go_wp2_with fail
                refine (code_some 3 _ (by omega) (by omega)).mono ?_
                rintro e w6 ⟨rfl, rfl⟩
                go_wp2
                go_meet
                exact HA.out
              · have hu := HUB.out
                rw [hu, if_pos rfl, if_pos rfl, if_pos rfl, errV_zero] at hset
                obtain ⟨kk, rfl⟩ : ∃ kk : Nat, at' = kk := by
                  unfold usedB at hu
                  simp at hu
                  exact ⟨at'.toNat, by omega⟩
                rw [Int.toNat_natCast] at hset
                have hkl := usedB_lt hu
                clear hnode hu
                go_wp2_with fail
                refine hset.mono ?_
                rintro e w5 ⟨rfl, hp5, ha5⟩
                clear hset o0 o1 o2 o3 o4 k0 k1 k2 k3 k4 k5 k6
                go_upto_region 21 with fail
                obtain ⟨-, ⟨-, k1, -, -, -, -, -⟩⟩ := HBO.out.keep ha5
                obtain ⟨t, tc, u, c1, hLm, htl, hrl, htr, hXt, g0, fz, hp6, ha6⟩ := ps_unset hp5 hkl
                have hxt : ¬ (wr.heap.size = t) := hXt _ ⟨Nat.le_refl _, hXW⟩
                have hxt' : ¬ (t = wr.heap.size) := fun e => hxt e.symm
                have hrt : ¬ (R = t) := fun e => htr e.symm
                have hi0 : (0 : Int) ≤ (kk : Int) := by omega
                have hi1 : (kk : Int) < (L.length : Int) := by omega
                have HP6 := Lib.hid (And.intro hp6 (ha5.trans ha6))
                clear hp5 ha5 hp6 ha6
                go_region_held3 (fun w' => w'.cell? ⟨R, 1, none⟩ = some (.slice (some ⟨t, 0, none⟩) L.length tc) ∧ w'.cell? ⟨wr.heap.size, 1, none⟩ = some (.int .i64 kk)) (go_keep) (fail)
                obtain ⟨W6, hW6⟩ : ∃ W6, W6 = w5.setCell ⟨t, kk, none⟩ (.bool false) := ⟨_, rfl⟩
                have HW6 := Lib.hid hW6
                rw [← hW6] at HP6
                obtain ⟨Q, qc, c2, f2, hrl6, hrQ, hown6, hpush⟩ := ps_push kk HP6.out.1
                have hx6 : wr.heap.size < W6.heap.size := Nat.lt_of_lt_of_le hXW HP6.out.2.1
                obtain ⟨-, ⟨-, k1', -, -, -, -, -⟩⟩ := HBO.out.keep HP6.out.2
                have KQ := Lib.hid (And.intro c2 (And.intro f2 k1'))
                have HQ := Lib.hid (And.intro hrQ (And.intro hown6 hpush))
                rw [← hW6]
                have hMF : F.length ≤ maxLen := Nat.le_trans hF2 (by unfold maxLen; omega)
                obtain ⟨i0, hi, hz0, hz1, hz2⟩ := info_parts Try.infoInt
                have HI := Lib.hid hi
                have HZ := Lib.hid (And.intro hz0 (And.intro hz1 hz2))
                clear hW6 c2 f2 k1' hrQ hown6 hpush c1 k1 g0 fz hxt hxt' hrt hLm htl hrl htr hXt hi hz0 hz1 hz2 hi0 hi1
                go_upto_region 22 with fail
                obtain ⟨c2, f2, k1⟩ := KQ.out
                go_region_law (first
                  | ((refine step_append_lies _ (by rfl) _ _ 29 (by rfl) 0 3 i0 (.int .i64 0) 1 8 Try.underlying29 HI.out HZ.out.1 HZ.out.2.1 HZ.out.2.2 (by rfl) (by decide) (.slice Q F.length qc) F.length (F.map natV) (by rfl) (HQ.out.2.1.alloc _) ⟨W6.heap.size, 0, none⟩ 1 1 [.int .i64 kk] (by rfl) (by rfl) (one_cell_at rfl) (fun u hu => by simp at hu; subst hu; rfl) (by omega) (by unfold maxLen; omega) (by omega) (Nat.zero_le _) (W6.heap.size + 1) (by first | exact alloc_size rfl _ | simp) ?_
                      intro q' cap w8 hown8 hg8 hat8 hlt8
                      have hg8 := undrewg (undrewg hg8)
                      have f2 := ((hg8.frozen_far ⟨R, 2, none⟩ (by rw [alloc_size rfl]; exact Nat.lt_succ_of_lt hrl6) HQ.out.1).trans (((Below.refl W6.heap.size W6).alloc (Nat.le_refl _) (.cells #[.int .i64 kk] 3)).frozen (p := ⟨R, 2, none⟩) hrl6)).trans f2
                      have c2 := ((hg8.cell_far ⟨R, 2, none⟩ (by rw [alloc_size rfl]; exact Nat.lt_succ_of_lt hrl6) HQ.out.1).trans (((Below.refl W6.heap.size W6).alloc (Nat.le_refl _) (.cells #[.int .i64 kk] 3)).cell (p := ⟨R, 2, none⟩) hrl6)).trans c2
                      have HG8 := Lib.hid (And.intro hown8 (And.intro hg8 (And.intro hat8 hlt8)))
                      clear hown8 hg8 hat8 hlt8)))
                all_goals
                  have hfin := HQ.out.2.2 _ w8 q' cap ((Below.refl W6.heap.size W6).alloc (Nat.le_refl _) (.cells #[.int .i64 kk] 3)) HG8.out.1 HG8.out.2.1 (HG8.out.2.2.1.imp id (fun e => by rw [e]; exact Nat.le_succ _)) HG8.out.2.2.2
                  have HA := Lib.hid (aft_of (j := j) HBO.out (HP6.out.2.trans hfin.2) hfin.1 (by simp; omega) (by simp; omega))
                  clear hfin HG8 c2 f2 k1 KQ HQ HI HZ
                  go_wp2
                  go_meet
                  exact HA.out
        case rest =>
          obtain ⟨L', F', hL', hF', hk⟩ := hcut.kinv HBW.out.size
          have HK2 := Lib.hid hk
          clear hk hcut HPS HBO HW HOO HK HOB HBX hXW hOW hsz3
          go_wp2
          go_loopw [13] (fun i wy => ∃ t : Nat, t ≤ dh.k ∧ i = .int .i64 t ∧ KInv w G R L' F' (fun b => wr.heap.size ≤ b ∧ b < W.heap.size) O (.bool dx.leaf) (.slice dh.A dh.n dh.c) (.slice dh.B dh.m dh.d) K dh.k kc (.int .i64 dx.next) wy) (fun i _ => dh.k - (intOf i).toNat)
          case atStart => exact ⟨0, Nat.zero_le _, rfl, HK2.out⟩
          case round =>
            obtain ⟨t, ht, rfl, hI⟩ := hrel
            clear HK2
            obtain ⟨-, -, -, o3, -, -⟩ := five hI.2.1
            by_cases hlt2 : t < dh.k
            · as_aux_lemma =>
                obtain ⟨kb, z, rfl, hkO, hkl, kc0, kf0⟩ := hI.at_ hlt2
                have HI2 := Lib.hid hI
                have hkO' : ¬ (O = kb) := fun e => hkO e.symm
                have s1 : (0 : Int) ≤ (t : Int) := by omega
                have s2 : (t : Int) < (dh.k : Int) := by omega
                clear hI
                go_wp2
                go_region_law (fail)
                all_goals
                  have HS2 := Lib.hid (fun v => HI2.out.set t v)
                  clear o3 kc0 kf0 HI2
                  go_wp2
                  go_roundw
                  case rel => exact ⟨t + 1, by omega, by go_num, HS2.out _⟩
                  case measure => simp [intOf]; omega
            · have hps3 := hI.1.less (X' := fun _ => False) (fun b hb => False.elim hb)
              have HP3 := Lib.hid hps3
              clear hI hps3
              have hLb : L'.length ≤ 101 := by omega
              go_wp2
              clear o3
              go_loopw [14] (fun i wz => ∃ k : Int, -1 ≤ k ∧ k ≤ L'.length + 1 ∧ i = .int .i64 k ∧ PS w G R L' F' L' F' (fun _ => False) wz) (fun i _ => ((L'.length : Int) + 1 - intOf i).toNat)
              case atStart => exact ⟨-1, by omega, by omega, rfl, HP3.out⟩
              case round =>
                obtain ⟨k, hk1, hk2, rfl, hp⟩ := hrel
                clear HP3
                obtain ⟨wp, rfl⟩ : ∃ wp : World, wp = wr := ⟨_, rfl⟩
                obtain ⟨P, T, Q, pc, tc, qc, c0, -, c2, hLm, hFm, hrl⟩ := ps_three hp
                have HPq := Lib.hid hp
                by_cases hkl : k ≤ L'.length
                · have hg := ps_get hp k (by omega)
                  clear hp c2
                  go_wp2_with fail
                  refine hg.mono ?_
                  rintro e w7 ⟨⟨nA, nn, nc, nB, nm, nd, nK, nk, ne⟩, rfl, hon, hb7, hown7⟩
                  clear hg c0
                  have HNX := Lib.hid (show ∃ nx, gotNd L' k = nx from ⟨_, rfl⟩)
                  have HON := Lib.hid hon
                  have HOW7 := Lib.hid hown7
                  have HT8 := Lib.hid (told_kinv (a := .bool (gotNd L' k).leaf) (b := .slice nA nn nc) (c := .slice nB nm nd) (nx := .int .i64 (gotNd L' k).next) HPq.out hb7 hown7)
                  have HB7 := Lib.hid hb7
                  clear hon hb7 hown7
                  cases hu : usedB L' k
                  · generalize gotNd L' k = nx at HON HOW7 HT8 HNX ⊢
                    obtain ⟨W8, hW8, hb8, hz8, hki⟩ := HT8.out
                    have his := ps_is hki.1 k (by omega)
                    rw [hu] at his
                    have HKI := Lib.hid hki
                    clear hu HT8 HON HNX hki
                    go_wp2_with fail
                    rw [← hW8]
                    clear hW8
                    refine his.mono ?_
                    rintro e w9 ⟨rfl, rfl⟩
                    clear his
                    go_wp2
                    have hnk : nk ≤ maxLen := Nat.le_trans (own_caps HOW7.out).1 (own_caps HOW7.out).2.1
                    unfold maxLen at hnk
                    go_loopw [17] (fun i wq => ∃ s : Nat, s ≤ nk ∧ i = .int .i64 s ∧ KInv w G R L' F' (fun i => wp.heap.size ≤ i ∧ i < w7.heap.size + 1) w7.heap.size (.bool nx.leaf) (.slice nA nn nc) (.slice nB nm nd) nK nk ne (.int .i64 nx.next) wq) (fun i _ => nk - (intOf i).toNat)
                    case atStart => exact ⟨0, Nat.zero_le _, rfl, HKI.out⟩
                    case round =>
                      obtain ⟨s, hs, rfl, hI⟩ := hrel
                      clear HKI HOW7
                      obtain ⟨-, -, -, o3, -, -⟩ := five hI.2.1
                      by_cases hlt4 : s < nk
                      · obtain ⟨kb, z, rfl, hkO, hkl4, kc0, kf0⟩ := hI.at_ hlt4
                        have HI2 := Lib.hid hI
                        have hkO' : ¬ (w7.heap.size = kb) := fun e => hkO e.symm
                        have s1 : (0 : Int) ≤ (s : Int) := by omega
                        have s2 : (s : Int) < (nk : Int) := by omega
                        clear hI
                        go_wp2
                        go_region_law (fail)
                        all_goals
                          have HS2 := Lib.hid (fun v => HI2.out.set s v)
                          clear o3 kc0 kf0 HI2
                          go_wp2
                          go_roundw
                          case rel => exact ⟨s + 1, by omega, by go_num, HS2.out _⟩
                          case measure => simp [intOf]; omega
                      · have hps4 := hI.1.less (X' := fun _ => False) (fun b hb => False.elim hb)
                        have HP4 := Lib.hid hps4
                        clear hI hps4
                        go_wp2
                        go_roundw
                        case rel => exact ⟨k + 1, by omega, by omega, rfl, HP4.out⟩
                        case measure => simp [intOf]; omega
                  · obtain ⟨kk, rfl⟩ : ∃ kk : Nat, k = kk := by
                      unfold usedB at hu
                      simp at hu
                      exact ⟨k.toNat, by omega⟩
                    obtain ⟨y, hy⟩ : ∃ y, lat L' kk = some y := by
                      unfold usedB at hu
                      simp at hu
                      exact Option.isSome_iff_exists.1 hu
                    rw [got_used hy] at HON HOW7 HT8 ⊢
                    obtain ⟨W8, hW8, hb8, hz8, hki⟩ := HT8.out
                    have his := ps_is hki.1 kk (by omega)
                    rw [hu] at his
                    obtain ⟨p, pc8, mh, c0, hkk, hLm8, hmn, hpl, hrl8, g0, g1, g2, g3, g4⟩ := ps_node hki.1 hy
                    obtain ⟨o0, o1, o2, o3, o4, -⟩ := five hki.2.1
                    have hnn : NdR W8 ⟨nA, nn, nc, nB, nm, nd, nK, nk, ne⟩ y := by
                      rw [hW8]
                      exact HON.out.here.alloc _
                    have HKI8 := Lib.hid hki
                    have HMN := Lib.hid (And.intro hmn hnn)
                    have hN8 : w7.heap.size < W8.heap.size := by omega
                    obtain ⟨nx, hnx⟩ : ∃ nx, nx = y := ⟨_, rfl⟩
                    clear hu HT8 HON HNX hki hmn hnn hy
                    go_wp2_with fail
                    rw [← hW8]
                    clear hW8
                    refine his.mono ?_
                    rintro e w9 ⟨rfl, rfl⟩
                    clear his
                    have C8 := Lib.hid (And.intro c0 (And.intro g0 (And.intro g1 (And.intro g2 (And.intro g3 g4)))))
                    have O8 := Lib.hid (And.intro o0 (And.intro o1 (And.intro o2 (And.intro o3 o4))))
                    clear c0 g0 g1 g2 g3 g4 o0 o1 o2 o3 o4
                    go_upto_region 44 with fail
                    obtain ⟨c0, g0, g1, g2, g3, g4⟩ := C8.out
                    obtain ⟨o0, o1, o2, o3, o4⟩ := O8.out
                    have hi0 : (0 : Int) ≤ (kk : Int) := by omega
                    have hi1 : (kk : Int) < (L'.length : Int) := by omega
                    go_region_held3 (fun w' => w'.cell? ⟨w7.heap.size, 0, none⟩ = some (.bool y.leaf) ∧ w'.cell? ⟨w7.heap.size, 1, none⟩ = some (.slice nA nn nc) ∧ w'.cell? ⟨w7.heap.size, 2, none⟩ = some (.slice nB nm nd) ∧ w'.cell? ⟨w7.heap.size, 3, none⟩ = some (.slice nK nk ne) ∧ w'.cell? ⟨w7.heap.size, 4, none⟩ = some (.int .i64 y.next) ∧
                        w'.cell? ⟨R, 0, none⟩ = some (.slice (some ⟨p, 0, none⟩) L'.length pc8) ∧ w'.cell? ⟨p, kk * 5, none⟩ = some (.bool y.leaf) ∧ w'.cell? ⟨p, kk * 5 + 1, none⟩ = some (.slice mh.A mh.n mh.c) ∧ w'.cell? ⟨p, kk * 5 + 2, none⟩ = some (.slice mh.B mh.m mh.d) ∧ w'.cell? ⟨p, kk * 5 + 3, none⟩ = some (.slice mh.K mh.k mh.e) ∧ w'.cell? ⟨p, kk * 5 + 4, none⟩ = some (.int .i64 y.next)) (go_keep)
                      (first
                        | (go_at_call 12
                           (refine (as_any ⟨nA, nn, nc, nB, nm, nd, nK, nk, ne⟩ y _).mono ?_)
                           rintro e w10 ⟨rfl, hb10⟩
                           have hb10 : Below W8.heap.size W8 w10 := ⟨hb10.os, hb10.tape, hb10.output, hb10.size, hb10.block⟩
                           have c0 := (hb10.cell (p := ⟨R, 0, none⟩) hrl8).trans C8.out.1
                           have g0 := (hb10.cell (p := ⟨p, kk * 5, none⟩) hpl).trans C8.out.2.1
                           have g1 := (hb10.cell (p := ⟨p, kk * 5 + 1, none⟩) hpl).trans C8.out.2.2.1
                           have g2 := (hb10.cell (p := ⟨p, kk * 5 + 2, none⟩) hpl).trans C8.out.2.2.2.1
                           have g3 := (hb10.cell (p := ⟨p, kk * 5 + 3, none⟩) hpl).trans C8.out.2.2.2.2.1
                           have g4 := (hb10.cell (p := ⟨p, kk * 5 + 4, none⟩) hpl).trans C8.out.2.2.2.2.2
                           have o0 := (hb10.cell (p := ⟨w7.heap.size, 0, none⟩) hN8).trans O8.out.1
                           have o1 := (hb10.cell (p := ⟨w7.heap.size, 1, none⟩) hN8).trans O8.out.2.1
                           have o2 := (hb10.cell (p := ⟨w7.heap.size, 2, none⟩) hN8).trans O8.out.2.2.1
                           have o3 := (hb10.cell (p := ⟨w7.heap.size, 3, none⟩) hN8).trans O8.out.2.2.2.1
                           have o4 := (hb10.cell (p := ⟨w7.heap.size, 4, none⟩) hN8).trans O8.out.2.2.2.2
                           have H10 := Lib.hid hb10
                           clear hb10)
                        | (go_at_call 17
                           (refine (nodes_same (HMN.out.2.below H10.out) (HMN.out.1.below H10.out)).mono ?_)
                           rintro e w11 ⟨rfl, hb11⟩
                           have hb11 : Below W8.heap.size W8 w11 := H10.out.trans (hb11.mono H10.out.size)
                           have c0 := (hb11.cell (p := ⟨R, 0, none⟩) hrl8).trans C8.out.1
                           have g0 := (hb11.cell (p := ⟨p, kk * 5, none⟩) hpl).trans C8.out.2.1
                           have g1 := (hb11.cell (p := ⟨p, kk * 5 + 1, none⟩) hpl).trans C8.out.2.2.1
                           have g2 := (hb11.cell (p := ⟨p, kk * 5 + 2, none⟩) hpl).trans C8.out.2.2.2.1
                           have g3 := (hb11.cell (p := ⟨p, kk * 5 + 3, none⟩) hpl).trans C8.out.2.2.2.2.1
                           have g4 := (hb11.cell (p := ⟨p, kk * 5 + 4, none⟩) hpl).trans C8.out.2.2.2.2.2
                           have o0 := (hb11.cell (p := ⟨w7.heap.size, 0, none⟩) hN8).trans O8.out.1
                           have o1 := (hb11.cell (p := ⟨w7.heap.size, 1, none⟩) hN8).trans O8.out.2.1
                           have o2 := (hb11.cell (p := ⟨w7.heap.size, 2, none⟩) hN8).trans O8.out.2.2.1
                           have o3 := (hb11.cell (p := ⟨w7.heap.size, 3, none⟩) hN8).trans O8.out.2.2.2.1
                           have o4 := (hb11.cell (p := ⟨w7.heap.size, 4, none⟩) hN8).trans O8.out.2.2.2.2
                           have H11 := Lib.hid hb11
                           clear hb11))
                    have HKI := Lib.hid (HKI8.out.below hN8 H11.out)
                    clear c0 g0 g1 g2 g3 g4 o0 o1 o2 o3 o4 C8 O8 H10 H11 HKI8 HMN
                    subst hnx
                    go_wp2
                    have hnk : nk ≤ maxLen := Nat.le_trans (own_caps HOW7.out).1 (own_caps HOW7.out).2.1
                    unfold maxLen at hnk
                    go_loopw [17] (fun i wq => ∃ s : Nat, s ≤ nk ∧ i = .int .i64 s ∧ KInv w G R L' F' (fun i => wp.heap.size ≤ i ∧ i < w7.heap.size + 1) w7.heap.size (.bool nx.leaf) (.slice nA nn nc) (.slice nB nm nd) nK nk ne (.int .i64 nx.next) wq) (fun i _ => nk - (intOf i).toNat)
                    case atStart => exact ⟨0, Nat.zero_le _, rfl, HKI.out⟩
                    case round =>
                      obtain ⟨s, hs, rfl, hI⟩ := hrel
                      clear HKI HOW7
                      obtain ⟨-, -, -, o3, -, -⟩ := five hI.2.1
                      by_cases hlt4 : s < nk
                      · obtain ⟨kb, z, rfl, hkO, hkl4, kc0, kf0⟩ := hI.at_ hlt4
                        have HI2 := Lib.hid hI
                        have hkO' : ¬ (w7.heap.size = kb) := fun e => hkO e.symm
                        have s1 : (0 : Int) ≤ (s : Int) := by omega
                        have s2 : (s : Int) < (nk : Int) := by omega
                        clear hI
                        go_wp2
                        go_region_law (fail)
                        all_goals
                          have HS2 := Lib.hid (fun v => HI2.out.set s v)
                          clear o3 kc0 kf0 HI2
                          go_wp2
                          go_roundw
                          case rel => exact ⟨s + 1, by omega, by go_num, HS2.out _⟩
                          case measure => simp [intOf]; omega
                      · have hps4 := hI.1.less (X' := fun _ => False) (fun b hb => False.elim hb)
                        have HP4 := Lib.hid hps4
                        clear hI hps4
                        go_wp2
                        go_roundw
                        case rel => exact ⟨(kk : Int) + 1, by omega, by omega, rfl, HP4.out⟩
                        case measure => simp [intOf]; omega
                · as_aux_lemma =>
                    have hz1 : (((L'.length : Int) - (F'.length : Int)) != ((L'.length : Int) - (F'.length : Int))) = false := by simp
                    have hz2 : ((L'.length : Int) != (L'.length : Int)) = false := by simp
                    have hw0 : IntKind.i64.wrap ((L'.length : Int) - (F'.length : Int)) = (L'.length : Int) - (F'.length : Int) := IntWalk.i64_in _ (by omega)
                    have HU := Lib.hid (fun q => ps_used (hp.drewN q))
                    have HLN := Lib.hid (fun q => ps_len (hp.drewN q))
                    clear hp
                    go_wp2
                    go_quiet ((first | (go_at_call 18; exact quiet_drawn (HU.out _)) | (go_at_call 19; exact quiet_left (HLN.out _))))
                    go_wp2
                    go_roundw
                    case rel => exact ⟨j + 1, L', F', by omega, by go_num, HPq.out.drewN _, by omega, by omega⟩
                    case measure => simp [intOf]; omega
    · have hb := hP.size
      clear hP
      go_wp2
      go_ret
      exact ⟨rfl, hb⟩


theorem plays_any {w : World} {A : Option Addr} {n : Nat} (c : Nat) (h : Deeds w A n) :
    Calls Try.prog 3 #[.slice A n c] w fun e w' => e = .returned (.bool true) ∧ Below w.heap.size w w' := by
  by_cases hn : n ≤ 100
  · exact plays_short c h hn
  · exact plays_long c h.1 (by omega)
end Go.Proofs.Ytbphjhmmdkaggaa
