/- JournalPlays' walk. Condition: what came in can be read; no more than 100 deeds. -/
import Derived.Test.YthcchaglloggjaaG3
import Derived.Deep.CutBlock
namespace Go.Proofs.Ythcchaglloggjaa
open Go.RowKit
set_option linter.unusedVariables false
set_option maxRecDepth 100000

def zs5 : Array Value := #[.int .i64 0, .bool false, .slice none 0 0, .slice none 0 0, .int .u64 0]
theorem make_res {t e : TypeId} (ht : Try.prog.underlying t = some (.slice e)) (hinfo : (Try.prog.info? e).map (fun i => (i.zero, i.size, i.bytes)) = some (some (.agg zs5), 5, 72)) (w : World) (n : Nat) (hn : n ≤ 40) :
    (Instr.makeSlice t (.int .i64 (n : Int)) (.int .i64 (n : Int))).run Try.prog w = .ok (.slice (some ⟨w.heap.size, 0, none⟩) n n) (w.alloc (.cells (madeCells zs5 (n * 5)) e)) := by
  obtain ⟨i, hi, hzz⟩ := Option.map_eq_some_iff.1 hinfo
  simp only [Prod.mk.injEq] at hzz
  obtain ⟨hz, hs, hb⟩ := hzz
  have hr := run_make (P := Try.prog) w t e i _ ht hi hz .i64 .i64 n n (by omega) (Int.le_refl _) (by rw [hb]; omega) (by omega)
  simp only [Int.toNat_natCast, hs] at hr
  exact hr
theorem Try.infoByte : (Try.prog.info? 5).map (fun i => (i.zero, i.size, i.bytes)) = some (some (.int .u8 0), 1, 1) := by kernel_rfl

theorem byte_cells (w : World) (x : Int) : ∀ j u, ([.int .u8 x] : List Value)[j]? = some u → ((w.alloc (.cells #[] 5)).alloc (.cells #[.int .u8 x] 5)).cell? ((⟨w.heap.size + 1, 0, none⟩ : Addr).add j) = some u := fun j u hu => by
  rcases j with _ | j
  · simp at hu; subst hu; simp [Addr.add]
  · simp at hu
/-- The document's own Apply, behind the program's. -/
def DapO (w : World) (p q ga : Nat) (vt vr vl : Value) (an : Nat) (kf : Int) (w7 : World) (e : Ending) (w8 : World) : Prop :=
  ∃ (vl8 : Value) (T9 : List Gr) (R9 : List Ry) (L9 : List It) (ap9 : Nat), e = .returned (.int .i64 kf) ∧ PM w p q ga vt vr vl8 T9 R9 L9 ap9 an w8 ∧ DI T9 R9 L9 ap9 an ∧ OkJ T9 R9 ∧ Kp (Fr p q vt vr vl) (Fr p q vt vr vl8) w7 w8
theorem dapply_side {w w7 : World} {p q ga n : Nat} {A : Option Addr} (c : Nat) {vt vr vl : Value} {T : List Gr} {R : List Ry} {L : List It} {ap an : Nat} {As : List An} {kf : Int} (hp : PM w p q ga vt vr vl (applyT T n) (applyR T R As) L ap an w7) (hdi : DI T R L ap an) (hok : OkJ T R) (hl : As.length = n) (hs : ∀ j, j < n → SmA (aq As j))
    (ha : On (Dq q vl) w7 (Anss · A n As)) (hab : ∀ a, A = some a → Dq q vl a.block) (hk : kf = applyK T n) :
    Calls Try.prog 13 #[.pointer (some ⟨q, 0, none⟩), .slice A n c] w7 (DapO w p q ga vt vr vl an kf w7) ∧ 0 ≤ kf ∧ kf ≤ 11 := by
  have hlen := hdi.lenf
  have hnx := hdi.next
  subst hk
  cases T with
  | nil =>
    have hz : (nextD L ap L.length).length = 0 := by rw [hnx]; rfl
    have D := dapply_no (n := n) (A := A) c hp.dm (by omega) (.inr hz)
    rw [if_pos hz] at D
    refine ⟨D.mono ?_, by show (0 : Int) ≤ 10; omega, by show (10 : Int) ≤ 11; omega⟩
    rintro e w8 ⟨vl8, rfl, hm8, hk8⟩
    obtain ⟨h1, h2⟩ := hp.doc hm8 hk8
    exact ⟨vl8, _, _, _, _, rfl, h1, hdi, hok, h2⟩
  | cons g T =>
    have hg := hok.ne g (by simp)
    have hz : (nextD L ap L.length).length = g.length := by rw [hnx]; exact List.length_map _
    by_cases he : n = g.length
    · have e1 : applyK (g :: T) n = 0 := if_pos he
      have e2 : applyT (g :: T) n = T := if_pos he
      have e3 : applyR (g :: T) R As = R ++ zipA g As := if_pos (by omega)
      rw [e2, e3] at hp
      rw [e1]
      have D := dapply_yes c hp.dm (by omega) (by have := hdi.apf; omega) (by omega) (by omega) ha hab
      refine ⟨D.mono ?_, by omega, by omega⟩
      rintro e w8 ⟨vl8, rfl, hm8, hk8⟩
      obtain ⟨h1, h2⟩ := hp.doc hm8 hk8
      exact ⟨vl8, _, _, _, _, rfl, h1, hdi.apply hok (by omega), ok_apply hok (by omega) (fun j hj => hs j (by omega)), h2⟩
    · have e1 : applyK (g :: T) n = 1 := if_neg he
      have e2 : applyT (g :: T) n = g :: T := if_neg he
      have e3 : applyR (g :: T) R As = R := if_neg (by omega)
      rw [e2, e3] at hp
      rw [e1]
      have D := dapply_no (n := n) (A := A) c hp.dm (by omega) (.inl (by omega))
      rw [if_neg (by omega)] at D
      refine ⟨D.mono ?_, by omega, by omega⟩
      rintro e w8 ⟨vl8, rfl, hm8, hk8⟩
      obtain ⟨h1, h2⟩ := hp.doc hm8 hk8
      exact ⟨vl8, _, _, _, _, rfl, h1, hdi, hok, h2⟩

set_option maxHeartbeats 2000000 in
theorem jplays_long {w : World} {A : Option Addr} {k : Nat} (c : Nat) (hk : 100 < k) :
    Calls Try.prog 3 #[.slice A k c] w fun e w' => e = .returned (.bool true) ∧ Below w.heap.size w w' := by
  have HUP := Lib.hid (up_any w)
  have HN := Lib.hid (fun w1 => jnew_any (fun _ => True) (w := w1) (Nat.le_refl _))
  have hk1 : decide ((k : Int) > 100) = true := by simp; omega
  have hk2 : (100 : Int) < (k : Int) := by omega
  go_enter Try.func3, Try.ntmps3
  go_wp2_with fail
  refine HUP.out.mono ?_
  rintro e w1 ⟨rfl, hb1⟩
  have HB1 := Lib.hid hb1
  clear hb1
  go_wp2_with fail
  refine (HN.out w1).mono ?_
  rintro e w2 ⟨rfl, -, hb2, -⟩
  have HB2 := Lib.hid (HB1.out.trans (hb2.mono HB1.out.size))
  clear hb2 HN HUP
  go_wp2
  go_ret
  exact ⟨rfl, HB2.out⟩

set_option maxHeartbeats 32000000 in
theorem jplays_main {w : World} {A : Option Addr} {k : Nat} (c : Nat) {M : List De} (h : Deeds w A k M) (hk : k ≤ 100) :
    Calls Try.prog 3 #[.slice A k c] w fun e w' => e = .returned (.bool true) ∧ Below w.heap.size w w' := by
  have HUP := Lib.hid (up_any w)
  have HN := Lib.hid (fun w1 (h : w.heap.size ≤ w1.heap.size) => jnew_any (fun b => Dq (w1.heap.size + 1) (.slice none 0 0) b ∧ b ≠ w1.heap.size) (w := w1) (N := w.heap.size) h)
  have hk1 : decide ((k : Int) > 100) = false := by simp; omega
  have hk2 : ¬ ((100 : Int) < (k : Int)) := by omega
  have H := Lib.hid h
  clear h
  go_enter Try.func3, Try.ntmps3
  go_wp2_with fail
  refine HUP.out.mono ?_
  rintro e w1 ⟨rfl, hb1⟩
  have HB1 := Lib.hid hb1
  have E := Lib.hid (HN.out w1 hb1.size)
  clear hb1 HUP HN
  go_wp2_with fail
  refine E.out.mono ?_
  rintro e w2 ⟨rfl, hm2, hb2, hs2⟩
  rw [← hs2] at hm2
  have HP := Lib.hid (show PS w w1.heap.size w2.heap.size (w2.alloc (.cells #[.slice none 0 0, .int .i64 0, .int .i64 0] 29)) from ⟨_, _, _, _, _, _, _, _, _, pm_new HB1.out hb2 hm2, di_nil, okj_nil⟩)
  clear hm2 hb2 hs2 E HB1
  go_upto_region 6 with fail
  generalize w2.alloc (.cells #[.slice none 0 0, .int .i64 0, .int .i64 0] 29) = w3 at HP ⊢
  generalize w1.heap.size = p at HP ⊢
  generalize w2.heap.size = q at HP ⊢
  clear hk1 hk2
  go_wp2
  go_loopw [6] (fun i wr => ∃ j : Nat, j ≤ k ∧ i = .int .i64 j ∧ PS w p q wr) (fun i _ => k - (intOf i).toNat)
  case atStart => exact ⟨0, Nat.zero_le _, rfl, HP.out⟩
  case round =>
    clear HP
    obtain ⟨j, hj, rfl, x0, vt, vr, vl, T, R, L, ap, an, hp, hdi, hok⟩ := hrel
    have HP := Lib.hid hp
    have HDI := Lib.hid hdi
    have HOK := Lib.hid hok
    clear hp hdi hok
    by_cases hlt : j < k
    · obtain ⟨lb, oo, rfl, hlb, h, hx0, hr, hw⟩ := H.out.at_ hlt
      have hx := hx0.below HP.out.below hlb
      generalize dq M j = x at hx hr hw
      obtain ⟨e0, e1, e2, e3⟩ := hx
      have HR := Lib.hid (der_old hr)
      have HWH := Lib.hid hw
      have HBX := Lib.hid (box_d wr h x)
      have hj0 : (0 : Int) ≤ (j : Int) := by omega
      have hj1 : (j : Int) < (k : Int) := by omega
      clear hx0 hr hw
      go_upto_region 10 with fail
      obtain ⟨W, hW, hWB, hWX, -⟩ := HBX.out
      rw [← hW]
      have HD := Lib.hid (show RD w p q x0 wr.heap.size h x vt vr vl T R L ap an W from ⟨HP.out.more hWB, hWX, HP.out.new (Nat.le_refl _)⟩)
      generalize wr.heap.size = g at HD ⊢
      clear hW hWB hWX HBX HP e0 e1 e2 e3
      have HF := Lib.hid (fewq_any h.d 50 ((HR.out.keep (below_agree HD.out.pm.below fun b hb _ => hb)).here.2))
      obtain ⟨e0, e1, e2, e3⟩ := HD.out.box.at_
      go_wp2_with fail
      refine HF.out.mono ?_
      rintro e w4 ⟨rfl, hb4⟩
      have HD5 := Lib.hid (HD.out.more hb4)
      clear hb4 HF HD e0 e1 e2 e3
      obtain ⟨e0, e1, e2, e3⟩ := HD5.out.box.at_
      obtain ⟨fw, hfw⟩ : ∃ fw, fw = fewQ x.l 50 := ⟨_, rfl⟩
      rw [← hfw]
      have HFW := Lib.hid hfw.symm
      clear hfw
      cases fw
      · go_wp2
        go_ret
        exact ⟨rfl, HD5.out.pm.below⟩
      by_cases hsn : 60 < h.n
      · have hs1 : decide ((h.n : Int) > 60) = true := by simp; omega
        have hs2 : (60 : Int) < (h.n : Int) := by omega
        go_wp2
        go_ret
        exact ⟨rfl, HD5.out.pm.below⟩
      have hs1 : decide ((h.n : Int) > 60) = false := by simp; omega
      have hs2 : ¬ ((60 : Int) < (h.n : Int)) := by omega
      have hpw := pk_lt x.what 4 (by omega)
      obtain ⟨u, hu⟩ : ∃ u, pk x.what 4 = u := ⟨_, rfl⟩
      have hu0 : 0 ≤ u ∧ u < 4 := by rw [← hu]; exact hpw
      have HU := Lib.hid hu
      clear hpw hu
      go_wp2_with fail
      refine (pick_any x.what 4 u _ HWH.out.1.1 HWH.out.1.2 (by omega) (by omega) HU.out).mono ?_
      rintro e w6 ⟨rfl, rfl⟩
      clear e0 e1 e2 e3 hs1 hs2
      go_upto_block 2 with fail
      go_cut [9, 10, 11, 12, 13, 14] (fun c f _ _ _ _ wx => Dun w p q c f wx)
      case first =>
          clear hj hlt
          have hcase : u = 0 ∨ u = 1 ∨ u = 2 ∨ u = 3 := by omega
          clear hu0 HU
          rcases hcase with rfl | rfl | rfl | rfl
          · as_aux_lemma =>
              obtain ⟨kb, hkb⟩ : ∃ kb, kb = beginK T R x.s x.l := ⟨_, rfl⟩
              have HKB := Lib.hid (show 0 ≤ kb ∧ kb ≤ 11 from hkb ▸ beginK_in T R x.s x.l)
              have HSL := Lib.hid (show ∀ j, j < h.m → smallQ (gq x.l j) = true from fun j hj => (fewQ_all HFW.out).1 j (by have := HR.out.here.2.1; omega))
              have hm50 : h.m ≤ 50 := by have := (fewQ_all HFW.out).2; have := HR.out.here.2.1; omega
              have D := begin_any h.c h.d HD5.out.pm.jm HOK.out HD5.out.pm.cnew (((HR.out.keep (below_agree HD5.out.pm.below fun b hb _ => hb)).mono (fun b hb => (HD5.out.pm.low hb).1)).imp fun w' hw' => hw'.1) (((HR.out.keep (below_agree HD5.out.pm.below fun b hb _ => hb)).mono (fun b hb => (HD5.out.pm.low hb).1)).imp fun w' hw' => hw'.2) HSL.out (by omega)
              rw [← hkb] at D
              have HD := Lib.hid D
              have HDB := Lib.hid (HDI.out.beginK HOK.out x.s x.l)
              have HKE := Lib.hid hkb
              clear D hkb
              obtain ⟨e0, e1, e2, e3⟩ := HD5.out.box.at_
              by_cases hk0 : kb = 0
              · subst hk0
                obtain ⟨⟨rfl, rfl⟩, hsl, hl32⟩ := begin_zero HKE.out.symm
                obtain ⟨rfl, rfl, rfl⟩ := HDI.out.reset rfl rfl
                have hml : x.l.length = h.m := HR.out.here.2.1
                rw [← HKE.out] at HDB
                go_wp2_with fail
                refine HD.out.mono ?_
                rintro e w7 (⟨h0, -⟩ | ⟨-, g1, hor1, vt', vr', rfl, hm7, hk7⟩)
                · exact absurd rfl h0
                have HD7 := Lib.hid (HD5.out.prog hm7 hk7)
                have HO1 := Lib.hid hor1
                clear e0 e1 e2 e3 hm7 hk7 HD HD5 hor1
                have D := dbegin_any h.c h.d HD7.out.pm.dm (((HR.out.keep (below_agree HD7.out.pm.below fun b hb _ => hb))).imp fun w' hw' => hw'.1) (((HR.out.keep (below_agree HD7.out.pm.below fun b hb _ => hb))).imp fun w' hw' => hw'.2) HSL.out (by omega)
                rw [HDB.out] at D
                have HD := Lib.hid D
                clear D
                obtain ⟨e0, e1, e2, e3⟩ := HD7.out.box.at_
                go_wp2_with fail
                refine HD.out.mono ?_
                rintro e w8 (⟨h0, -⟩ | ⟨-, g2, hor2, vl', rfl, hm8, hk8⟩)
                · exact absurd rfl h0
                have HSM := Lib.hid (show grpL x.l g1 h.m = grpL x.l g2 h.m from grpl_congr (ord_same HO1.out hor2))
                have HOK2 := Lib.hid (grT_ok (L := x.s) HO1.out (by omega) HSL.out)
                rw [← HSM.out] at hm8
                have HP8 := Lib.hid (HD7.out.pm.doc hm8 hk8).1
                clear e0 e1 e2 e3 hm8 hk8 hor2 HD HD7
                have HPS := Lib.hid (show PS w p q w8 from ⟨_, _, _, _, _, _, _, _, _, HP8.out, di_begun (by have := HOK2.out.few; simpa using this) HOK2.out.ne, HOK2.out⟩)
                go_wp2
                go_meet
                exact ⟨0, rfl, rfl, by omega, by omega, HPS.out⟩
              · rw [← HKE.out] at HDB
                go_wp2_with fail
                refine HD.out.mono ?_
                rintro e w7 (⟨-, vt', vr', rfl, hm7, hk7⟩ | ⟨h0, -⟩)
                rotate_left
                · exact absurd h0 hk0
                have HD7 := Lib.hid (HD5.out.prog hm7 hk7)
                clear e0 e1 e2 e3 hm7 hk7 HD HD5
                have D := dbegin_any h.c h.d HD7.out.pm.dm (((HR.out.keep (below_agree HD7.out.pm.below fun b hb _ => hb))).imp fun w' hw' => hw'.1) (((HR.out.keep (below_agree HD7.out.pm.below fun b hb _ => hb))).imp fun w' hw' => hw'.2) HSL.out (by omega)
                rw [HDB.out] at D
                have HD := Lib.hid D
                clear D
                obtain ⟨e0, e1, e2, e3⟩ := HD7.out.box.at_
                go_wp2_with fail
                refine HD.out.mono ?_
                rintro e w8 (⟨-, vl', rfl, hm8, hk8⟩ | ⟨h0, -⟩)
                rotate_left
                · exact absurd h0 hk0
                have HP8 := Lib.hid (HD7.out.pm.doc hm8 hk8).1
                clear e0 e1 e2 e3 hm8 hk8 HD HD7
                have HPS := Lib.hid (show PS w p q w8 from ⟨_, _, _, _, _, _, _, _, _, HP8.out, HDI.out, HOK.out⟩)
                go_wp2
                go_meet
                exact ⟨kb, rfl, rfl, HKB.out.1, HKB.out.2, HPS.out⟩
          · as_aux_lemma =>
              have hfew := HOK.out.few
              have HLN := Lib.hid HDI.out.lenf
              have D := dnext_any HD5.out.pm.dm (by have := HLN.out; omega)
              unfold DNextO at D
              rw [HDI.out.next] at D
              have HD := Lib.hid D
              obtain ⟨n0, hn0⟩ : ∃ n0, n0 = (nextG T).length := ⟨_, rfl⟩
              have hn032 : n0 ≤ 32 := by rw [hn0]; exact (nextG_len HOK.out).1
              rw [← hn0] at HD
              have HN0 := Lib.hid hn0
              clear D hn0
              go_wp2_with fail
              refine HD.out.mono ?_
              rintro e w6 ⟨A6, c6, rfl, -, hb6⟩
              have HD6 := Lib.hid (HD5.out.more hb6)
              clear hb6 HD HD5
              obtain ⟨e0, e1, e2, e3⟩ := HD6.out.box.at_
              have hpw := pk_lt x.n 6 (by omega)
              obtain ⟨u, hu⟩ : ∃ u, pk x.n 6 = u := ⟨_, rfl⟩
              have hu0 : 0 ≤ u ∧ u < 6 := by rw [← hu]; exact hpw
              have HU := Lib.hid hu
              clear hpw hu
              go_wp2_with fail
              refine (pick_any x.n 6 u _ HWH.out.2.1 HWH.out.2.2 (by omega) (by omega) HU.out).mono ?_
              rintro e w7 ⟨rfl, rfl⟩
              have HP6 := Lib.hid HD6.out.pm
              clear e0 e1 e2 e3
              clear HD6
              go_upto_if 92 with fail
              go_cut [11] (fun s wx => ∃ nn : Nat, s = .int .i64 nn ∧ (nn = n0 ∨ nn = n0 + 1) ∧ wx = w6)
              case first =>
                by_cases hz : u = 0
                · subst hz
                  go_wp2
                  go_meet
                  exact ⟨n0 + 1, by go_num, .inr rfl, rfl⟩
                · have hz1 : (u == 0) = false := by simpa using hz
                  go_wp2
                  go_meet
                  exact ⟨n0, rfl, .inl rfl, rfl⟩
              case rest =>
                rename World => wq
                obtain ⟨nn, rfl, hnn, hwq⟩ := hcut
                obtain rfl : w6 = wq := hwq.symm
                have hnn40 : nn ≤ 40 := by omega
                have hmk := make_res Try.underlying41 Try.infoRes w6 nn hnn40
                clear hu0 HU
                go_upto_region 26 with fail
                have hgw : w.heap.size ≤ w6.heap.size := HP6.out.below.size
                have hal := (Below.refl w6.heap.size w6).alloc (Nat.le_refl _) (.cells (madeCells zs5 (nn * 5)) 46)
                have HPX := Lib.hid (HP6.out.excl (Nat.le_refl w6.heap.size) hal (by rw [alloc_sz]; omega))
                have HFX := Lib.hid (fil_new w6 (i := j) (n := nn) zs5 rfl)
                have HFR := Lib.hid (show ∀ b, w6.heap.size ≤ b → Fr p q vt vr vl b from fun b hb => HP6.out.new hb)
                generalize w6.alloc (.cells (madeCells zs5 (nn * 5)) 46) = w7 at HPX HFX ⊢
                generalize w6.heap.size = ga at HPX HFX HFR hgw ⊢
                clear hmk hal HP6
                go_wp2
                go_loopw [13] (fun s wy => ∃ t : Nat, t ≤ nn ∧ s = .int .i64 t ∧ PM w p q ga vt vr vl T R L ap an wy ∧ FilA ga nn j t wy) (fun s _ => nn - (intOf s).toNat)
                case atStart => exact ⟨0, Nat.zero_le _, rfl, HPX.out, HFX.out⟩
                case round =>
                  clear HPX HFX
                  rename World => wy
                  obtain ⟨t, ht, rfl, hp, hf⟩ := hrel
                  have HPY := Lib.hid hp
                  have HFY := Lib.hid hf
                  clear hp hf
                  by_cases htn : t < nn
                  · have ht0 : (0 : Int) ≤ (t : Int) := by omega
                    have ht1 : (t : Int) < (nn : Int) := by omega
                    obtain ⟨⟨v0, c0⟩, f0⟩ := HFY.out.cell (o := t * 5) (by omega)
                    obtain ⟨⟨v1, c1⟩, f1⟩ := HFY.out.cell (o := t * 5 + 1) (by omega)
                    obtain ⟨⟨v2, c2⟩, f2⟩ := HFY.out.cell (o := t * 5 + 2) (by omega)
                    obtain ⟨⟨v3, c3⟩, f3⟩ := HFY.out.cell (o := t * 5 + 3) (by omega)
                    obtain ⟨⟨v4, c4⟩, f4⟩ := HFY.out.cell (o := t * 5 + 4) (by omega)
                    have hgl := HFY.out.lt
                    have hgy : ¬ (ga = wy.heap.size) := by omega
                    have hjt : (j : Int) + (t : Int) ≤ 1000 := by omega
                    have HFN := Lib.hid (HFY.out.more htn hnn40)
                    have HPN := Lib.hid (HPY.out.put (HFR.out ga (Nat.le_refl _)) hgw (kp_put (chg_stores ga (anC ⟨some ⟨wy.heap.size, 0, none⟩, 1, 1, none, 0, 0⟩ (anI j t)) wy (t * 5)) ((Below.refl _ _).alloc (Nat.le_refl _) (.cells #[.int .u8 t] 5))))
                    clear HFY HPY
                    go_upto_region 28 with fail

                    go_wp2
                    go_roundw
                    case rel => exact ⟨t + 1, by omega, by go_num, HPN.out, HFN.out⟩
                    case measure => simp [intOf]; omega
                  · obtain rfl : t = nn := by omega
                    have hnt : ¬ ((t : Int) < (t : Int)) := by omega
                    obtain ⟨nn, hnnn⟩ : ∃ nn, nn = t := ⟨_, rfl⟩
                    subst hnnn
                    have HAN := Lib.hid (HFY.out.anss hnn40)
                    have HAS := Lib.hid (ansI_sm j nn)
                    have D := Lib.hid (apply_any nn HPY.out.jm HOK.out HPY.out.cnew (HAN.out.mono (fun b hb => (HFR.out b hb).1)) HAS.out)
                    have HOB := Lib.hid (show ∃ xs : List Value, wy.heap[ga]? = some (.cells xs.toArray 46 (0, 0)) ∧ xs.length = nn * 5 from by
                      obtain ⟨xs, h1, h2, -⟩ := HFY.out
                      exact ⟨xs, h1, h2⟩)
                    have hgy : ga < wy.heap.size := HFY.out.lt
                    clear HFY
                    obtain ⟨kf, hkf⟩ : ∃ kf, kf = applyK T nn := ⟨_, rfl⟩
                    rw [← hkf] at D
                    have HKE := Lib.hid hkf
                    clear hkf
                    go_wp2_with fail
                    refine D.out.mono ?_
                    rintro e w7 ⟨vt7, vr7, rfl, hm7, hk7⟩
                    obtain ⟨hp7, hf7⟩ := HPY.out.prog hm7 hk7
                    have HP7 := Lib.hid hp7
                    have HAD := Lib.hid (show On (Dq q vl) w7 (Anss · (some ⟨ga, 0, none⟩) nn (ansI j nn)) from hf7.on HAN.out (fun b hb => HFR.out b hb) (fun b _ _ hb => hb.2))
                    have HF7 := Lib.hid hf7
                    clear hm7 hk7 hp7 hf7 D HAN
                    obtain ⟨hsw, hk0, hk11⟩ := dapply_side (n := nn) (kf := kf) nn HP7.out HDI.out HOK.out (ansI_len j nn) HAS.out HAD.out (fun a ha => by injection ha with ha; subst ha; exact (HF7.out.next ga hgy (HFR.out ga (Nat.le_refl _))).2) HKE.out
                    have HSW := Lib.hid hsw
                    have HKF := Lib.hid (And.intro hk0 hk11)
                    clear hsw hk0 hk11 HKE HAD HP7 HDI HOK HAS HN0 HLN hfew hn032 hnn
                    go_wp2_with fail
                    refine HSW.out.mono ?_
                    rintro e w8 ⟨vl9, T9, R9, L9, ap9, rfl, hp8, hdi9, hok9, hk8⟩
                    have HXS := Lib.hid (show ∃ xs : List Value, w8.heap[ga]? = some (.cells xs.toArray 46 (0, 0)) ∧ xs.length = nn * 5 from by
                      obtain ⟨xs, h1, h2⟩ := HOB.out
                      exact ⟨xs, ((hk8.block ga (Nat.lt_of_lt_of_le hgy HF7.out.size) (HF7.out.next ga hgy (HFR.out ga (Nat.le_refl _)))).trans (HF7.out.block ga hgy (HFR.out ga (Nat.le_refl _)))).trans h1, h2⟩)
                    have HFG := Lib.hid (hk8.next ga (Nat.lt_of_lt_of_le hgy HF7.out.size) (HF7.out.next ga hgy (HFR.out ga (Nat.le_refl _))))
                    have HP8 := Lib.hid hp8
                    have HDN := Lib.hid hdi9
                    have HON := Lib.hid hok9
                    clear hp8 hdi9 hok9 hk8 HSW HOB HF7 HFR HPY
                    have HFX := Lib.hid (show FilA ga nn j 0 w8 from by
                      obtain ⟨xs, h1, h2⟩ := HXS.out
                      exact ⟨xs, h1, h2, fun t ht => absurd ht (by omega)⟩)
                    clear HXS
                    obtain ⟨i2, hi2, hy0, hy1, hy2⟩ := info_parts Try.infoByte
                    have HI2 := Lib.hid hi2
                    have HZ2 := Lib.hid (And.intro hy0 (And.intro hy1 hy2))
                    clear hi2 hy0 hy1 hy2
                    go_wp2
                    go_loopw [14] (fun s wy => ∃ t : Nat, t ≤ nn ∧ s = .int .i64 t ∧ PM w p q ga vt7 vr7 vl9 T9 R9 L9 ap9 an wy ∧ FilA ga nn j 0 wy) (fun s _ => nn - (intOf s).toNat)
                    case atStart => exact ⟨0, Nat.zero_le _, rfl, HP8.out, HFX.out⟩
                    case round =>
                      clear HP8 HFX
                      rename World => wy
                      obtain ⟨t, ht, rfl, hp, hf⟩ := hrel
                      have HPY := Lib.hid hp
                      have HFY := Lib.hid hf
                      clear hp hf
                      by_cases htn : t < nn
                      · have ht0 : (0 : Int) ≤ (t : Int) := by omega
                        have ht1 : (t : Int) < (nn : Int) := by omega
                        obtain ⟨⟨v2, c2⟩, f2⟩ := HFY.out.cell (o := t * 5 + 2) (by omega)
                        have hgl := HFY.out.lt
                        have hgy : ¬ (ga = wy.heap.size) := by omega
                        have hgy1 : ¬ (ga = wy.heap.size + 1) := by omega
                        have O1 := Lib.hid (World.ownsRow.alloc (World.ownsRow_made (e := 5) (size := 1) wy #[] 0 (Nat.le_refl wy.heap.size) (Nat.zero_le _) rfl) (.cells #[.int .u8 9] 5))
                        go_wp2_with (at_builtin; refine wpList_append_own_at _ rfl _ _ 42 rfl wy.heap.size 5 i2 (.int .u8 0) 1 1 Try.underlying42 HI2.out HZ2.out.1 HZ2.out.2.1 HZ2.out.2.2 rfl (by decide) (.slice (some ⟨wy.heap.size, 0, none⟩) 0 0) 0 _ rfl O1.out ⟨wy.heap.size + 1, 0, none⟩ 1 1 [.int .u8 9] rfl rfl ?c1 ?c2 ?c3 ?c4 ?c5 ?_)
                        case c1 => exact byte_cells wy 9
                        case c2 => intro u hu; simp at hu; subst hu; rfl
                        case c3 => unfold maxLen; omega
                        case c4 => omega
                        case c5 => rw [alloc_sz, alloc_sz]; omega
                        intro v' w9 hown9 hg9 hnil hat
                        have hb9 := hg9
                        have hgb : ga < ((wy.alloc (.cells #[] 5)).alloc (.cells #[.int .u8 9] 5)).heap.size := by rw [alloc_sz, alloc_sz]; omega
                        have hgn : some ga ≠ (Value.slice (some ⟨wy.heap.size, 0, none⟩) 0 0).ownBlock := fun e => by have e' : ga = wy.heap.size := Option.some.inj e; omega
                        have c9 := (hg9.cell_far ⟨ga, t * 5 + 2, none⟩ hgb hgn).trans ((((Below.refl wy.heap.size wy).alloc (Nat.le_refl _) _).alloc (by simp) (.cells #[.int .u8 9] 5)).cell (p := ⟨ga, t * 5 + 2, none⟩) hgl |>.trans c2)
                        have f9 := (hg9.frozen_far ⟨ga, t * 5 + 2, none⟩ hgb hgn).trans ((((Below.refl wy.heap.size wy).alloc (Nat.le_refl _) _).alloc (by simp) (.cells #[.int .u8 9] 5)).frozen (p := ⟨ga, t * 5 + 2, none⟩) hgl |>.trans f2)
                        have HBN := Lib.hid ((((Below.refl wy.heap.size wy).alloc (Nat.le_refl _) (.cells #[] 5)).alloc (by simp) (.cells #[.int .u8 9] 5)).grown hg9 (by rw [alloc_sz, alloc_sz]; omega) (fun q hq => by have e' : wy.heap.size = q := Option.some.inj hq; omega))
                        obtain ⟨A9, c9', rfl, -⟩ := own_new hown9
                        have HPN := Lib.hid (HPY.out.put HFG.out hgw (kp_put ((below_chg HBN.out).trans (chg_set ga w9 (t * 5 + 2) (.slice A9 (0 + 1) c9'))) (Below.refl _ _)))
                        have HFN := Lib.hid (show FilA ga nn j 0 (w9.setCell ⟨ga, t * 5 + 2, none⟩ (.slice A9 (0 + 1) c9')) from by
                          obtain ⟨xs, h1, h2, -⟩ := HFY.out
                          exact ⟨_, set_obj _ ((HBN.out.block ga hgl).trans h1), by rw [List.length_set]; exact h2, fun t ht => absurd ht (by omega)⟩)
                        clear hown9 hg9 hnil hat hb9 hgb hgn HBN O1 HFY HPY c2 f2
                        go_wp2
                        go_roundw
                        case rel => exact ⟨t + 1, by omega, by go_num, HPN.out, HFN.out⟩
                        case measure => simp [intOf]; omega
                      · obtain rfl : t = nn := by omega
                        have hnt : ¬ ((t : Int) < (t : Int)) := by omega
                        have HPS := Lib.hid (show PS w p q wy from ⟨_, _, _, _, _, _, _, _, _, HPY.out, HDN.out, HON.out⟩)
                        clear HPY HFY
                        go_wp2
                        go_meet
                        exact ⟨kf, rfl, rfl, HKF.out.1, HKF.out.2, HPS.out⟩
          · as_aux_lemma =>
              have hfew := HOK.out.few
              have D := Lib.hid (answered_any HD5.out.pm.jm (by omega))
              cases R with
              | nil =>
                rw [show doneK ([] : List Ry) = 10 from rfl, show ([] : List Ry).tail = [] from rfl] at D
                go_wp2_with fail
                refine D.out.mono ?_
                rintro e w7 ⟨vt', vr', rfl, hm7, hk7⟩
                have HP7 := Lib.hid (HD5.out.pm.prog hm7 hk7).1
                clear hm7 hk7 D HD5
                have HD := Lib.hid (ddone_no HP7.out.dm HDI.out.ready.1)
                go_wp2_with fail
                refine HD.out.mono ?_
                rintro e w8 ⟨vl', rfl, hm8, hk8⟩
                have HP8 := Lib.hid (HP7.out.doc hm8 hk8).1
                clear hm8 hk8 HD HP7
                have HPS := Lib.hid (show PS w p q w8 from ⟨_, _, _, _, _, _, _, _, _, HP8.out, HDI.out, HOK.out⟩)
                go_wp2
                go_meet
                exact ⟨10, rfl, rfl, by omega, by omega, HPS.out⟩
              | cons y R =>
                rw [show doneK (y :: R) = 0 from rfl, show (y :: R).tail = R from rfl] at D
                have HLN := Lib.hid HDI.out.lenf
                go_wp2_with fail
                refine D.out.mono ?_
                rintro e w7 ⟨vt', vr', rfl, hm7, hk7⟩
                have HP7 := Lib.hid (HD5.out.pm.prog hm7 hk7).1
                clear hm7 hk7 D HD5
                by_cases he : an + 1 = L.length
                · skip
                  have HD := Lib.hid (ddone_end HP7.out.dm (by have := HLN.out; omega) HDI.out.ready.1 he)
                  go_wp2_with fail
                  refine HD.out.mono ?_
                  rintro e w8 ⟨vl', rfl, hm8, hk8⟩
                  have HP8 := Lib.hid (HP7.out.doc hm8 hk8).1
                  clear hm8 hk8 HD HP7
                  have HPS := Lib.hid (show PS w p q w8 from ⟨_, _, _, _, _, _, _, _, _, HP8.out, (HDI.out.done HOK.out).1 he, ok_done HOK.out⟩)
                  go_wp2
                  go_meet
                  exact ⟨0, rfl, rfl, by omega, by omega, HPS.out⟩
                · skip
                  have HD := Lib.hid (ddone_more HP7.out.dm (by have := HLN.out; omega) HDI.out.ready.1 he)
                  go_wp2_with fail
                  refine HD.out.mono ?_
                  rintro e w8 ⟨vl', rfl, hm8, hk8⟩
                  have HP8 := Lib.hid (HP7.out.doc hm8 hk8).1
                  clear hm8 hk8 HD HP7
                  have HPS := Lib.hid (show PS w p q w8 from ⟨_, _, _, _, _, _, _, _, _, HP8.out, (HDI.out.done HOK.out).2 he, ok_done HOK.out⟩)
                  go_wp2
                  go_meet
                  exact ⟨0, rfl, rfl, by omega, by omega, HPS.out⟩
          · as_aux_lemma =>
              have hfew := HOK.out.few
              have D := Lib.hid (answered_any HD5.out.pm.jm (by omega))
              cases R with
              | nil =>
                rw [show doneK ([] : List Ry) = 10 from rfl, show ([] : List Ry).tail = [] from rfl] at D
                go_wp2_with fail
                refine D.out.mono ?_
                rintro e w7 ⟨vt', vr', rfl, hm7, hk7⟩
                have HP7 := Lib.hid (HD5.out.pm.prog hm7 hk7).1
                clear hm7 hk7 D HD5
                have HD := Lib.hid (ddone_no HP7.out.dm HDI.out.ready.1)
                go_wp2_with fail
                refine HD.out.mono ?_
                rintro e w8 ⟨vl', rfl, hm8, hk8⟩
                have HP8 := Lib.hid (HP7.out.doc hm8 hk8).1
                clear hm8 hk8 HD HP7
                have HPS := Lib.hid (show PS w p q w8 from ⟨_, _, _, _, _, _, _, _, _, HP8.out, HDI.out, HOK.out⟩)
                go_wp2
                go_meet
                exact ⟨10, rfl, rfl, by omega, by omega, HPS.out⟩
              | cons y R =>
                rw [show doneK (y :: R) = 0 from rfl, show (y :: R).tail = R from rfl] at D
                have HLN := Lib.hid HDI.out.lenf
                go_wp2_with fail
                refine D.out.mono ?_
                rintro e w7 ⟨vt', vr', rfl, hm7, hk7⟩
                have HP7 := Lib.hid (HD5.out.pm.prog hm7 hk7).1
                clear hm7 hk7 D HD5
                by_cases he : an + 1 = L.length
                · skip
                  have HD := Lib.hid (ddone_end HP7.out.dm (by have := HLN.out; omega) HDI.out.ready.1 he)
                  go_wp2_with fail
                  refine HD.out.mono ?_
                  rintro e w8 ⟨vl', rfl, hm8, hk8⟩
                  have HP8 := Lib.hid (HP7.out.doc hm8 hk8).1
                  clear hm8 hk8 HD HP7
                  have HPS := Lib.hid (show PS w p q w8 from ⟨_, _, _, _, _, _, _, _, _, HP8.out, (HDI.out.done HOK.out).1 he, ok_done HOK.out⟩)
                  go_wp2
                  go_meet
                  exact ⟨0, rfl, rfl, by omega, by omega, HPS.out⟩
                · skip
                  have HD := Lib.hid (ddone_more HP7.out.dm (by have := HLN.out; omega) HDI.out.ready.1 he)
                  go_wp2_with fail
                  refine HD.out.mono ?_
                  rintro e w8 ⟨vl', rfl, hm8, hk8⟩
                  have HP8 := Lib.hid (HP7.out.doc hm8 hk8).1
                  clear hm8 hk8 HD HP7
                  have HPS := Lib.hid (show PS w p q w8 from ⟨_, _, _, _, _, _, _, _, _, HP8.out, (HDI.out.done HOK.out).2 he, ok_done HOK.out⟩)
                  go_wp2
                  go_meet
                  exact ⟨0, rfl, rfl, by omega, by omega, HPS.out⟩
      case rest =>
        clear HD5 HDI HOK HFW HWH HR hu0 HU hsn hj0 hj1
        obtain ⟨kk, rfl, rfl, h0, h11, x1, vt, vr, vl, T, R, L, ap, an, hpm, hdi, hok⟩ := hcut
        have HP := Lib.hid hpm
        have HDI := Lib.hid hdi
        have HOK := Lib.hid hok
        have hct := hdi.count
        have hl32 := hdi.lenf
        have htl := len_size hok.ne
        have HCD := Lib.hid (fun w9 => code_any kk w9 h0 h11)
        have HKK := Lib.hid (And.intro h0 h11)
        clear hpm hdi hok h0 h11
        have D := Lib.hid (left_any HP.out.jm (by omega) (by omega))
        go_wp2_with fail
        refine D.out.mono ?_
        rintro e w4 ⟨rfl, hb4⟩
        have HP4 := Lib.hid (HP.out.more hb4)
        clear hb4 D HP
        have D := dleft_any HP4.out.dm (by omega) (by omega)
        rw [HDI.out.rest, show L.length - an = sizeT T + R.length by omega] at D
        have D := Lib.hid D
        go_wp2_with fail
        refine D.out.mono ?_
        rintro e w5 ⟨rfl, hb5⟩
        have HP5 := Lib.hid (HP4.out.more hb5)
        have hss : (((sizeT T : Nat) : Int) != ((sizeT T : Nat) : Int)) = false := by simp
        have hrr : (((sizeT T + R.length : Nat) : Int) != ((sizeT T + R.length : Nat) : Int)) = false := by simp
        generalize sizeT T = st at hss ⊢
        clear hb5 D HP4 hct htl
        have D := jready_any HP5.out.jm HOK.out
        unfold RdyO at D
        have E := fun w9 hp9 => dready_any (PM.dm (hp9 : PM w p q x1 vt vr vl T R L ap an w9))
        unfold RdyDO at E
        rw [HDI.out.ready.1, HDI.out.ready.2.1, HDI.out.ready.2.2] at E
        have HE := Lib.hid E
        have HD := Lib.hid D
        clear D E
        generalize rdyS R = rs at HD HE
        generalize rdyA R = ra at HD HE
        generalize rdyB R = rb at HD HE
        go_wp2_with fail
        refine HD.out.mono ?_
        rintro e w6 ⟨k6, rfl, -, hb6⟩
        have HP6 := Lib.hid (HP5.out.more hb6)
        have HX6 := Lib.hid (box_a w6 k6 ra)
        clear hb6 HD HP5
        go_upto_region 39 with fail
        obtain ⟨W6, hW6, hWB6, hWA6, -⟩ := HX6.out
        rw [← hW6]
        have HP7 := Lib.hid (HP6.out.more hWB6)
        have HA7 := Lib.hid hWA6
        have HD := Lib.hid (HE.out W6 HP7.out)
        generalize w6.heap.size = g6 at HA7 ⊢
        clear hW6 hWB6 hWA6 HX6 HP6 HE
        go_wp2_with fail
        refine HD.out.mono ?_
        rintro e w8 ⟨k8, rfl, hb8⟩
        have HP8 := Lib.hid (HP7.out.more hb8)
        have HA8 := Lib.hid (HA7.out.below hb8 HA7.out.lt)
        have HX8 := Lib.hid (box_a w8 k8 ra)
        clear hb8 HD HP7 HA7
        go_upto_region 40 with fail
        obtain ⟨W, hW, hWB, hWA, -⟩ := HX8.out
        rw [← hW]
        have HPW := Lib.hid (HP8.out.more hWB)
        have HAA := Lib.hid (And.intro (HA8.out.below hWB HA8.out.lt) hWA)
        generalize w8.heap.size = g8 at HAA ⊢
        clear hW hWB hWA HX8 HP8 HA8
        have hkk : (kk != kk) = false := by simp
        have hrs : (rs != rs) = false := by simp
        have hrb : (rb != rb) = false := by simp
        have hcc : (ra.code != ra.code) = false := by simp
        have F1 := fun wy (hb : Below W.heap.size W wy) => open_any (HPW.out.more hb).jm (by have := HOK.out.len; omega)
        rw [HDI.out.open HOK.out] at F1
        have F2 := fun wy (hb : Below W.heap.size W wy) => jnext_any (HPW.out.more hb).jm HOK.out
        have F3 := fun wy (hb : Below W.heap.size W wy) => dnext_any (HPW.out.more hb).dm (by have := HDI.out.lenf; omega)
        rw [HDI.out.next] at F3
        have hm1000 : (nextG T).length ≤ 1000 := by have := (nextG_len HOK.out).1; omega
        unfold NextO at F2
        unfold DNextO at F3
        obtain ⟨c0, -, -, -, -, -⟩ := HPW.out.dm.cells
        have hqW := HPW.out.dm.lt
        obtain ⟨vA, vc, rfl⟩ := HPW.out.dm.shape
        obtain ⟨ll, hll⟩ : ∃ ll, ll = L.length := ⟨_, rfl⟩
        rw [← hll] at F1 c0
        have HK3 := Lib.hid (show ∀ wy, Below W.heap.size W wy → wy.cell? ⟨q, 0, none⟩ = some (.slice vA ll vc) ∧ wy.cell? ⟨g6, 0, none⟩ = some (.int .i64 ra.code) ∧ wy.cell? ⟨g8, 0, none⟩ = some (.int .i64 ra.code) from fun wy hb =>
          ⟨(hb.cell (p := ⟨q, 0, none⟩) hqW).trans c0, (HAA.out.1.below hb HAA.out.1.lt).cells.1, (HAA.out.2.below hb HAA.out.2.lt).cells.1⟩)
        have HF1 := Lib.hid F1
        have HF2 := Lib.hid F2
        have HF3 := Lib.hid F3
        generalize nextG T = M9 at HF2 HF3 hm1000
        clear F1 F2 F3 c0 hqW hll HAA hl32 HKK
        cases rb
        · as_aux_lemma =>
            refine wp_region_held_drew (S := (fun w' => w'.cell? ⟨q, 0, none⟩ = some (.slice vA ll vc) ∧ w'.cell? ⟨g6, 0, none⟩ = some (.int .i64 ra.code) ∧ w'.cell? ⟨g8, 0, none⟩ = some (.int .i64 ra.code))) (by kernel_rfl) ?_ (fun hHeld => ?_)
            · exact HK3.out W.drew ((Below.refl _ _).drew)
            refine wpAnyH_take (i := 0) (v := errV kk) rfl (by kernel_rfl) (by kernel_rfl) (by kernel_rfl) (fun _ _ _ h => h) (Or.inl ⟨by rfl, fun w' hSw => ?_⟩) hHeld ?_
            · obtain ⟨s0, s1, s2⟩ := hSw
              go_simp
            try simp only [Act.put, List.getElem_toArray, List.getElem_cons_zero, List.setIfInBounds_toArray, List.set_cons_zero, List.set_cons_succ]
            refine wpAnyH_take (i := 2) (v := .int .i64 kk) rfl (by kernel_rfl) (by kernel_rfl) (by kernel_rfl) (fun _ _ _ h => h) (Or.inl ⟨by rfl, fun w' hSw => ?_⟩) hHeld ?_
            · obtain ⟨s0, s1, s2⟩ := hSw
              go_simp
            try simp only [Act.put, List.getElem_toArray, List.getElem_cons_zero, List.getElem_cons_succ, List.setIfInBounds_toArray, List.set_cons_zero, List.set_cons_succ]
            refine wpAnyH_ready (rs := [1]) (by kernel_rfl) (by simp) ?_
            refine (AllReadyH.cons rfl (fun K hK => ?_) AllReadyH.nil)
            go_simp
            go_at_call 20
            (with_reducible refine (HCD.out _).mono ?_)
            rintro e wy ⟨rfl, rfl⟩
            refine hK.out _ _ hHeld (fun hHeld => ?_)
            clear hK K
            try simp only [Act.put, List.getElem_toArray, List.getElem_cons_zero, List.getElem_cons_succ, List.setIfInBounds_toArray, List.set_cons_zero, List.set_cons_succ]
            refine wpAnyH_take (i := 3) (v := .bool false) rfl (by kernel_rfl) (by kernel_rfl) (by kernel_rfl) (fun _ _ _ h => h) (Or.inl ⟨by rfl, fun w' hSw => ?_⟩) hHeld ?_
            · obtain ⟨s0, s1, s2⟩ := hSw
              go_simp
            try simp only [Act.put, List.getElem_toArray, List.getElem_cons_zero, List.getElem_cons_succ, List.setIfInBounds_toArray, List.set_cons_zero, List.set_cons_succ]
            refine wpAnyH_take (i := 4) (v := .bool false) rfl (by kernel_rfl) (by kernel_rfl) (by kernel_rfl) (fun _ _ _ h => h) (Or.inl ⟨by rfl, fun w' hSw => ?_⟩) hHeld ?_
            · obtain ⟨s0, s1, s2⟩ := hSw
              go_simp
            try simp only [Act.put, List.getElem_toArray, List.getElem_cons_zero, List.getElem_cons_succ, List.setIfInBounds_toArray, List.set_cons_zero, List.set_cons_succ]
            refine wpAnyH_take (i := 5) (v := .int .i64 st) rfl (by kernel_rfl) (by kernel_rfl) (by kernel_rfl) (fun _ _ _ h => h) (Or.inl ⟨by rfl, fun w' hSw => ?_⟩) hHeld ?_
            · obtain ⟨s0, s1, s2⟩ := hSw
              go_simp
            try simp only [Act.put, List.getElem_toArray, List.getElem_cons_zero, List.getElem_cons_succ, List.setIfInBounds_toArray, List.set_cons_zero, List.set_cons_succ]
            refine wpAnyH_take (i := 6) (v := .int .i64 st) rfl (by kernel_rfl) (by kernel_rfl) (by kernel_rfl) (fun _ _ _ h => h) (Or.inl ⟨by rfl, fun w' hSw => ?_⟩) hHeld ?_
            · obtain ⟨s0, s1, s2⟩ := hSw
              go_simp
            try simp only [Act.put, List.getElem_toArray, List.getElem_cons_zero, List.getElem_cons_succ, List.setIfInBounds_toArray, List.set_cons_zero, List.set_cons_succ]
            refine wpAnyH_take (i := 7) (v := .bool false) rfl (by kernel_rfl) (by kernel_rfl) (by kernel_rfl) (fun _ _ _ h => h) (Or.inl ⟨by rfl, fun w' hSw => ?_⟩) hHeld ?_
            · obtain ⟨s0, s1, s2⟩ := hSw
              go_simp
            try simp only [Act.put, List.getElem_toArray, List.getElem_cons_zero, List.getElem_cons_succ, List.setIfInBounds_toArray, List.set_cons_zero, List.set_cons_succ]
            refine wpAnyH_take (i := 8) (v := .bool false) rfl (by kernel_rfl) (by kernel_rfl) (by kernel_rfl) (fun _ _ _ h => h) (Or.inl ⟨by rfl, fun w' hSw => ?_⟩) hHeld ?_
            · obtain ⟨s0, s1, s2⟩ := hSw
              go_simp
            try simp only [Act.put, List.getElem_toArray, List.getElem_cons_zero, List.getElem_cons_succ, List.setIfInBounds_toArray, List.set_cons_zero, List.set_cons_succ]
            refine wpAnyH_take (i := 9) (v := .bool false) rfl (by kernel_rfl) (by kernel_rfl) (by kernel_rfl) (fun _ _ _ h => h) (Or.inl ⟨by rfl, fun w' hSw => ?_⟩) hHeld ?_
            · obtain ⟨s0, s1, s2⟩ := hSw
              go_simp
            try simp only [Act.put, List.getElem_toArray, List.getElem_cons_zero, List.getElem_cons_succ, List.setIfInBounds_toArray, List.set_cons_zero, List.set_cons_succ]
            refine wpAnyH_take (i := 10) (v := .int .i64 ((st : Int) + (R.length : Int))) rfl (by kernel_rfl) (by kernel_rfl) (by kernel_rfl) (fun _ _ _ h => h) (Or.inl ⟨by rfl, fun w' hSw => ?_⟩) hHeld ?_
            · obtain ⟨s0, s1, s2⟩ := hSw
              go_simp
            try simp only [Act.put, List.getElem_toArray, List.getElem_cons_zero, List.getElem_cons_succ, List.setIfInBounds_toArray, List.set_cons_zero, List.set_cons_succ]
            refine wpAnyH_take (i := 11) (v := .int .i64 ((st : Int) + (R.length : Int))) rfl (by kernel_rfl) (by kernel_rfl) (by kernel_rfl) (fun _ _ _ h => h) (Or.inl ⟨by rfl, fun w' hSw => ?_⟩) hHeld ?_
            · obtain ⟨s0, s1, s2⟩ := hSw
              go_simp
            try simp only [Act.put, List.getElem_toArray, List.getElem_cons_zero, List.getElem_cons_succ, List.setIfInBounds_toArray, List.set_cons_zero, List.set_cons_succ]
            refine wpAnyH_take (i := 12) (v := .bool false) rfl (by kernel_rfl) (by kernel_rfl) (by kernel_rfl) (fun _ _ _ h => h) (Or.inl ⟨by rfl, fun w' hSw => ?_⟩) hHeld ?_
            · obtain ⟨s0, s1, s2⟩ := hSw
              go_simp
            try simp only [Act.put, List.getElem_toArray, List.getElem_cons_zero, List.getElem_cons_succ, List.setIfInBounds_toArray, List.set_cons_zero, List.set_cons_succ]
            refine wpAnyH_take (i := 13) (v := .bool false) rfl (by kernel_rfl) (by kernel_rfl) (by kernel_rfl) (fun _ _ _ h => h) (Or.inl ⟨by rfl, fun w' hSw => ?_⟩) hHeld ?_
            · obtain ⟨s0, s1, s2⟩ := hSw
              go_simp
            try simp only [Act.put, List.getElem_toArray, List.getElem_cons_zero, List.getElem_cons_succ, List.setIfInBounds_toArray, List.set_cons_zero, List.set_cons_succ]
            refine wpAnyH_take (i := 14) (v := .bool false) rfl (by kernel_rfl) (by kernel_rfl) (by kernel_rfl) (fun _ _ _ h => h) (Or.inl ⟨by rfl, fun w' hSw => ?_⟩) hHeld ?_
            · obtain ⟨s0, s1, s2⟩ := hSw
              go_simp
            try simp only [Act.put, List.getElem_toArray, List.getElem_cons_zero, List.getElem_cons_succ, List.setIfInBounds_toArray, List.set_cons_zero, List.set_cons_succ]
            refine wpAnyH_take (i := 15) (v := .pointer (some ⟨p, 0, none⟩)) rfl (by kernel_rfl) (by kernel_rfl) (by kernel_rfl) (fun _ _ _ h => h) (Or.inl ⟨by rfl, fun w' hSw => ?_⟩) hHeld ?_
            · obtain ⟨s0, s1, s2⟩ := hSw
              go_simp
            try simp only [Act.put, List.getElem_toArray, List.getElem_cons_zero, List.getElem_cons_succ, List.setIfInBounds_toArray, List.set_cons_zero, List.set_cons_succ]
            refine wpAnyH_take (i := 17) (v := .pointer (some ⟨q, 0, none⟩)) rfl (by kernel_rfl) (by kernel_rfl) (by kernel_rfl) (fun _ _ _ h => h) (Or.inl ⟨by rfl, fun w' hSw => ?_⟩) hHeld ?_
            · obtain ⟨s0, s1, s2⟩ := hSw
              go_simp
            try simp only [Act.put, List.getElem_toArray, List.getElem_cons_zero, List.getElem_cons_succ, List.setIfInBounds_toArray, List.set_cons_zero, List.set_cons_succ]
            refine wpAnyH_take (i := 18) (v := .pointer (some ⟨q, 0, none⟩)) rfl (by kernel_rfl) (by kernel_rfl) (by kernel_rfl) (fun _ _ _ h => h) (Or.inl ⟨by rfl, fun w' hSw => ?_⟩) hHeld ?_
            · obtain ⟨s0, s1, s2⟩ := hSw
              go_simp
            try simp only [Act.put, List.getElem_toArray, List.getElem_cons_zero, List.getElem_cons_succ, List.setIfInBounds_toArray, List.set_cons_zero, List.set_cons_succ]
            refine wpAnyH_take (i := 19) (v := .pointer (some ⟨q, 0, none⟩)) rfl (by kernel_rfl) (by kernel_rfl) (by kernel_rfl) (fun _ _ _ h => h) (Or.inl ⟨by rfl, fun w' hSw => ?_⟩) hHeld ?_
            · obtain ⟨s0, s1, s2⟩ := hSw
              go_simp
            try simp only [Act.put, List.getElem_toArray, List.getElem_cons_zero, List.getElem_cons_succ, List.setIfInBounds_toArray, List.set_cons_zero, List.set_cons_succ]
            refine wpAnyH_take (i := 20) (v := .slice vA ll vc) rfl (by kernel_rfl) (by kernel_rfl) (by kernel_rfl) (fun _ _ _ h => h) (Or.inl ⟨by rfl, fun w' hSw => ?_⟩) hHeld ?_
            · obtain ⟨s0, s1, s2⟩ := hSw
              go_simp
            try simp only [Act.put, List.getElem_toArray, List.getElem_cons_zero, List.getElem_cons_succ, List.setIfInBounds_toArray, List.set_cons_zero, List.set_cons_succ]
            refine wpAnyH_take (i := 21) (v := .int .i64 ll) rfl (by kernel_rfl) (by kernel_rfl) (by kernel_rfl) (fun _ _ _ h => h) (Or.inl ⟨by rfl, fun w' hSw => ?_⟩) hHeld ?_
            · obtain ⟨s0, s1, s2⟩ := hSw
              go_simp
            try simp only [Act.put, List.getElem_toArray, List.getElem_cons_zero, List.getElem_cons_succ, List.setIfInBounds_toArray, List.set_cons_zero, List.set_cons_succ]
            refine wpAnyH_take (i := 22) (v := .bool (decide (0 < ll))) rfl (by kernel_rfl) (by kernel_rfl) (by kernel_rfl) (fun _ _ _ h => h) (Or.inl ⟨by rfl, fun w' hSw => ?_⟩) hHeld ?_
            · obtain ⟨s0, s1, s2⟩ := hSw
              go_simp
            try simp only [Act.put, List.getElem_toArray, List.getElem_cons_zero, List.getElem_cons_succ, List.setIfInBounds_toArray, List.set_cons_zero, List.set_cons_succ]
            refine wpAnyH_ready (rs := [16]) (by kernel_rfl) (by simp) ?_
            refine (AllReadyH.cons rfl (fun K hK => ?_) AllReadyH.nil)
            have D1 := Lib.hid (HF1.out W.drew ((Below.refl _ _).drew))
            go_simp
            go_at_call 21
            (with_reducible refine D1.out.mono ?_)
            rintro e w9 ⟨rfl, hb9⟩
            have hb9 : Below W.heap.size W w9 := undrew hb9
            have HB9 := Lib.hid hb9
            have D2 := Lib.hid (HF2.out w9 hb9)
            have D3 := Lib.hid (HF3.out w9 hb9)
            clear hb9 D1
            refine hK.out _ _ (HK3.out w9 HB9.out) (fun hHeld => ?_)
            clear hK K
            try simp only [Act.put, List.getElem_toArray, List.getElem_cons_zero, List.getElem_cons_succ, List.setIfInBounds_toArray, List.set_cons_zero, List.set_cons_succ]
            refine wpAnyH_take (i := 23) (v := .bool false) rfl (by kernel_rfl) (by kernel_rfl) (by kernel_rfl) (fun _ _ _ h => h) (Or.inl ⟨by rfl, fun w' hSw => ?_⟩) hHeld ?_
            · obtain ⟨s0, s1, s2⟩ := hSw
              go_simp
            try simp only [Act.put, List.getElem_toArray, List.getElem_cons_zero, List.getElem_cons_succ, List.setIfInBounds_toArray, List.set_cons_zero, List.set_cons_succ]
            refine wpAnyH_take (i := 24) (v := .bool false) rfl (by kernel_rfl) (by kernel_rfl) (by kernel_rfl) (fun _ _ _ h => h) (Or.inl ⟨by rfl, fun w' hSw => ?_⟩) hHeld ?_
            · obtain ⟨s0, s1, s2⟩ := hSw
              go_simp
            try simp only [Act.put, List.getElem_toArray, List.getElem_cons_zero, List.getElem_cons_succ, List.setIfInBounds_toArray, List.set_cons_zero, List.set_cons_succ]
            refine wpAnyH_take (i := 25) (v := .bool false) rfl (by kernel_rfl) (by kernel_rfl) (by kernel_rfl) (fun _ _ _ h => h) (Or.inl ⟨by rfl, fun w' hSw => ?_⟩) hHeld ?_
            · obtain ⟨s0, s1, s2⟩ := hSw
              go_simp
            try simp only [Act.put, List.getElem_toArray, List.getElem_cons_zero, List.getElem_cons_succ, List.setIfInBounds_toArray, List.set_cons_zero, List.set_cons_succ]
            refine wpAnyH_take (i := 26) (v := .pointer (some ⟨p, 0, none⟩)) rfl (by kernel_rfl) (by kernel_rfl) (by kernel_rfl) (fun _ _ _ h => h) (Or.inl ⟨by rfl, fun w' hSw => ?_⟩) hHeld ?_
            · obtain ⟨s0, s1, s2⟩ := hSw
              go_simp
            try simp only [Act.put, List.getElem_toArray, List.getElem_cons_zero, List.getElem_cons_succ, List.setIfInBounds_toArray, List.set_cons_zero, List.set_cons_succ]
            refine wpAnyH_take (i := 28) (v := .pointer (some ⟨q, 0, none⟩)) rfl (by kernel_rfl) (by kernel_rfl) (by kernel_rfl) (fun _ _ _ h => h) (Or.inl ⟨by rfl, fun w' hSw => ?_⟩) hHeld ?_
            · obtain ⟨s0, s1, s2⟩ := hSw
              go_simp
            try simp only [Act.put, List.getElem_toArray, List.getElem_cons_zero, List.getElem_cons_succ, List.setIfInBounds_toArray, List.set_cons_zero, List.set_cons_succ]
            refine wpAnyH_ready (rs := [27]) (by kernel_rfl) (by simp) ?_
            refine (AllReadyH.cons rfl (fun K hK => ?_) AllReadyH.nil)
            go_simp
            go_at_call 23
            (with_reducible refine D2.out.mono ?_)
            rintro e wa ⟨A1, c1, rfl, ho1, hba⟩
            have HBA := Lib.hid (HB9.out.trans (hba.mono HB9.out.size))
            have HO1 := Lib.hid ho1.here
            have D3A := Lib.hid (HF3.out wa HBA.out)
            clear hba ho1 D2 D3
            refine hK.out _ _ (HK3.out wa HBA.out) (fun hHeld => ?_)
            clear hK K
            try simp only [Act.put, List.getElem_toArray, List.getElem_cons_zero, List.getElem_cons_succ, List.setIfInBounds_toArray, List.set_cons_zero, List.set_cons_succ]
            refine wpAnyH_ready (rs := [29]) (by kernel_rfl) (by simp) ?_
            refine (AllReadyH.cons rfl (fun K hK => ?_) AllReadyH.nil)
            go_simp
            go_at_call 11
            (with_reducible refine D3A.out.mono ?_)
            rintro e wb ⟨A2, c2, rfl, hr2, hbb⟩
            have HBB := Lib.hid (HBA.out.trans (hbb.mono HBA.out.size))
            have HR2 := Lib.hid (And.intro (HO1.out.below hbb) hr2)
            clear hbb hr2 D3A HO1
            refine hK.out _ _ (HK3.out wb HBB.out) (fun hHeld => ?_)
            clear hK K
            try simp only [Act.put, List.getElem_toArray, List.getElem_cons_zero, List.getElem_cons_succ, List.setIfInBounds_toArray, List.set_cons_zero, List.set_cons_succ]
            refine wpAnyH_ready (rs := [30]) (by kernel_rfl) (by simp) ?_
            refine (AllReadyH.cons rfl (fun K hK => ?_) AllReadyH.nil)
            have D4 := Lib.hid (same_any c1 c2 HR2.out.1 HR2.out.2 hm1000)
            go_simp
            go_at_call 22
            (with_reducible refine D4.out.mono ?_)
            rintro e wc ⟨rfl, hbc⟩
            have HBC := Lib.hid (HBB.out.trans (hbc.mono HBB.out.size))
            clear hbc D4
            refine hK.out _ _ (HK3.out wc HBC.out) (fun hHeld => ?_)
            clear hK K
            try simp only [Act.put, List.getElem_toArray, List.getElem_cons_zero, List.getElem_cons_succ, List.setIfInBounds_toArray, List.set_cons_zero, List.set_cons_succ]
            refine wpAnyH_take (i := 31) (v := .bool false) rfl (by kernel_rfl) (by kernel_rfl) (by kernel_rfl) (fun _ _ _ h => h) (Or.inl ⟨by rfl, fun w' hSw => ?_⟩) hHeld ?_
            · obtain ⟨s0, s1, s2⟩ := hSw
              go_simp
            try simp only [Act.put, List.getElem_toArray, List.getElem_cons_zero, List.getElem_cons_succ, List.setIfInBounds_toArray, List.set_cons_zero, List.set_cons_succ]
            refine wpAnyH_take (i := 32) (v := .bool false) rfl (by kernel_rfl) (by kernel_rfl) (by kernel_rfl) (fun _ _ _ h => h) (Or.inl ⟨by rfl, fun w' hSw => ?_⟩) hHeld ?_
            · obtain ⟨s0, s1, s2⟩ := hSw
              go_simp
            try simp only [Act.put, List.getElem_toArray, List.getElem_cons_zero, List.getElem_cons_succ, List.setIfInBounds_toArray, List.set_cons_zero, List.set_cons_succ]
            refine wpAnyH_take (i := 33) (v := .bool false) rfl (by kernel_rfl) (by kernel_rfl) (by kernel_rfl) (fun _ _ _ h => h) (Or.inl ⟨by rfl, fun w' hSw => ?_⟩) hHeld ?_
            · obtain ⟨s0, s1, s2⟩ := hSw
              go_simp
            try simp only [Act.put, List.getElem_toArray, List.getElem_cons_zero, List.getElem_cons_succ, List.setIfInBounds_toArray, List.set_cons_zero, List.set_cons_succ]
            refine wpAnyH_take (i := 34) (v := .bool false) rfl (by kernel_rfl) (by kernel_rfl) (by kernel_rfl) (fun _ _ _ h => h) (Or.inl ⟨by rfl, fun w' hSw => ?_⟩) hHeld ?_
            · obtain ⟨s0, s1, s2⟩ := hSw
              go_simp
            try simp only [Act.put, List.getElem_toArray, List.getElem_cons_zero, List.getElem_cons_succ, List.setIfInBounds_toArray, List.set_cons_zero, List.set_cons_succ]
            refine wpAnyH_take (i := 35) (v := .bool false) rfl (by kernel_rfl) (by kernel_rfl) (by kernel_rfl) (fun _ _ _ h => h) (Or.inl ⟨by rfl, fun w' hSw => ?_⟩) hHeld ?_
            · obtain ⟨s0, s1, s2⟩ := hSw
              go_simp
            try simp only [Act.put, List.getElem_toArray, List.getElem_cons_zero, List.getElem_cons_succ, List.setIfInBounds_toArray, List.set_cons_zero, List.set_cons_succ]
            refine wpAnyH_take (i := 36) (v := .bool false) rfl (by kernel_rfl) (by kernel_rfl) (by kernel_rfl) (fun _ _ _ h => h) (Or.inl ⟨by rfl, fun w' hSw => ?_⟩) hHeld ?_
            · obtain ⟨s0, s1, s2⟩ := hSw
              go_simp
            try simp only [Act.put, List.getElem_toArray, List.getElem_cons_zero, List.getElem_cons_succ, List.setIfInBounds_toArray, List.set_cons_zero, List.set_cons_succ]
            refine wpAnyH_take (i := 37) (v := .bool false) rfl (by kernel_rfl) (by kernel_rfl) (by kernel_rfl) (fun _ _ _ h => h) (Or.inl ⟨by rfl, fun w' hSw => ?_⟩) hHeld ?_
            · obtain ⟨s0, s1, s2⟩ := hSw
              go_simp
            try simp only [Act.put, List.getElem_toArray, List.getElem_cons_zero, List.getElem_cons_succ, List.setIfInBounds_toArray, List.set_cons_zero, List.set_cons_succ]
            refine wpAnyH_take (i := 38) (v := .bool false) rfl (by kernel_rfl) (by kernel_rfl) (by kernel_rfl) (fun _ _ _ h => h) (Or.inl ⟨by rfl, fun w' hSw => ?_⟩) hHeld ?_
            · obtain ⟨s0, s1, s2⟩ := hSw
              go_simp
            try simp only [Act.put, List.getElem_toArray, List.getElem_cons_zero, List.getElem_cons_succ, List.setIfInBounds_toArray, List.set_cons_zero, List.set_cons_succ]
            refine wpAnyH_take (i := 39) (v := .int .i64 rs) rfl (by kernel_rfl) (by kernel_rfl) (by kernel_rfl) (fun _ _ _ h => h) (Or.inl ⟨by rfl, fun w' hSw => ?_⟩) hHeld ?_
            · obtain ⟨s0, s1, s2⟩ := hSw
              go_simp
            try simp only [Act.put, List.getElem_toArray, List.getElem_cons_zero, List.getElem_cons_succ, List.setIfInBounds_toArray, List.set_cons_zero, List.set_cons_succ]
            refine wpAnyH_take (i := 40) (v := .int .i64 rs) rfl (by kernel_rfl) (by kernel_rfl) (by kernel_rfl) (fun _ _ _ h => h) (Or.inl ⟨by rfl, fun w' hSw => ?_⟩) hHeld ?_
            · obtain ⟨s0, s1, s2⟩ := hSw
              go_simp
            try simp only [Act.put, List.getElem_toArray, List.getElem_cons_zero, List.getElem_cons_succ, List.setIfInBounds_toArray, List.set_cons_zero, List.set_cons_succ]
            refine wpAnyH_take (i := 41) (v := .bool false) rfl (by kernel_rfl) (by kernel_rfl) (by kernel_rfl) (fun _ _ _ h => h) (Or.inl ⟨by rfl, fun w' hSw => ?_⟩) hHeld ?_
            · obtain ⟨s0, s1, s2⟩ := hSw
              go_simp
            try simp only [Act.put, List.getElem_toArray, List.getElem_cons_zero, List.getElem_cons_succ, List.setIfInBounds_toArray, List.set_cons_zero, List.set_cons_succ]
            refine wpAnyH_take (i := 42) (v := .bool false) rfl (by kernel_rfl) (by kernel_rfl) (by kernel_rfl) (fun _ _ _ h => h) (Or.inl ⟨by rfl, fun w' hSw => ?_⟩) hHeld ?_
            · obtain ⟨s0, s1, s2⟩ := hSw
              go_simp
            try simp only [Act.put, List.getElem_toArray, List.getElem_cons_zero, List.getElem_cons_succ, List.setIfInBounds_toArray, List.set_cons_zero, List.set_cons_succ]
            refine wpAnyH_take (i := 43) (v := .bool false) rfl (by kernel_rfl) (by kernel_rfl) (by kernel_rfl) (fun _ _ _ h => h) (Or.inl ⟨by rfl, fun w' hSw => ?_⟩) hHeld ?_
            · obtain ⟨s0, s1, s2⟩ := hSw
              go_simp
            try simp only [Act.put, List.getElem_toArray, List.getElem_cons_zero, List.getElem_cons_succ, List.setIfInBounds_toArray, List.set_cons_zero, List.set_cons_succ]
            refine wpAnyH_take (i := 44) (v := .bool false) rfl (by kernel_rfl) (by kernel_rfl) (by kernel_rfl) (fun _ _ _ h => h) (Or.inl ⟨by rfl, fun w' hSw => ?_⟩) hHeld ?_
            · obtain ⟨s0, s1, s2⟩ := hSw
              go_simp
            try simp only [Act.put, List.getElem_toArray, List.getElem_cons_zero, List.getElem_cons_succ, List.setIfInBounds_toArray, List.set_cons_zero, List.set_cons_succ]
            refine wpAnyH_take (i := 45) (v := .bool false) rfl (by kernel_rfl) (by kernel_rfl) (by kernel_rfl) (fun _ _ _ h => h) (Or.inl ⟨by rfl, fun w' hSw => ?_⟩) hHeld ?_
            · obtain ⟨s0, s1, s2⟩ := hSw
              go_simp
            try simp only [Act.put, List.getElem_toArray, List.getElem_cons_zero, List.getElem_cons_succ, List.setIfInBounds_toArray, List.set_cons_zero, List.set_cons_succ]
            refine wpAnyH_take (i := 46) (v := undef) rfl (by kernel_rfl) (by kernel_rfl) (by kernel_rfl) (fun _ _ _ h => h) (Or.inr ⟨by rfl, rfl⟩) hHeld ?_
            try simp only [Act.put, List.getElem_toArray, List.getElem_cons_zero, List.getElem_cons_succ, List.setIfInBounds_toArray, List.set_cons_zero, List.set_cons_succ]
            refine wpAnyH_take (i := 47) (v := undef) rfl (by kernel_rfl) (by kernel_rfl) (by kernel_rfl) (fun _ _ _ h => h) (Or.inr ⟨by rfl, rfl⟩) hHeld ?_
            try simp only [Act.put, List.getElem_toArray, List.getElem_cons_zero, List.getElem_cons_succ, List.setIfInBounds_toArray, List.set_cons_zero, List.set_cons_succ]
            refine wpAnyH_take (i := 48) (v := undef) rfl (by kernel_rfl) (by kernel_rfl) (by kernel_rfl) (fun _ _ _ h => h) (Or.inr ⟨by rfl, rfl⟩) hHeld ?_
            try simp only [Act.put, List.getElem_toArray, List.getElem_cons_zero, List.getElem_cons_succ, List.setIfInBounds_toArray, List.set_cons_zero, List.set_cons_succ]
            refine wpAnyH_take (i := 49) (v := undef) rfl (by kernel_rfl) (by kernel_rfl) (by kernel_rfl) (fun _ _ _ h => h) (Or.inr ⟨by rfl, rfl⟩) hHeld ?_
            try simp only [Act.put, List.getElem_toArray, List.getElem_cons_zero, List.getElem_cons_succ, List.setIfInBounds_toArray, List.set_cons_zero, List.set_cons_succ]
            refine wpAnyH_take (i := 50) (v := undef) rfl (by kernel_rfl) (by kernel_rfl) (by kernel_rfl) (fun _ _ _ h => h) (Or.inr ⟨by rfl, rfl⟩) hHeld ?_
            try simp only [Act.put, List.getElem_toArray, List.getElem_cons_zero, List.getElem_cons_succ, List.setIfInBounds_toArray, List.set_cons_zero, List.set_cons_succ]
            refine wpAnyH_take (i := 51) (v := .bool false) rfl (by kernel_rfl) (by kernel_rfl) (by kernel_rfl) (fun _ _ _ h => h) (Or.inl ⟨by rfl, fun w' hSw => ?_⟩) hHeld ?_
            · obtain ⟨s0, s1, s2⟩ := hSw
              go_simp
            try simp only [Act.put, List.getElem_toArray, List.getElem_cons_zero, List.getElem_cons_succ, List.setIfInBounds_toArray, List.set_cons_zero, List.set_cons_succ]
            refine wpAnyH_take (i := 52) (v := .bool false) rfl (by kernel_rfl) (by kernel_rfl) (by kernel_rfl) (fun _ _ _ h => h) (Or.inl ⟨by rfl, fun w' hSw => ?_⟩) hHeld ?_
            · obtain ⟨s0, s1, s2⟩ := hSw
              go_simp
            try simp only [Act.put, List.getElem_toArray, List.getElem_cons_zero, List.getElem_cons_succ, List.setIfInBounds_toArray, List.set_cons_zero, List.set_cons_succ]
            refine wpAnyH_done (by kernel_rfl) ?_ _
            have HPS := Lib.hid (show PS w p q wc from ⟨_, _, _, _, _, _, _, _, _, HPW.out.more HBC.out, HDI.out, HOK.out⟩)
            clear hHeld HBC HBB HK3 HF1 HF2 HF3 HPW
            go_wp2
            go_roundw
            case rel => exact ⟨j + 1, by omega, by go_num, HPS.out⟩
            case measure => simp [intOf]; omega
        · as_aux_lemma =>
            refine wp_region_held_drew (S := (fun w' => w'.cell? ⟨q, 0, none⟩ = some (.slice vA ll vc) ∧ w'.cell? ⟨g6, 0, none⟩ = some (.int .i64 ra.code) ∧ w'.cell? ⟨g8, 0, none⟩ = some (.int .i64 ra.code))) (by kernel_rfl) ?_ (fun hHeld => ?_)
            · exact HK3.out W.drew ((Below.refl _ _).drew)
            refine wpAnyH_take (i := 0) (v := errV kk) rfl (by kernel_rfl) (by kernel_rfl) (by kernel_rfl) (fun _ _ _ h => h) (Or.inl ⟨by rfl, fun w' hSw => ?_⟩) hHeld ?_
            · obtain ⟨s0, s1, s2⟩ := hSw
              go_simp
            try simp only [Act.put, List.getElem_toArray, List.getElem_cons_zero, List.setIfInBounds_toArray, List.set_cons_zero, List.set_cons_succ]
            refine wpAnyH_take (i := 2) (v := .int .i64 kk) rfl (by kernel_rfl) (by kernel_rfl) (by kernel_rfl) (fun _ _ _ h => h) (Or.inl ⟨by rfl, fun w' hSw => ?_⟩) hHeld ?_
            · obtain ⟨s0, s1, s2⟩ := hSw
              go_simp
            try simp only [Act.put, List.getElem_toArray, List.getElem_cons_zero, List.getElem_cons_succ, List.setIfInBounds_toArray, List.set_cons_zero, List.set_cons_succ]
            refine wpAnyH_ready (rs := [1]) (by kernel_rfl) (by simp) ?_
            refine (AllReadyH.cons rfl (fun K hK => ?_) AllReadyH.nil)
            go_simp
            go_at_call 20
            (with_reducible refine (HCD.out _).mono ?_)
            rintro e wy ⟨rfl, rfl⟩
            refine hK.out _ _ hHeld (fun hHeld => ?_)
            clear hK K
            try simp only [Act.put, List.getElem_toArray, List.getElem_cons_zero, List.getElem_cons_succ, List.setIfInBounds_toArray, List.set_cons_zero, List.set_cons_succ]
            refine wpAnyH_take (i := 3) (v := .bool false) rfl (by kernel_rfl) (by kernel_rfl) (by kernel_rfl) (fun _ _ _ h => h) (Or.inl ⟨by rfl, fun w' hSw => ?_⟩) hHeld ?_
            · obtain ⟨s0, s1, s2⟩ := hSw
              go_simp
            try simp only [Act.put, List.getElem_toArray, List.getElem_cons_zero, List.getElem_cons_succ, List.setIfInBounds_toArray, List.set_cons_zero, List.set_cons_succ]
            refine wpAnyH_take (i := 4) (v := .bool false) rfl (by kernel_rfl) (by kernel_rfl) (by kernel_rfl) (fun _ _ _ h => h) (Or.inl ⟨by rfl, fun w' hSw => ?_⟩) hHeld ?_
            · obtain ⟨s0, s1, s2⟩ := hSw
              go_simp
            try simp only [Act.put, List.getElem_toArray, List.getElem_cons_zero, List.getElem_cons_succ, List.setIfInBounds_toArray, List.set_cons_zero, List.set_cons_succ]
            refine wpAnyH_take (i := 5) (v := .int .i64 st) rfl (by kernel_rfl) (by kernel_rfl) (by kernel_rfl) (fun _ _ _ h => h) (Or.inl ⟨by rfl, fun w' hSw => ?_⟩) hHeld ?_
            · obtain ⟨s0, s1, s2⟩ := hSw
              go_simp
            try simp only [Act.put, List.getElem_toArray, List.getElem_cons_zero, List.getElem_cons_succ, List.setIfInBounds_toArray, List.set_cons_zero, List.set_cons_succ]
            refine wpAnyH_take (i := 6) (v := .int .i64 st) rfl (by kernel_rfl) (by kernel_rfl) (by kernel_rfl) (fun _ _ _ h => h) (Or.inl ⟨by rfl, fun w' hSw => ?_⟩) hHeld ?_
            · obtain ⟨s0, s1, s2⟩ := hSw
              go_simp
            try simp only [Act.put, List.getElem_toArray, List.getElem_cons_zero, List.getElem_cons_succ, List.setIfInBounds_toArray, List.set_cons_zero, List.set_cons_succ]
            refine wpAnyH_take (i := 7) (v := .bool false) rfl (by kernel_rfl) (by kernel_rfl) (by kernel_rfl) (fun _ _ _ h => h) (Or.inl ⟨by rfl, fun w' hSw => ?_⟩) hHeld ?_
            · obtain ⟨s0, s1, s2⟩ := hSw
              go_simp
            try simp only [Act.put, List.getElem_toArray, List.getElem_cons_zero, List.getElem_cons_succ, List.setIfInBounds_toArray, List.set_cons_zero, List.set_cons_succ]
            refine wpAnyH_take (i := 8) (v := .bool false) rfl (by kernel_rfl) (by kernel_rfl) (by kernel_rfl) (fun _ _ _ h => h) (Or.inl ⟨by rfl, fun w' hSw => ?_⟩) hHeld ?_
            · obtain ⟨s0, s1, s2⟩ := hSw
              go_simp
            try simp only [Act.put, List.getElem_toArray, List.getElem_cons_zero, List.getElem_cons_succ, List.setIfInBounds_toArray, List.set_cons_zero, List.set_cons_succ]
            refine wpAnyH_take (i := 9) (v := .bool false) rfl (by kernel_rfl) (by kernel_rfl) (by kernel_rfl) (fun _ _ _ h => h) (Or.inl ⟨by rfl, fun w' hSw => ?_⟩) hHeld ?_
            · obtain ⟨s0, s1, s2⟩ := hSw
              go_simp
            try simp only [Act.put, List.getElem_toArray, List.getElem_cons_zero, List.getElem_cons_succ, List.setIfInBounds_toArray, List.set_cons_zero, List.set_cons_succ]
            refine wpAnyH_take (i := 10) (v := .int .i64 ((st : Int) + (R.length : Int))) rfl (by kernel_rfl) (by kernel_rfl) (by kernel_rfl) (fun _ _ _ h => h) (Or.inl ⟨by rfl, fun w' hSw => ?_⟩) hHeld ?_
            · obtain ⟨s0, s1, s2⟩ := hSw
              go_simp
            try simp only [Act.put, List.getElem_toArray, List.getElem_cons_zero, List.getElem_cons_succ, List.setIfInBounds_toArray, List.set_cons_zero, List.set_cons_succ]
            refine wpAnyH_take (i := 11) (v := .int .i64 ((st : Int) + (R.length : Int))) rfl (by kernel_rfl) (by kernel_rfl) (by kernel_rfl) (fun _ _ _ h => h) (Or.inl ⟨by rfl, fun w' hSw => ?_⟩) hHeld ?_
            · obtain ⟨s0, s1, s2⟩ := hSw
              go_simp
            try simp only [Act.put, List.getElem_toArray, List.getElem_cons_zero, List.getElem_cons_succ, List.setIfInBounds_toArray, List.set_cons_zero, List.set_cons_succ]
            refine wpAnyH_take (i := 12) (v := .bool false) rfl (by kernel_rfl) (by kernel_rfl) (by kernel_rfl) (fun _ _ _ h => h) (Or.inl ⟨by rfl, fun w' hSw => ?_⟩) hHeld ?_
            · obtain ⟨s0, s1, s2⟩ := hSw
              go_simp
            try simp only [Act.put, List.getElem_toArray, List.getElem_cons_zero, List.getElem_cons_succ, List.setIfInBounds_toArray, List.set_cons_zero, List.set_cons_succ]
            refine wpAnyH_take (i := 13) (v := .bool false) rfl (by kernel_rfl) (by kernel_rfl) (by kernel_rfl) (fun _ _ _ h => h) (Or.inl ⟨by rfl, fun w' hSw => ?_⟩) hHeld ?_
            · obtain ⟨s0, s1, s2⟩ := hSw
              go_simp
            try simp only [Act.put, List.getElem_toArray, List.getElem_cons_zero, List.getElem_cons_succ, List.setIfInBounds_toArray, List.set_cons_zero, List.set_cons_succ]
            refine wpAnyH_take (i := 14) (v := .bool false) rfl (by kernel_rfl) (by kernel_rfl) (by kernel_rfl) (fun _ _ _ h => h) (Or.inl ⟨by rfl, fun w' hSw => ?_⟩) hHeld ?_
            · obtain ⟨s0, s1, s2⟩ := hSw
              go_simp
            try simp only [Act.put, List.getElem_toArray, List.getElem_cons_zero, List.getElem_cons_succ, List.setIfInBounds_toArray, List.set_cons_zero, List.set_cons_succ]
            refine wpAnyH_take (i := 15) (v := .pointer (some ⟨p, 0, none⟩)) rfl (by kernel_rfl) (by kernel_rfl) (by kernel_rfl) (fun _ _ _ h => h) (Or.inl ⟨by rfl, fun w' hSw => ?_⟩) hHeld ?_
            · obtain ⟨s0, s1, s2⟩ := hSw
              go_simp
            try simp only [Act.put, List.getElem_toArray, List.getElem_cons_zero, List.getElem_cons_succ, List.setIfInBounds_toArray, List.set_cons_zero, List.set_cons_succ]
            refine wpAnyH_take (i := 17) (v := .pointer (some ⟨q, 0, none⟩)) rfl (by kernel_rfl) (by kernel_rfl) (by kernel_rfl) (fun _ _ _ h => h) (Or.inl ⟨by rfl, fun w' hSw => ?_⟩) hHeld ?_
            · obtain ⟨s0, s1, s2⟩ := hSw
              go_simp
            try simp only [Act.put, List.getElem_toArray, List.getElem_cons_zero, List.getElem_cons_succ, List.setIfInBounds_toArray, List.set_cons_zero, List.set_cons_succ]
            refine wpAnyH_take (i := 18) (v := .pointer (some ⟨q, 0, none⟩)) rfl (by kernel_rfl) (by kernel_rfl) (by kernel_rfl) (fun _ _ _ h => h) (Or.inl ⟨by rfl, fun w' hSw => ?_⟩) hHeld ?_
            · obtain ⟨s0, s1, s2⟩ := hSw
              go_simp
            try simp only [Act.put, List.getElem_toArray, List.getElem_cons_zero, List.getElem_cons_succ, List.setIfInBounds_toArray, List.set_cons_zero, List.set_cons_succ]
            refine wpAnyH_take (i := 19) (v := .pointer (some ⟨q, 0, none⟩)) rfl (by kernel_rfl) (by kernel_rfl) (by kernel_rfl) (fun _ _ _ h => h) (Or.inl ⟨by rfl, fun w' hSw => ?_⟩) hHeld ?_
            · obtain ⟨s0, s1, s2⟩ := hSw
              go_simp
            try simp only [Act.put, List.getElem_toArray, List.getElem_cons_zero, List.getElem_cons_succ, List.setIfInBounds_toArray, List.set_cons_zero, List.set_cons_succ]
            refine wpAnyH_take (i := 20) (v := .slice vA ll vc) rfl (by kernel_rfl) (by kernel_rfl) (by kernel_rfl) (fun _ _ _ h => h) (Or.inl ⟨by rfl, fun w' hSw => ?_⟩) hHeld ?_
            · obtain ⟨s0, s1, s2⟩ := hSw
              go_simp
            try simp only [Act.put, List.getElem_toArray, List.getElem_cons_zero, List.getElem_cons_succ, List.setIfInBounds_toArray, List.set_cons_zero, List.set_cons_succ]
            refine wpAnyH_take (i := 21) (v := .int .i64 ll) rfl (by kernel_rfl) (by kernel_rfl) (by kernel_rfl) (fun _ _ _ h => h) (Or.inl ⟨by rfl, fun w' hSw => ?_⟩) hHeld ?_
            · obtain ⟨s0, s1, s2⟩ := hSw
              go_simp
            try simp only [Act.put, List.getElem_toArray, List.getElem_cons_zero, List.getElem_cons_succ, List.setIfInBounds_toArray, List.set_cons_zero, List.set_cons_succ]
            refine wpAnyH_take (i := 22) (v := .bool (decide (0 < ll))) rfl (by kernel_rfl) (by kernel_rfl) (by kernel_rfl) (fun _ _ _ h => h) (Or.inl ⟨by rfl, fun w' hSw => ?_⟩) hHeld ?_
            · obtain ⟨s0, s1, s2⟩ := hSw
              go_simp
            try simp only [Act.put, List.getElem_toArray, List.getElem_cons_zero, List.getElem_cons_succ, List.setIfInBounds_toArray, List.set_cons_zero, List.set_cons_succ]
            refine wpAnyH_ready (rs := [16]) (by kernel_rfl) (by simp) ?_
            refine (AllReadyH.cons rfl (fun K hK => ?_) AllReadyH.nil)
            have D1 := Lib.hid (HF1.out W.drew ((Below.refl _ _).drew))
            go_simp
            go_at_call 21
            (with_reducible refine D1.out.mono ?_)
            rintro e w9 ⟨rfl, hb9⟩
            have hb9 : Below W.heap.size W w9 := undrew hb9
            have HB9 := Lib.hid hb9
            have D2 := Lib.hid (HF2.out w9 hb9)
            have D3 := Lib.hid (HF3.out w9 hb9)
            clear hb9 D1
            refine hK.out _ _ (HK3.out w9 HB9.out) (fun hHeld => ?_)
            clear hK K
            try simp only [Act.put, List.getElem_toArray, List.getElem_cons_zero, List.getElem_cons_succ, List.setIfInBounds_toArray, List.set_cons_zero, List.set_cons_succ]
            refine wpAnyH_take (i := 23) (v := .bool false) rfl (by kernel_rfl) (by kernel_rfl) (by kernel_rfl) (fun _ _ _ h => h) (Or.inl ⟨by rfl, fun w' hSw => ?_⟩) hHeld ?_
            · obtain ⟨s0, s1, s2⟩ := hSw
              go_simp
            try simp only [Act.put, List.getElem_toArray, List.getElem_cons_zero, List.getElem_cons_succ, List.setIfInBounds_toArray, List.set_cons_zero, List.set_cons_succ]
            refine wpAnyH_take (i := 24) (v := .bool false) rfl (by kernel_rfl) (by kernel_rfl) (by kernel_rfl) (fun _ _ _ h => h) (Or.inl ⟨by rfl, fun w' hSw => ?_⟩) hHeld ?_
            · obtain ⟨s0, s1, s2⟩ := hSw
              go_simp
            try simp only [Act.put, List.getElem_toArray, List.getElem_cons_zero, List.getElem_cons_succ, List.setIfInBounds_toArray, List.set_cons_zero, List.set_cons_succ]
            refine wpAnyH_take (i := 25) (v := .bool false) rfl (by kernel_rfl) (by kernel_rfl) (by kernel_rfl) (fun _ _ _ h => h) (Or.inl ⟨by rfl, fun w' hSw => ?_⟩) hHeld ?_
            · obtain ⟨s0, s1, s2⟩ := hSw
              go_simp
            try simp only [Act.put, List.getElem_toArray, List.getElem_cons_zero, List.getElem_cons_succ, List.setIfInBounds_toArray, List.set_cons_zero, List.set_cons_succ]
            refine wpAnyH_take (i := 26) (v := .pointer (some ⟨p, 0, none⟩)) rfl (by kernel_rfl) (by kernel_rfl) (by kernel_rfl) (fun _ _ _ h => h) (Or.inl ⟨by rfl, fun w' hSw => ?_⟩) hHeld ?_
            · obtain ⟨s0, s1, s2⟩ := hSw
              go_simp
            try simp only [Act.put, List.getElem_toArray, List.getElem_cons_zero, List.getElem_cons_succ, List.setIfInBounds_toArray, List.set_cons_zero, List.set_cons_succ]
            refine wpAnyH_take (i := 28) (v := .pointer (some ⟨q, 0, none⟩)) rfl (by kernel_rfl) (by kernel_rfl) (by kernel_rfl) (fun _ _ _ h => h) (Or.inl ⟨by rfl, fun w' hSw => ?_⟩) hHeld ?_
            · obtain ⟨s0, s1, s2⟩ := hSw
              go_simp
            try simp only [Act.put, List.getElem_toArray, List.getElem_cons_zero, List.getElem_cons_succ, List.setIfInBounds_toArray, List.set_cons_zero, List.set_cons_succ]
            refine wpAnyH_ready (rs := [27]) (by kernel_rfl) (by simp) ?_
            refine (AllReadyH.cons rfl (fun K hK => ?_) AllReadyH.nil)
            go_simp
            go_at_call 23
            (with_reducible refine D2.out.mono ?_)
            rintro e wa ⟨A1, c1, rfl, ho1, hba⟩
            have HBA := Lib.hid (HB9.out.trans (hba.mono HB9.out.size))
            have HO1 := Lib.hid ho1.here
            have D3A := Lib.hid (HF3.out wa HBA.out)
            clear hba ho1 D2 D3
            refine hK.out _ _ (HK3.out wa HBA.out) (fun hHeld => ?_)
            clear hK K
            try simp only [Act.put, List.getElem_toArray, List.getElem_cons_zero, List.getElem_cons_succ, List.setIfInBounds_toArray, List.set_cons_zero, List.set_cons_succ]
            refine wpAnyH_ready (rs := [29]) (by kernel_rfl) (by simp) ?_
            refine (AllReadyH.cons rfl (fun K hK => ?_) AllReadyH.nil)
            go_simp
            go_at_call 11
            (with_reducible refine D3A.out.mono ?_)
            rintro e wb ⟨A2, c2, rfl, hr2, hbb⟩
            have HBB := Lib.hid (HBA.out.trans (hbb.mono HBA.out.size))
            have HR2 := Lib.hid (And.intro (HO1.out.below hbb) hr2)
            clear hbb hr2 D3A HO1
            refine hK.out _ _ (HK3.out wb HBB.out) (fun hHeld => ?_)
            clear hK K
            try simp only [Act.put, List.getElem_toArray, List.getElem_cons_zero, List.getElem_cons_succ, List.setIfInBounds_toArray, List.set_cons_zero, List.set_cons_succ]
            refine wpAnyH_ready (rs := [30]) (by kernel_rfl) (by simp) ?_
            refine (AllReadyH.cons rfl (fun K hK => ?_) AllReadyH.nil)
            have D4 := Lib.hid (same_any c1 c2 HR2.out.1 HR2.out.2 hm1000)
            go_simp
            go_at_call 22
            (with_reducible refine D4.out.mono ?_)
            rintro e wc ⟨rfl, hbc⟩
            have HBC := Lib.hid (HBB.out.trans (hbc.mono HBB.out.size))
            clear hbc D4
            refine hK.out _ _ (HK3.out wc HBC.out) (fun hHeld => ?_)
            clear hK K
            try simp only [Act.put, List.getElem_toArray, List.getElem_cons_zero, List.getElem_cons_succ, List.setIfInBounds_toArray, List.set_cons_zero, List.set_cons_succ]
            refine wpAnyH_take (i := 31) (v := .bool false) rfl (by kernel_rfl) (by kernel_rfl) (by kernel_rfl) (fun _ _ _ h => h) (Or.inl ⟨by rfl, fun w' hSw => ?_⟩) hHeld ?_
            · obtain ⟨s0, s1, s2⟩ := hSw
              go_simp
            try simp only [Act.put, List.getElem_toArray, List.getElem_cons_zero, List.getElem_cons_succ, List.setIfInBounds_toArray, List.set_cons_zero, List.set_cons_succ]
            refine wpAnyH_take (i := 32) (v := .bool false) rfl (by kernel_rfl) (by kernel_rfl) (by kernel_rfl) (fun _ _ _ h => h) (Or.inl ⟨by rfl, fun w' hSw => ?_⟩) hHeld ?_
            · obtain ⟨s0, s1, s2⟩ := hSw
              go_simp
            try simp only [Act.put, List.getElem_toArray, List.getElem_cons_zero, List.getElem_cons_succ, List.setIfInBounds_toArray, List.set_cons_zero, List.set_cons_succ]
            refine wpAnyH_take (i := 33) (v := .bool false) rfl (by kernel_rfl) (by kernel_rfl) (by kernel_rfl) (fun _ _ _ h => h) (Or.inl ⟨by rfl, fun w' hSw => ?_⟩) hHeld ?_
            · obtain ⟨s0, s1, s2⟩ := hSw
              go_simp
            try simp only [Act.put, List.getElem_toArray, List.getElem_cons_zero, List.getElem_cons_succ, List.setIfInBounds_toArray, List.set_cons_zero, List.set_cons_succ]
            refine wpAnyH_take (i := 34) (v := .bool true) rfl (by kernel_rfl) (by kernel_rfl) (by kernel_rfl) (fun _ _ _ h => h) (Or.inl ⟨by rfl, fun w' hSw => ?_⟩) hHeld ?_
            · obtain ⟨s0, s1, s2⟩ := hSw
              go_simp
            try simp only [Act.put, List.getElem_toArray, List.getElem_cons_zero, List.getElem_cons_succ, List.setIfInBounds_toArray, List.set_cons_zero, List.set_cons_succ]
            refine wpAnyH_take (i := 35) (v := .bool true) rfl (by kernel_rfl) (by kernel_rfl) (by kernel_rfl) (fun _ _ _ h => h) (Or.inl ⟨by rfl, fun w' hSw => ?_⟩) hHeld ?_
            · obtain ⟨s0, s1, s2⟩ := hSw
              go_simp
            try simp only [Act.put, List.getElem_toArray, List.getElem_cons_zero, List.getElem_cons_succ, List.setIfInBounds_toArray, List.set_cons_zero, List.set_cons_succ]
            refine wpAnyH_take (i := 36) (v := .bool false) rfl (by kernel_rfl) (by kernel_rfl) (by kernel_rfl) (fun _ _ _ h => h) (Or.inl ⟨by rfl, fun w' hSw => ?_⟩) hHeld ?_
            · obtain ⟨s0, s1, s2⟩ := hSw
              go_simp
            try simp only [Act.put, List.getElem_toArray, List.getElem_cons_zero, List.getElem_cons_succ, List.setIfInBounds_toArray, List.set_cons_zero, List.set_cons_succ]
            refine wpAnyH_take (i := 37) (v := .bool false) rfl (by kernel_rfl) (by kernel_rfl) (by kernel_rfl) (fun _ _ _ h => h) (Or.inl ⟨by rfl, fun w' hSw => ?_⟩) hHeld ?_
            · obtain ⟨s0, s1, s2⟩ := hSw
              go_simp
            try simp only [Act.put, List.getElem_toArray, List.getElem_cons_zero, List.getElem_cons_succ, List.setIfInBounds_toArray, List.set_cons_zero, List.set_cons_succ]
            refine wpAnyH_take (i := 38) (v := .bool false) rfl (by kernel_rfl) (by kernel_rfl) (by kernel_rfl) (fun _ _ _ h => h) (Or.inl ⟨by rfl, fun w' hSw => ?_⟩) hHeld ?_
            · obtain ⟨s0, s1, s2⟩ := hSw
              go_simp
            try simp only [Act.put, List.getElem_toArray, List.getElem_cons_zero, List.getElem_cons_succ, List.setIfInBounds_toArray, List.set_cons_zero, List.set_cons_succ]
            refine wpAnyH_take (i := 39) (v := .int .i64 rs) rfl (by kernel_rfl) (by kernel_rfl) (by kernel_rfl) (fun _ _ _ h => h) (Or.inl ⟨by rfl, fun w' hSw => ?_⟩) hHeld ?_
            · obtain ⟨s0, s1, s2⟩ := hSw
              go_simp
            try simp only [Act.put, List.getElem_toArray, List.getElem_cons_zero, List.getElem_cons_succ, List.setIfInBounds_toArray, List.set_cons_zero, List.set_cons_succ]
            refine wpAnyH_take (i := 40) (v := .int .i64 rs) rfl (by kernel_rfl) (by kernel_rfl) (by kernel_rfl) (fun _ _ _ h => h) (Or.inl ⟨by rfl, fun w' hSw => ?_⟩) hHeld ?_
            · obtain ⟨s0, s1, s2⟩ := hSw
              go_simp
            try simp only [Act.put, List.getElem_toArray, List.getElem_cons_zero, List.getElem_cons_succ, List.setIfInBounds_toArray, List.set_cons_zero, List.set_cons_succ]
            refine wpAnyH_take (i := 41) (v := .bool false) rfl (by kernel_rfl) (by kernel_rfl) (by kernel_rfl) (fun _ _ _ h => h) (Or.inl ⟨by rfl, fun w' hSw => ?_⟩) hHeld ?_
            · obtain ⟨s0, s1, s2⟩ := hSw
              go_simp
            try simp only [Act.put, List.getElem_toArray, List.getElem_cons_zero, List.getElem_cons_succ, List.setIfInBounds_toArray, List.set_cons_zero, List.set_cons_succ]
            refine wpAnyH_take (i := 42) (v := .bool false) rfl (by kernel_rfl) (by kernel_rfl) (by kernel_rfl) (fun _ _ _ h => h) (Or.inl ⟨by rfl, fun w' hSw => ?_⟩) hHeld ?_
            · obtain ⟨s0, s1, s2⟩ := hSw
              go_simp
            try simp only [Act.put, List.getElem_toArray, List.getElem_cons_zero, List.getElem_cons_succ, List.setIfInBounds_toArray, List.set_cons_zero, List.set_cons_succ]
            refine wpAnyH_take (i := 43) (v := .bool false) rfl (by kernel_rfl) (by kernel_rfl) (by kernel_rfl) (fun _ _ _ h => h) (Or.inl ⟨by rfl, fun w' hSw => ?_⟩) hHeld ?_
            · obtain ⟨s0, s1, s2⟩ := hSw
              go_simp
            try simp only [Act.put, List.getElem_toArray, List.getElem_cons_zero, List.getElem_cons_succ, List.setIfInBounds_toArray, List.set_cons_zero, List.set_cons_succ]
            refine wpAnyH_take (i := 44) (v := .bool true) rfl (by kernel_rfl) (by kernel_rfl) (by kernel_rfl) (fun _ _ _ h => h) (Or.inl ⟨by rfl, fun w' hSw => ?_⟩) hHeld ?_
            · obtain ⟨s0, s1, s2⟩ := hSw
              go_simp
            try simp only [Act.put, List.getElem_toArray, List.getElem_cons_zero, List.getElem_cons_succ, List.setIfInBounds_toArray, List.set_cons_zero, List.set_cons_succ]
            refine wpAnyH_take (i := 45) (v := .bool true) rfl (by kernel_rfl) (by kernel_rfl) (by kernel_rfl) (fun _ _ _ h => h) (Or.inl ⟨by rfl, fun w' hSw => ?_⟩) hHeld ?_
            · obtain ⟨s0, s1, s2⟩ := hSw
              go_simp
            try simp only [Act.put, List.getElem_toArray, List.getElem_cons_zero, List.getElem_cons_succ, List.setIfInBounds_toArray, List.set_cons_zero, List.set_cons_succ]
            refine wpAnyH_take (i := 46) (v := .pointer (some ⟨g6, 0, none⟩)) rfl (by kernel_rfl) (by kernel_rfl) (by kernel_rfl) (fun _ _ _ h => h) (Or.inl ⟨by rfl, fun w' hSw => ?_⟩) hHeld ?_
            · obtain ⟨s0, s1, s2⟩ := hSw
              go_simp
            try simp only [Act.put, List.getElem_toArray, List.getElem_cons_zero, List.getElem_cons_succ, List.setIfInBounds_toArray, List.set_cons_zero, List.set_cons_succ]
            refine wpAnyH_take (i := 47) (v := .int .i64 ra.code) rfl (by kernel_rfl) (by kernel_rfl) (by kernel_rfl) (fun _ _ _ h => h) (Or.inl ⟨by rfl, fun w' hSw => ?_⟩) hHeld ?_
            · obtain ⟨s0, s1, s2⟩ := hSw
              go_simp
            try simp only [Act.put, List.getElem_toArray, List.getElem_cons_zero, List.getElem_cons_succ, List.setIfInBounds_toArray, List.set_cons_zero, List.set_cons_succ]
            refine wpAnyH_take (i := 48) (v := .pointer (some ⟨g8, 0, none⟩)) rfl (by kernel_rfl) (by kernel_rfl) (by kernel_rfl) (fun _ _ _ h => h) (Or.inl ⟨by rfl, fun w' hSw => ?_⟩) hHeld ?_
            · obtain ⟨s0, s1, s2⟩ := hSw
              go_simp
            try simp only [Act.put, List.getElem_toArray, List.getElem_cons_zero, List.getElem_cons_succ, List.setIfInBounds_toArray, List.set_cons_zero, List.set_cons_succ]
            refine wpAnyH_take (i := 49) (v := .int .i64 ra.code) rfl (by kernel_rfl) (by kernel_rfl) (by kernel_rfl) (fun _ _ _ h => h) (Or.inl ⟨by rfl, fun w' hSw => ?_⟩) hHeld ?_
            · obtain ⟨s0, s1, s2⟩ := hSw
              go_simp
            try simp only [Act.put, List.getElem_toArray, List.getElem_cons_zero, List.getElem_cons_succ, List.setIfInBounds_toArray, List.set_cons_zero, List.set_cons_succ]
            refine wpAnyH_take (i := 50) (v := .bool false) rfl (by kernel_rfl) (by kernel_rfl) (by kernel_rfl) (fun _ _ _ h => h) (Or.inl ⟨by rfl, fun w' hSw => ?_⟩) hHeld ?_
            · obtain ⟨s0, s1, s2⟩ := hSw
              go_simp
            try simp only [Act.put, List.getElem_toArray, List.getElem_cons_zero, List.getElem_cons_succ, List.setIfInBounds_toArray, List.set_cons_zero, List.set_cons_succ]
            refine wpAnyH_take (i := 51) (v := .bool false) rfl (by kernel_rfl) (by kernel_rfl) (by kernel_rfl) (fun _ _ _ h => h) (Or.inl ⟨by rfl, fun w' hSw => ?_⟩) hHeld ?_
            · obtain ⟨s0, s1, s2⟩ := hSw
              go_simp
            try simp only [Act.put, List.getElem_toArray, List.getElem_cons_zero, List.getElem_cons_succ, List.setIfInBounds_toArray, List.set_cons_zero, List.set_cons_succ]
            refine wpAnyH_take (i := 52) (v := .bool false) rfl (by kernel_rfl) (by kernel_rfl) (by kernel_rfl) (fun _ _ _ h => h) (Or.inl ⟨by rfl, fun w' hSw => ?_⟩) hHeld ?_
            · obtain ⟨s0, s1, s2⟩ := hSw
              go_simp
            try simp only [Act.put, List.getElem_toArray, List.getElem_cons_zero, List.getElem_cons_succ, List.setIfInBounds_toArray, List.set_cons_zero, List.set_cons_succ]
            refine wpAnyH_done (by kernel_rfl) ?_ _
            have HPS := Lib.hid (show PS w p q wc from ⟨_, _, _, _, _, _, _, _, _, HPW.out.more HBC.out, HDI.out, HOK.out⟩)
            clear hHeld HBC HBB HK3 HF1 HF2 HF3 HPW
            go_wp2
            go_roundw
            case rel => exact ⟨j + 1, by omega, by go_num, HPS.out⟩
            case measure => simp [intOf]; omega
    · obtain rfl : j = k := by omega
      have hnj : ¬ ((j : Int) < (j : Int)) := by omega
      go_wp2
      go_ret
      exact ⟨rfl, HP.out.below⟩

theorem journal_plays_any {w : World} {A : Option Addr} {k : Nat} (c : Nat) {M : List De} (h : Deeds w A k M) :
    Calls Try.prog 3 #[.slice A k c] w fun e w' => e = .returned (.bool true) ∧ Below w.heap.size w w' := by
  by_cases hk : k ≤ 100
  · exact jplays_main c h hk
  · exact jplays_long c (by omega)
end Go.Proofs.Ythcchaglloggjaa
