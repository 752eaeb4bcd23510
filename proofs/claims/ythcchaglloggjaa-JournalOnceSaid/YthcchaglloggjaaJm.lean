/- JournalOnce's walk where what came in is small. Condition: what came in can be read. -/
import Derived.Test.YthcchaglloggjaaJl
namespace Go.Proofs.Ythcchaglloggjaa
open Go.RowKit
set_option linter.unusedVariables false
set_option maxRecDepth 100000

def SameW (a b : World) : Prop := a = b
def OnL (w : World) (p t n : Nat) (all : Gr) (a b c : Value) (wr : World) : Prop :=
  ∃ (T : List Gr) (R : List Ry) (seen : List Int) (ap i : Nat), b = .int .i64 ap ∧ c = .int .i64 i ∧ OnM w p a T R seen wr ∧ OnI all T R seen ap ∧ i ≤ t + 2 * n ∧ Prog t n i T.length R.length

set_option maxHeartbeats 32000000 in
theorem once_main {w : World} {A B D : Option Addr} {n m t : Nat} (c d f : Nat) {L : List Int} {M : List Rq} {Bs : List Bool} (hA : Ils w A n L) (hB : Reqs w B m M) (hD : Bls w D t Bs) (hf : fewQ M 40 = true) (hn : n ≤ 60) (ht : t ≤ 200) :
    Calls Try.prog 4 #[.slice A n c, .slice B m d, .slice D t f] w fun e w' => e = .returned (.bool true) ∧ Below w.heap.size w w' := by
  have HUP := Lib.hid (up_any w)
  have HN := Lib.hid (fun w1 (h : w.heap.size ≤ w1.heap.size) => jnew_any (Off (.slice none 0 0)) (w := w1) (N := w.heap.size) h)
  have HF := Lib.hid (fun (w1 : World) (hb : Below w.heap.size w w1) => fewq_any (w := w1) d 40 (hB.below hb))
  rw [hf] at HF
  have HML := Lib.hid (show M.length = m from hB.1)
  have hm40 : m ≤ 40 := by have := (fewQ_all hf).2; have := hB.1; omega
  have HSM := Lib.hid (show ∀ j, j < m → smallQ (gq M j) = true from fun j hj => (fewQ_all hf).1 j (by have := hB.1; omega))
  have HA := Lib.hid hA
  have HB := Lib.hid hB
  have HD := Lib.hid hD
  have hn1 : ¬ ((60 : Int) < (n : Int)) := by omega
  have ht1 : ¬ ((200 : Int) < (t : Int)) := by omega
  clear hA hB hD hf
  go_enter Try.func4, Try.ntmps4
  go_wp2_with fail
  refine HUP.out.mono ?_
  rintro e w1 ⟨rfl, hb1⟩
  have HB1 := Lib.hid hb1
  have E := Lib.hid (HN.out w1 hb1.size)
  clear hb1 HUP HN
  go_wp2_with fail
  refine E.out.mono ?_
  rintro e w2 ⟨rfl, hm2, hb2, -⟩
  have HM2 := Lib.hid hm2
  have HB2 := Lib.hid (HB1.out.trans (hb2.mono HB1.out.size))
  have E := Lib.hid (HF.out w2 HB2.out)
  have hps : w.heap.size ≤ w1.heap.size := HB1.out.size
  have HPS := Lib.hid hps
  generalize w1.heap.size = p at HM2 HPS ⊢
  clear hm2 hb2 HF HB1 hps
  go_wp2_with fail
  refine E.out.mono ?_
  rintro e w3 ⟨rfl, hb3⟩
  have HM3 := Lib.hid (HM2.out.below hb3)
  have HB3 := Lib.hid (HB2.out.trans (hb3.mono HB2.out.size))
  have hlow : ∀ b, b < w.heap.size → Jo p (.slice none 0 0) (.slice none 0 0) b := fun b hb => jo_low HM3.out hb
  have E := Lib.hid (begin_any c d HM3.out okj_nil (fun b _ q hq => by cases hq) (((ils_old HA.out).keep (below_agree HB3.out fun b hb _ => hb)).mono hlow) ((reqs_old HB.out).keep (below_agree HB3.out fun b hb _ => hb) |>.mono hlow) HSM.out (by omega))
  have HLOW := Lib.hid hlow
  clear hb3 HM2 HB2 hlow
  have hkb := beginK_le L M
  obtain ⟨kb, hkbe⟩ : ∃ kb, kb = beginK [] [] L M := ⟨_, rfl⟩
  rw [← hkbe] at E hkb
  have HKB := Lib.hid hkbe
  clear hkbe
  by_cases hk0 : kb = 0
  case neg =>
    go_wp2_with fail
    refine E.out.mono ?_
    rintro e w4 (⟨-, vt, vr, rfl, hm4, hk4⟩ | ⟨h0, -⟩)
    rotate_left
    · exact absurd h0 hk0
    have HB4 := Lib.hid (HB3.out.trans (hk4.below (fun b hb => HLOW.out b hb) HB3.out.size))
    have E2 := Lib.hid (open_any hm4 (by decide))
    rw [show openB ([] : List Gr) ([] : List Ry) = false from rfl] at E2
    rw [errV_some hk0]
    clear hm4 hk4 E HM3 HB3
    go_wp2_with fail
    refine E2.out.mono ?_
    rintro e w5 ⟨rfl, hb5⟩
    have HB5 := Lib.hid (HB4.out.trans (hb5.mono HB4.out.size))
    clear hb5
    go_wp2
    go_ret
    exact ⟨rfl, HB5.out⟩
  subst hk0
  obtain ⟨hnd, hlm, hm32, hm0⟩ := begun HKB.out.symm
  have hnm : n = m := by have := HA.out.1; have := HML.out; omega
  subst hnm
  rw [HML.out] at hm32 hm0
  have HND := Lib.hid hnd
  have HLN := Lib.hid HA.out.1
  clear hnd hlm HKB hkb
  go_wp2_with fail
  refine E.out.mono ?_
  rintro e w4 (⟨h0, -⟩ | ⟨-, g, hg, vt, vr, rfl, hm4, hk4⟩)
  · exact absurd rfl h0
  have HST := Lib.hid (show OnM w p (.slice none 0 0) (grT L M (grpL M g n)) [] [] w4 ∧ OnI (allG L M g n) (grT L M (grpL M g n)) [] [] 0 from
    ⟨⟨HB3.out.trans (hk4.below (fun b hb => HLOW.out b hb) HB3.out.size), ⟨vt, vr, hm4, fun b hb => by cases hb⟩, World.ownsRow_nil _ _ _ _⟩, on_start hg hm32 HSM.out⟩)
  have HAM := Lib.hid (And.intro (fun y (hy : y ∈ allG L M g n) => allG_mem hg hy) (And.intro (allG_nodup hg HND.out HLN.out) (allG_len L M g n)))
  rw [errV_zero]
  have HGT := Lib.hid (show (grT L M (grpL M g n)).length ≤ n from by
    have h1 := len_size HST.out.2.ok.ne
    have h2 := HST.out.2.lens
    rw [allG_len] at h2
    omega)
  generalize grT L M (grpL M g n) = T0 at HST HGT
  generalize allG L M g n = all at HST HAM
  clear hg hm4 hk4 E HM3 HB3 HLOW HSM HPS
  go_wp2
  go_loopw [11, 12, 13] (fun a b c wr => OnL w p t n all a b c wr) (fun _ _ s _ => t + 2 * n - (intOf s).toNat)
  case atStart => exact ⟨T0, [], [], 0, 0, rfl, rfl, HST.out.1, HST.out.2, Nat.zero_le _, prog_start HGT.out hm0⟩
  case round =>
    clear HST HGT
    obtain ⟨T, R, seen, ap, i, rfl, rfl, hm, hi, hil, hpr⟩ := hrel
    have HM := Lib.hid hm
    have HI := Lib.hid hi
    have HPR := Lib.hid hpr
    have hlen := hi.lens
    rw [HAM.out.2.2] at hlen
    have hcnt := hi.cnt
    rw [HAM.out.2.2] at hcnt
    have HLC := Lib.hid (And.intro hlen hcnt)
    clear hm hi hpr hlen hcnt
    by_cases hlt : i < t + 2 * n
    · have c1 : (i : Int) < (t : Int) + 2 * (n : Int) := by omega
      go_upto_if 83 with fail
      go_cut [14] (fun s wx => ∃ b, s = .bool b ∧ wx = wr ∧ (t ≤ i → b = decide (t + n ≤ i)))
      case first =>
        by_cases hit : i < t
        · obtain ⟨db, dd, rfl, hdb, x0⟩ := (HD.out.below HM.out.below).at_ hit
          have c2 : (i : Int) < (t : Int) := by omega
          have c3 : (0 : Int) ≤ (i : Int) := by omega
          go_wp2
          go_meet
          exact ⟨_, rfl, rfl, fun h => by omega⟩
        · have c2 : ¬ ((i : Int) < (t : Int)) := by omega
          go_wp2
          go_meet
          exact ⟨_, rfl, rfl, fun _ => by rw [decide_eq_decide]; omega⟩
      case rest =>
        rename World => wq
        obtain ⟨b, rfl, rfl, hb⟩ := hcut
        clear c1
        cases b
        · skip
          have hbt : t ≤ i → ¬ (t + n ≤ i) := fun h => by
            have := hb h
            simpa using this.symm
          have HBT := Lib.hid hbt
          clear hb hbt
          obtain ⟨vt, vr, hjm, hjo⟩ := HM.out.mem
          have D1 := Lib.hid (jnext_any hjm HI.out.ok)
          clear hjm hjo
          go_wp2_with fail
          refine D1.out.mono ?_
          rintro e w2 ⟨A9, c9, rfl, ho9, hb9⟩
          have HM2 := Lib.hid (HM.out.more hb9)
          have HG := Lib.hid ho9
          have HGL := Lib.hid (nextG_len HI.out.ok)
          obtain ⟨G, hG⟩ : ∃ G, G = nextG T := ⟨_, rfl⟩
          rw [← hG] at HG HGL ⊢
          have HGE := Lib.hid hG
          obtain ⟨gl, hgl⟩ : ∃ gl, gl = G.length := ⟨_, rfl⟩
          rw [← hgl] at HG HGL ⊢
          have HGN := Lib.hid hgl
          have hg32 : gl ≤ 32 := HGL.out.1
          have HTK := Lib.hid (show ∀ k, k < gl → (G.map stA).take (k + 1) = (G.map stA).take k ++ [stA (gq G k)] from fun k hk => by
            have hk2 : k < (G.map stA).length := by simp; omega
            rw [List.take_add_one, List.getElem?_eq_getElem hk2]
            have e : (G.map stA)[k] = stA (gq G k) := by rw [List.getElem_map, gq_eq (by omega)]
            rw [e]
            rfl)
          obtain ⟨i0, hi0, hz0, hz1, hz2⟩ := info_parts Try.infoRes
          have HIN := Lib.hid hi0
          have HZ := Lib.hid (And.intro hz0 (And.intro hz1 hz2))
          clear hG hgl ho9 hb9 D1 HM hi0 hz0 hz1 hz2
          go_wp2
          go_loopw [16, 17] (fun s16 s17 wr => ∃ k : Nat, k ≤ gl ∧ s17 = .int .i64 k ∧ GrowsA wr w2.heap.size s16 k ((G.map stA).take k) ∧ Below w2.heap.size w2 wr) (fun _ s17 _ => gl - (intOf s17).toNat)
          case atStart => exact ⟨0, Nat.zero_le _, rfl, growsA_nil _ _, Below.refl _ _⟩
          case round =>
            obtain ⟨k, hk, rfl, hga, hbx⟩ := hrel
            have HGA := Lib.hid hga
            have HBX := Lib.hid hbx
            clear hga hbx
            by_cases hlk : k < gl
            · obtain ⟨rb, ro, rfl, hbl, h1, x0, x1, -, -, -, -, -, -, -⟩ := (HG.out.here).at_ hlk
              have HTJ := Lib.hid (HTK.out k hlk)
              generalize gq G k = r at x0 x1 HTJ
              have x0 := (HBX.out.cell (p := ⟨rb, ro + k * 8, none⟩) hbl).trans x0
              have x1 := (HBX.out.cell (p := ⟨rb, ro + k * 8 + 1, none⟩) hbl).trans x1
              obtain ⟨xs, hown, hrd⟩ := HGA.out
              have HO := Lib.hid (World.ownsRow.drew (World.ownsRow.alloc hown (.cells #[.int .i64 (IntKind.i64.wrap (1000 + r.cl)), .bool (r.sq.tmod 2 == 1), .slice none 0 0, .slice none 0 0, .int .u64 0] 46)))
              have HRD := Lib.hid hrd
              have HWA := Lib.hid (show Below wr.heap.size wr (wr.alloc (.cells #[.int .i64 (IntKind.i64.wrap (1000 + r.cl)), .bool (r.sq.tmod 2 == 1), .slice none 0 0, .slice none 0 0, .int .u64 0] 46)).drew from ((Below.refl _ _).alloc (Nat.le_refl _) _).drew)
              have HFC := Lib.hid (show ∀ j u, (anC sh0 (stA r))[j]? = some u → (wr.alloc (.cells #[.int .i64 (IntKind.i64.wrap (1000 + r.cl)), .bool (r.sq.tmod 2 == 1), .slice none 0 0, .slice none 0 0, .int .u64 0] 46)).drew.cell? ((⟨wr.heap.size, 0, none⟩ : Addr).add j) = some u from five_cells)
              have hwx : w2.heap.size ≤ wr.heap.size := HBX.out.size
              have HNO := Lib.hid (show some rb ≠ u16.ownBlock from fun e => by have := (hown.lt rb e.symm).1; omega)
              clear hown hrd
              have hne : ¬ (rb = wr.heap.size) := by omega
              have hrx : rb < wr.heap.size := by omega
              go_upto_region 23 with fail
              go_region_held3 (fun w' => w'.cell? ⟨rb, ro + k * 8, none⟩ = some (.int .i64 r.cl) ∧ w'.cell? ⟨rb, ro + k * 8 + 1, none⟩ = some (.int .i64 r.sq)) (go_keep)
                (first
                  | ((have t1 : (0 : Nat) < 1 := Nat.one_pos
                      have t2 : k + 1 ≤ maxLen := by unfold maxLen; omega
                      have t3 : (k + 1) * 72 ≤ 140737488355328 := by omega
                      refine step_append_lies _ (by rfl) _ _ 41 (by rfl) w2.heap.size 46 i0 (.agg #[.int .i64 0, .bool false, .slice none 0 0, .slice none 0 0, .int .u64 0]) 5 72 Try.underlying41 HIN.out HZ.out.1 HZ.out.2.1 HZ.out.2.2 (by rfl) (by decide) u16 k xs (by rfl) HO.out ⟨wr.heap.size, 0, none⟩ 1 1 (anC sh0 (stA r)) (by rfl) (by rfl) HFC.out (anC_one sh0 (stA r)) t1 t2 t3 (Nat.le_trans hwx HWA.out.size) (wr.heap.size + 1) (by show (wr.alloc _).heap.size = _; simp) ?_
                      intro p' cap w5 hown5 hgrow5 hat5 hlt5
                      have y0 := (hgrow5.cell_far ⟨rb, ro + k * 8, none⟩ (Nat.lt_of_lt_of_le hrx HWA.out.size) HNO.out).trans ((HWA.out.cell (p := ⟨rb, ro + k * 8, none⟩) hrx).trans x0)
                      have y1 := (hgrow5.cell_far ⟨rb, ro + k * 8 + 1, none⟩ (Nat.lt_of_lt_of_le hrx HWA.out.size) HNO.out).trans ((HWA.out.cell (p := ⟨rb, ro + k * 8 + 1, none⟩) hrx).trans x1)
                      have HG5 := Lib.hid (And.intro hown5 (And.intro hgrow5 hat5))
                      clear hown5 hgrow5 hat5 hlt5)))
              all_goals
                have HNX := Lib.hid (show GrowsA w5 w2.heap.size (.slice (some ⟨p', 0, none⟩) (k + 1) cap) (k + 1) ((G.map stA).take (k + 1)) ∧ Below w2.heap.size w2 w5 from by
                  refine ⟨⟨_, HG5.out.1, ?_⟩, (HBX.out.trans (HWA.out.mono hwx)).grown HG5.out.2.1 (Nat.le_trans hwx HWA.out.size) (fun q hq => (World.ownsRow.lt HO.out q hq).1)⟩
                  rw [HTJ.out]
                  exact (HRD.out.imp fun Q ho => ho.keep ⟨Nat.le_trans HWA.out.size HG5.out.2.1.size, fun b hb => hb.elim⟩).more (fun v _ => ⟨byt_none v, prs_nil v⟩))
                clear HG5 HO HRD HWA HFC HNO
                go_wp2
                go_roundw
                case rel => exact ⟨k + 1, by omega, by go_num, HNX.out.1, HNX.out.2⟩
                case measure => simp [intOf]; omega
            · obtain rfl : k = gl := by omega
              obtain ⟨A8, c8, rfl, ho8⟩ := HGA.out.anss
              rw [List.take_of_length_le (by rw [List.length_map, ← HGN.out]; exact Nat.le_refl _)] at ho8
              have HMX := Lib.hid (HM2.out.more HBX.out)
              obtain ⟨vt, vr, hjm, hjo⟩ := HM2.out.mem
              have hjx := hjm.below HBX.out
              have D2 := Lib.hid (apply_any c8 hjx HI.out.ok HMX.out.new (ho8.mono fun b hb => jo_new hjm hb) (fun j hj => by
                have hj2 : j < (G.map stA).length := by rw [List.length_map, ← HGN.out]; exact hj
                unfold aq
                rw [List.getD_eq_getElem?_getD, List.getElem?_eq_getElem hj2]
                show SmA (G.map stA)[j]
                rw [List.getElem_map]
                exact stA_sm _))
              have HJX := Lib.hid (And.intro hjx hjo)
              clear hjm hjo hjx ho8 HGA HTK HM2
              have HNP := Lib.hid hm0
              cases T with
              | nil =>
                obtain rfl : G = [] := HGE.out
                obtain rfl : k = 0 := HGN.out
                have hap40 : ap ≤ 40 := by have := HLC.out.2; omega
                have HPN := Lib.hid (prog_idle HPR.out (by have := HLC.out.1; omega) hm0 HBT.out)
                rw [show applyK [] 0 = 10 from rfl, show applyT [] 0 = [] from rfl, show applyR [] R (([] : List Rq).map stA) = R from rfl] at D2
                go_wp2_with fail
                refine D2.out.mono ?_
                rintro e w6 ⟨vt', vr', rfl, hm6, hk6⟩
                have HM6 := Lib.hid (HMX.out.turn HJX.out.1 HJX.out.2 hm6 hk6)
                rw [errV_some (show (10 : Int) ≠ 0 by decide)]
                clear hm6 hk6 D2 HJX HMX
                go_wp2
                go_roundw
                case rel => exact ⟨[], R, seen, ap, i + 1, by go_num, by go_num, HM6.out, HI.out, by omega, HPN.out⟩
                case measure => simp [intOf]; omega
              | cons g T =>
                obtain rfl : k = g.length := HGL.out.2
                have hgp0 : 0 < g.length := HI.out.ok.ne g (by simp)
                have hgp : (0 : Int) < (g.length : Int) := by omega
                have hap := HI.out.apply
                have HAP := Lib.hid hap
                have hle := hap.lens
                rw [HAM.out.2.2] at hle
                have hcnt := hap.cnt
                rw [HAM.out.2.2] at hcnt
                have hts := len_size HI.out.ok.ne
                have hc0 := HI.out.cnt
                rw [HAM.out.2.2] at hc0
                have HPN := Lib.hid (prog_apply (b' := (R ++ zipA g (stL g)).length) HPR.out (by simp at hts; omega) (by omega) hm0 HBT.out)
                have hap40 : ap + g.length ≤ 40 := by omega
                rw [HGE.out, show applyK (g :: T) g.length = 0 from if_pos rfl, show applyT (g :: T) g.length = T from if_pos rfl, show (nextG (g :: T)).map stA = stL g from by unfold nextG stL; rw [List.map_map]; rfl, show applyR (g :: T) R (stL g) = R ++ zipA g (stL g) from if_pos (by unfold stL; simp)] at D2
                clear hap hle hcnt hts hc0
                go_wp2_with fail
                refine D2.out.mono ?_
                rintro e w6 ⟨vt', vr', rfl, hm6, hk6⟩
                have HM6 := Lib.hid (HMX.out.turn HJX.out.1 HJX.out.2 hm6 hk6)
                rw [errV_zero]
                clear hm6 hk6 D2 HJX HMX
                go_wp2
                go_roundw
                case rel => exact ⟨T, R ++ zipA g (stL g), seen, ap + g.length, i + 1, by go_num, by go_num, HM6.out, HAP.out, by omega, HPN.out⟩
                case measure => simp [intOf]; omega
        · skip
          have hbt : t ≤ i → t + n ≤ i := fun h => by
            have := hb h
            simpa using this.symm
          have HBT := Lib.hid hbt
          clear hb hbt
          have hap40 : ap ≤ 40 := by have := HLC.out.2; omega
          obtain ⟨sA, sc, hv, -⟩ := own_ils HM.out.row
          subst hv
          cases R with
          | nil =>
            have HPN := Lib.hid (prog_none HPR.out (by have := len_size HI.out.ok.ne; have := HLC.out.1; omega) hm0 HBT.out)
            obtain ⟨vt, vr, hjm, hjo⟩ := HM.out.mem
            have D1 := Lib.hid (jready_any hjm HI.out.ok)
            have hR32 := HI.out.ok.few
            clear hjm hjo
            go_wp2_with fail
            refine D1.out.mono ?_
            rintro e w2 ⟨k9, rfl, -, hb9⟩
            have HM2 := Lib.hid (HM.out.more hb9)
            rw [show rdyS ([] : List Ry) = 0 from rfl, show rdyB ([] : List Ry) = false from rfl]
            obtain ⟨a, haa⟩ : ∃ a, a = rdyA ([] : List Ry) := ⟨_, rfl⟩
            rw [← haa]
            clear haa
            have HX := Lib.hid (box_a w2 k9 a)
            clear hb9 D1 HM
            go_upto_region 29 with fail
            obtain ⟨W, hW, hWB, hWA, hWs⟩ := HX.out
            rw [← hW]
            have HMW := Lib.hid (HM2.out.more hWB)
            have HXA := Lib.hid hWA
            obtain ⟨vt, vr, hjm, hjo⟩ := HM2.out.mem
            have HJX := Lib.hid (And.intro (hjm.below hWB) (And.intro hjo (jo_new hjm (Nat.le_refl w2.heap.size))))
            have D2 := Lib.hid (answered_any (hjm.below hWB) (Nat.le_trans (Nat.le_trans (Nat.le_add_left _ _) hR32) (by decide)))
            generalize w2.heap.size = g9 at HXA HJX ⊢
            clear hW hWB hWA hWs HX hjm hjo HM2
            rw [show doneK ([] : List Ry) = 10 from rfl] at D2
            go_wp2_with fail
            refine D2.out.mono ?_
            rintro e w6 ⟨vt', vr', rfl, hm6, hk6⟩
            have HM6 := Lib.hid (HMW.out.turn HJX.out.1 HJX.out.2.1 hm6 hk6)
            rw [errV_some (show (10 : Int) ≠ 0 by decide)]
            clear hm6 hk6 D2 HJX HMW HXA
            go_wp2
            go_roundw
            case rel => exact ⟨T, [], seen, ap, i + 1, by go_num, by go_num, HM6.out, HI.out, by omega, HPN.out⟩
            case measure => simp [intOf]; omega
          | cons x R =>
            have HPN := Lib.hid (prog_tell HPR.out (by have := len_size HI.out.ok.ne; have := HLC.out.1; omega) (by have := HLC.out.1; simp at this; omega) hm0 HBT.out)
            obtain ⟨y, hy, rfl⟩ := HI.out.pend x (by simp)
            obtain ⟨i0, hi0, rfl⟩ := HAM.out.1 y hy
            have HIT := Lib.hid HI.out.tell
            have HNS := Lib.hid (HI.out.new HAM.out.2.1)
            have hsl32 : seen.length ≤ 32 := by have := HLC.out.1; omega
            clear hy
            obtain ⟨vt, vr, hjm, hjo⟩ := HM.out.mem
            have D1 := Lib.hid (jready_any hjm HI.out.ok)
            have hR32 := HI.out.ok.few
            clear hjm hjo
            go_wp2_with fail
            refine D1.out.mono ?_
            rintro e w2 ⟨k9, rfl, -, hb9⟩
            have HM2 := Lib.hid (HM.out.more hb9)
            rw [show rdyS ((it L i0, stA (gq M i0)) :: R) = it L i0 from rfl, show rdyB ((it L i0, stA (gq M i0)) :: R) = true from rfl]
            obtain ⟨a, haa⟩ : ∃ a, a = rdyA ((it L i0, stA (gq M i0)) :: R) := ⟨_, rfl⟩
            rw [← haa]
            have HAE := Lib.hid (show a = stA (gq M i0) from haa)
            clear haa
            have HX := Lib.hid (box_a w2 k9 a)
            clear hb9 D1 HM
            go_upto_region 29 with fail
            obtain ⟨W, hW, hWB, hWA, hWs⟩ := HX.out
            rw [← hW]
            have HMW := Lib.hid (HM2.out.more hWB)
            have HXA := Lib.hid hWA
            obtain ⟨vt, vr, hjm, hjo⟩ := HM2.out.mem
            have HJX := Lib.hid (And.intro (hjm.below hWB) (And.intro hjo (jo_new hjm (Nat.le_refl w2.heap.size))))
            have D2 := Lib.hid (answered_any (hjm.below hWB) (Nat.le_trans (Nat.le_trans (Nat.le_add_left _ _) hR32) (by decide)))
            generalize w2.heap.size = g9 at HXA HJX ⊢
            clear hW hWB hWA hWs HX hjm hjo HM2
            rw [show doneK ((it L i0, stA (gq M i0)) :: R) = 0 from rfl] at D2
            obtain ⟨s, hs⟩ : ∃ s, s = it L i0 := ⟨_, rfl⟩
            have HIT2 := Lib.hid (show OnI all T R (seen ++ [s]) ap from by rw [hs]; exact HIT.out)
            have HNS2 := Lib.hid (show s ∉ seen from by rw [hs]; exact HNS.out)
            rw [← hs]
            have HSE := Lib.hid hs
            clear hs HIT HNS
            go_wp2_with fail
            refine D2.out.mono ?_
            rintro e w6 ⟨vt', vr', rfl, hm6, hk6⟩
            have hm6 : JM (Off (.slice sA seen.length sc)) w6 w.heap.size p vt' vr' T R := hm6
            have HM6 := Lib.hid (HMW.out.turn HJX.out.1 HJX.out.2.1 hm6 hk6)
            have HX6 := Lib.hid (show BoxA w6 g9 k9 a from (hk6.block _ HXA.out.lt HJX.out.2.2).trans HXA.out)
            rw [errV_zero]
            clear hm6 hk6 D2 HJX HMW HXA
            have hss : (s == s) = true := by simp
            have HOTH := Lib.hid (show ∀ j, j < n → j ≠ i0 → (it L j == s) = false from fun j hj hne => by
              have h1 : ¬ (it L j = it L i0) := fun e => hne (it_inj HND.out (by rw [HLN.out]; exact hj) (by rw [HLN.out]; exact hi0) e)
              rw [HSE.out]
              simpa using h1)
            go_wp2
            go_loopw [23, 24] (fun q s24 wr => ∃ j : Nat, j ≤ n ∧ s24 = .int .i64 j ∧ q = .int .i64 (if i0 < j then (i0 : Int) else -1) ∧ SameW wr w6) (fun _ s24 _ => n - (intOf s24).toNat)
            case atStart => exact ⟨0, Nat.zero_le _, rfl, by simp, rfl⟩
            case round =>
              obtain ⟨j, hj, rfl, rfl, hw⟩ := hrel
              obtain rfl : w6 = wr := hw.symm
              by_cases hln : j < n
              · obtain ⟨ab, ao, rfl, hab, x0⟩ := (HA.out.below HM6.out.below).at_ hln
                by_cases hji : j = i0
                · subst hji
                  rw [← HSE.out] at x0
                  go_wp2
                  go_roundw
                  case rel => exact ⟨j + 1, by omega, by go_num, by rw [if_pos (by omega)], rfl⟩
                  case measure => simp [intOf]; omega
                · have hf := HOTH.out j hln hji
                  generalize it L j = lj at x0 hf
                  have HQ := Lib.hid (show (if i0 < j + 1 then (i0 : Int) else -1) = (if i0 < j then (i0 : Int) else -1) from by
                    by_cases e : i0 < j
                    · rw [if_pos e, if_pos (by omega)]
                    · rw [if_neg e, if_neg (by omega)])
                  generalize (if i0 < j then (i0 : Int) else -1) = q at HQ
                  go_wp2
                  go_roundw
                  case rel => exact ⟨j + 1, by omega, by go_num, by rw [HQ.out], rfl⟩
                  case measure => simp [intOf]; omega
              · obtain rfl : j = n := by omega
                rw [if_pos hi0]
                clear HOTH
                obtain ⟨rb, ro, rfl, hbl, h1, x0, x1, -, -, -, -, -, -, -⟩ := (HB.out.below HM6.out.below).at_ hi0
                obtain ⟨y0, y1, -, -, -⟩ := HX6.out.cells
                rw [HAE.out] at y0 y1
                generalize gq M i0 = r at x0 x1 y0 y1
                have b0 : w6.cell? ⟨g9, 0, none⟩ = some (.int .i64 (IntKind.i64.wrap (1000 + r.cl))) := y0
                have b1 : w6.cell? ⟨g9, 1, none⟩ = some (.bool (r.sq.tmod 2 == 1)) := y1
                obtain ⟨cd, hcd⟩ : ∃ cd, cd = IntKind.i64.wrap (1000 + r.cl) := ⟨_, rfl⟩
                rw [← hcd] at b0
                have z1 : (cd != IntKind.i64.wrap (1000 + r.cl)) = false := by simp [hcd]
                have z1b : (cd != wrap64 (1000 + r.cl)) = false := by rw [← IntWalk.i64_left]; simp [hcd]
                clear hcd y0 y1
                have c0 : ¬ ((i0 : Int) < 0) := by omega
                have c1 : (i0 : Int) < (j : Int) := by omega
                have c2 : (0 : Int) ≤ (i0 : Int) := by omega
                go_upto_region 41 with fail
                have HM7 := Lib.hid (fun q => HM6.out.more (below_drewN (Below.refl _ _) q))
                obtain ⟨i1, hi1, hy0, hy1, hy2⟩ := info_parts Try.infoInt
                have HI1 := Lib.hid hi1
                have HZ1 := Lib.hid (And.intro hy0 (And.intro hy1 hy2))
                clear hi1 hy0 hy1 hy2
                go_cut [177] (fun s wx => s = .bool false ∧ ∃ q, wx = w6.drewN q)
                case first =>
                  cases hq : (r.sq.tmod 2 == 1)
                  all_goals
                    rw [hq] at b1
                    go_quiet (fail)
                    go_wp2
                    go_meet
                    exact ⟨rfl, _, rfl⟩
                clear b0 b1 x0 x1 c1 c2 z1 z1b HX6 HM6
                rename World => w7
                obtain ⟨rfl, q7, rfl⟩ := hcut
                go_wp2
                go_loopw [25] (fun s25 wz => ∃ k q : Nat, k ≤ seen.length ∧ s25 = .int .i64 k ∧ wz = w6.drewN q) (fun s25 _ => seen.length - (intOf s25).toNat)
                case atStart => exact ⟨0, _, Nat.zero_le _, rfl, rfl⟩
                case round =>
                  obtain ⟨k, q, hk, rfl, rfl⟩ := hrel
                  have HMQ := Lib.hid (HM7.out q)
                  obtain ⟨A8, c8, ev, hls⟩ := own_ils HMQ.out.row
                  injection ev with e1 e2 e3
                  subst e1
                  subst e3
                  have HLS := Lib.hid hls.here
                  clear hls
                  by_cases hks : k < seen.length
                  · obtain ⟨eb, eo, rfl, heb, x0⟩ := HLS.out.at_ hks
                    have hf : (it seen k == s) = false := by
                      have h1 : ¬ (it seen k = s) := fun e => HNS2.out (by rw [← e]; unfold it; simp [hks])
                      simpa using h1
                    generalize it seen k = y at x0 hf
                    go_wp2
                    go_roundw
                    case rel => exact ⟨k + 1, q, by omega, by go_num, rfl⟩
                    case measure => simp [intOf]; omega
                  · obtain rfl : k = seen.length := by omega
                    clear HLS HM7
                    generalize w6.drewN q = w8 at HMQ ⊢
                    have O5 := Lib.hid (World.ownsRow.alloc HMQ.out.row (.cells #[.int .i64 s] 3))
                    have hws : w.heap.size ≤ w8.heap.size := HMQ.out.below.size
                    have hone : ∀ j u, ([.int .i64 s] : List Value)[j]? = some u → (w8.alloc (.cells #[.int .i64 s] 3)).cell? ((⟨w8.heap.size, 0, none⟩ : Addr).add j) = some u := one_cell_a_int w8 s
                    have HONE := Lib.hid hone
                    clear hone
                    go_wp2_with (at_builtin; refine wpList_append_own_at _ rfl _ _ 30 rfl w.heap.size 3 i1 (.int .i64 0) 1 8 Try.underlying30 HI1.out HZ1.out.1 HZ1.out.2.1 HZ1.out.2.2 rfl (by decide) (.slice sA seen.length sc) seen.length _ rfl O5.out ⟨w8.heap.size, 0, none⟩ 1 1 [.int .i64 s] rfl rfl HONE.out ?c2 ?c3 ?c4 ?c5 ?_)
                    case c2 => first | rfl | (intro u hu; simp at hu; subst hu; rfl)
                    case c3 => unfold maxLen; omega
                    case c4 => omega
                    case c5 => first | omega | (rw [alloc_sz]; omega)
                    intro v' w9 hown9 hg9 hnil hat
                    rw [← alloc_sz w8 (.cells #[.int .i64 s] 3)] at hat
                    have HM9 := Lib.hid (HMQ.out.seen (x := s) ((Below.refl _ _).alloc (Nat.le_refl _) _) hown9 hg9 hat)
                    clear hown9 hg9 hnil hat O5 HONE HMQ
                    go_wp2
                    go_roundw
                    case rel => exact ⟨T, R, seen ++ [s], ap, i + 1, by go_num, by go_num, HM9.out, HIT2.out, by omega, HPN.out⟩
                    case measure => simp [intOf]; omega
    · skip
      obtain rfl : i = t + 2 * n := by omega
      obtain ⟨ht0, hr0⟩ := prog_end HPR.out
      obtain rfl := List.length_eq_zero_iff.1 ht0
      obtain rfl := List.length_eq_zero_iff.1 hr0
      have hsn : seen.length = n := by have := HLC.out.1; simp [sizeT] at this; omega
      have hap : ap = n := by have := HLC.out.2; simp [sizeT] at this; omega
      obtain ⟨sA, sc, hv, -⟩ := own_ils HM.out.row
      subst hv
      rw [hsn, hap]
      obtain ⟨vt, vr, hjm, hjo⟩ := HM.out.mem
      have D1 := Lib.hid (open_any hjm (by decide))
      rw [show openB ([] : List Gr) ([] : List Ry) = false from rfl] at D1
      have HBW := Lib.hid HM.out.below
      have c1 : ¬ (((t + 2 * n : Nat) : Int) < (t : Int) + 2 * (n : Int)) := by omega
      have c2 : ((n : Int) == (n : Int)) = true := by simp
      clear hjm hjo HM HI HPR HLC hsn hap ht0 hr0
      go_wp2_with fail
      refine D1.out.mono ?_
      rintro e w2 ⟨rfl, hb2⟩
      have HB2 := Lib.hid (HBW.out.trans (hb2.mono HBW.out.size))
      clear hb2
      go_wp2
      go_ret
      exact ⟨rfl, HB2.out⟩

theorem journal_once_any {w : World} {A B D : Option Addr} {n m t : Nat} (c d f : Nat) {L : List Int} {M : List Rq} {Bs : List Bool} (hA : Ils w A n L) (hB : Reqs w B m M) (hD : Bls w D t Bs) :
    Calls Try.prog 4 #[.slice A n c, .slice B m d, .slice D t f] w fun e w' => e = .returned (.bool true) ∧ Below w.heap.size w w' := by
  by_cases hf : fewQ M 40 = true
  · by_cases hn : n ≤ 60
    · by_cases ht : t ≤ 200
      · exact once_main c d f hA hB hD hf hn ht
      · exact once_let c d f hB (.inr (.inr ⟨hf, hn, by omega⟩))
    · exact once_let c d f hB (.inr (.inl ⟨hf, by omega⟩))
  · exact once_let c d f hB (.inl (by simpa using hf))
end Go.Proofs.Ythcchaglloggjaa
