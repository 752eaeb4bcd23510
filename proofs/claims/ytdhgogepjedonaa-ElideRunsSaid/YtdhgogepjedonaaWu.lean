/- The contract of the document's own Slice: in what blocks lies what it tells. Condition: what came in can be read; no more than 1000 pairs, keys and ends of at most 1000 bytes. -/
import Derived.Test.YtdhgogepjedonaaWt
namespace Go.Proofs.Ytdhgogepjedonaa
open Go.RowKit
set_option linter.unusedVariables false
set_option maxRecDepth 100000

theorem cut_step (L : List Pr) (l h : Ky) {i : Nat} (hi : i < L.length) : cutL (L.take (i + 1)) l h = cutL (L.take i) l h ++ (if inB l h (gt L i).1 then [gt L i] else []) := by
  unfold cutL
  rw [List.take_succ_eq_append_getElem hi, List.filter_append, gt_eq hi]
  congr 1
  cases hin : inB l h L[i].1 <;> simp [hin]
theorem cut_take {L : List Pr} {l h : Ky} {j lim : Nat} (hj : (j = L.length ∧ (cutL (L.take j) l h).length ≤ lim) ∨ (cutL (L.take j) l h).length = lim) : cutL (L.take j) l h = (cutL L l h).take lim := by
  rcases hj with ⟨rfl, hl⟩ | hl
  · rw [List.take_length] at hl ⊢
    exact (List.take_of_length_le hl).symm
  · have e : cutL L l h = cutL (L.take j) l h ++ cutL (L.drop j) l h := by
      have := congrArg (fun M => cutL M l h) (List.take_append_drop j L)
      unfold cutL at this ⊢
      rw [List.filter_append] at this
      exact this.symm
    rw [e, ← hl, List.take_left]

/-- Where the loop has come to. -/
def SlI (W : World) (E : Nat → Prop) (L : List Pr) (l h : Ky) (lim j m : Nat) (v : Value) (wr : World) : Prop :=
  ∃ xs, m = (cutL (L.take j) l h).length ∧ m ≤ lim ∧ wr.ownsRow W.heap.size 45 2 v m xs ∧ ReadsC (fun _ => E) W xs (cutL (L.take j) l h) ∧ Below W.heap.size W wr

set_option maxHeartbeats 8000000 in
theorem rslice_on {E : Nat → Prop} {w : World} {A C B : Option Addr} {n c o p : Nat} (q r lim : Nat) {L : List Pr} {l h : Ky} (hp : On E w (Prs · A n c L)) (hl : Byt w C o l) (hh : Byt w B p h) (hm : Small L) (hn : n ≤ 1000) (ho : o ≤ 1000) (hpp : p ≤ 1000) (hlim : lim ≤ 1000) :
    Calls Try.prog 39 #[.slice A n c, .agg #[.slice C o q, .slice B p r], .int .i64 lim] w (MadeO w E ((cutL L l h).take lim)) := by
  obtain ⟨W, hW, hWB, hW0, hW1, hWs⟩ : ∃ W, W = w.alloc (.cells #[.slice C o q, .slice B p r] 61) ∧ Below w.heap.size w W ∧ W.cell? ⟨w.heap.size, 0, none⟩ = some (.slice C o q) ∧ W.cell? ⟨w.heap.size, 1, none⟩ = some (.slice B p r) ∧ W.heap.size = w.heap.size + 1 :=
    ⟨_, rfl, (Below.refl _ _).alloc (Nat.le_refl _) _, box_0 _ _ _ _, box_1 _ _ _ _, by simp⟩
  obtain ⟨i0, hi, hz0, hz1, hz2⟩ := info_parts Try.infoPair
  have HI := Lib.hid hi
  have HZ := Lib.hid (And.intro hz0 (And.intro hz1 hz2))
  clear hi hz0 hz1 hz2
  have HL := Lib.hid hp.here.len
  have H := Lib.hid (hp.keep (below_all hWB))
  have HX := Lib.hid (And.intro (hl.below hWB) (hh.below hWB))
  have HM := Lib.hid hm
  have HWB := Lib.hid hWB
  have HC0 := Lib.hid hW0
  have HC1 := Lib.hid hW1
  have hwl : w.heap.size < W.heap.size := by omega
  have HST := Lib.hid (show SlI W E L l h lim 0 0 (.slice none 0 0) W from ⟨[], rfl, Nat.zero_le _, World.ownsRow_nil _ _ _ _, readsC_nil W, Below.refl _ _⟩)
  have hWe := Lib.hid hW
  have hmx : 1000 ≤ maxLen := by unfold maxLen; omega
  have HMX := Lib.hid hmx
  clear hp hl hh hm hWB hW0 hW1 hW hWs hmx
  go_enter Try.func39, Try.ntmps39
  go_upto_region 3 with fail
  rw [← hWe.out]
  clear hWe
  go_loopw [7, 8] (fun v i wr => ∃ j m : Nat, j ≤ n ∧ i = .int .i64 j ∧ SlI W E L l h lim j m v wr) (fun _ i _ => n - (intOf i).toNat)
  case atStart => exact ⟨0, 0, Nat.zero_le _, rfl, HST.out⟩
  case round =>
    obtain ⟨j, m, hj, rfl, xs, hml, hmlim, hown, hr, hb⟩ := hrel
    obtain ⟨A0, c0, rfl, -⟩ := own_new hown
    have HO := Lib.hid hown
    have HR := Lib.hid hr
    have HB := Lib.hid hb
    have HML := Lib.hid hml
    have hsz := hb.size
    clear HST hown hr hb hml
    by_cases hlt : j < n ∧ m < lim
    · obtain ⟨hlt, hmlt⟩ := hlt
      obtain ⟨b, oo, A1, n1, c1, B1, m1, d1, rfl, k0', k1', y1, y2⟩ := prs_pair_on H.out hlt
      have hbl' : b < W.heap.size := World.block_lt_of_cell? W _ k0'
      have hbl : b < wr.heap.size := by omega
      have k0 := (HB.out.cell (p := ⟨b, oo + j * 2, none⟩) hbl').trans k0'
      have k1 := (HB.out.cell (p := ⟨b, oo + j * 2 + 1, none⟩) hbl').trans k1'
      have b0 := (HB.out.cell (p := ⟨w.heap.size, 0, none⟩) hwl).trans HC0.out
      have b1 := (HB.out.cell (p := ⟨w.heap.size, 1, none⟩) hwl).trans HC1.out
      have HK := Lib.hid (And.intro k0 (And.intro k1 (And.intro b0 b1)))
      have HY := Lib.hid (And.intro y1 y2)
      have hj' : j < L.length := by rw [HL.out]; exact hlt
      have hsm := (HM.out _ (gt_mem hj')).1
      have hn1 : n1 ≤ 1000 := by rw [← y1.here.1]; exact hsm
      have HIQ := rin_any (w := wr.drew) q r c1 (HX.out.1.below HB.out.drew) (HX.out.2.below HB.out.drew) (y1.here.below HB.out.drew) (Nat.le_trans ho HMX.out) (Nat.le_trans hpp HMX.out) (Nat.le_trans hn1 HMX.out)
      have HCS := cut_step L l h hj'
      have hwr : w.heap.size < wr.heap.size := by omega
      clear y1 y2 k0' k1' hsm hj' k1
      cases hin : inB l h (gt L j).1
      · rw [hin] at HIQ
        rw [hin, if_neg (by decide), List.append_nil] at HCS
        have D := Lib.hid HIQ
        have HCE := Lib.hid HCS
        clear hin HIQ HCS
        go_upto_region 5 with fail
        go_region_held3 (fun w' => w'.cell? ⟨w.heap.size, 0, none⟩ = some (.slice C o q) ∧ w'.cell? ⟨w.heap.size, 1, none⟩ = some (.slice B p r) ∧ w'.cell? ⟨b, oo + j * 2, none⟩ = some (.slice A1 n1 c1)) (go_keep)
          ((go_at_call 58
            (with_reducible refine D.out.mono ?_)
            rintro e w3 ⟨rfl, hb3⟩
            have hb3 : Below wr.heap.size wr w3 := undrew hb3
            have b0 := (hb3.cell (p := ⟨w.heap.size, 0, none⟩) hwr).trans HK.out.2.2.1
            have b1 := (hb3.cell (p := ⟨w.heap.size, 1, none⟩) hwr).trans HK.out.2.2.2
            have k0 := (hb3.cell (p := ⟨b, oo + j * 2, none⟩) hbl).trans HK.out.1
            have HB3 := Lib.hid hb3
            clear hb3))
        have HNX := Lib.hid (show SlI W E L l h lim (j + 1) m (.slice A0 m c0) w3 from ⟨xs, by rw [HCE.out]; exact HML.out, hmlim, own_keep HO.out HB3.out, by rw [HCE.out]; exact HR.out, HB.out.trans (HB3.out.mono HB.out.size)⟩)
        clear b0 b1 k0 D HK HY HO HR HB HB3 HML HCE
        go_wp2
        go_roundw
        case rel => exact ⟨j + 1, m, by omega, by go_num, HNX.out⟩
        case measure => simp [intOf]; omega
      · rw [hin] at HIQ
        rw [hin, if_pos rfl] at HCS
        have D := Lib.hid HIQ
        have HCE := Lib.hid HCS
        clear hin HIQ HCS
        go_upto_region 5 with fail
        go_region_held3 (fun w' => w'.cell? ⟨w.heap.size, 0, none⟩ = some (.slice C o q) ∧ w'.cell? ⟨w.heap.size, 1, none⟩ = some (.slice B p r) ∧ w'.cell? ⟨b, oo + j * 2, none⟩ = some (.slice A1 n1 c1)) (go_keep)
          ((go_at_call 58
            (with_reducible refine D.out.mono ?_)
            rintro e w3 ⟨rfl, hb3⟩
            have hb3 : Below wr.heap.size wr w3 := undrew hb3
            have b0 := (hb3.cell (p := ⟨w.heap.size, 0, none⟩) hwr).trans HK.out.2.2.1
            have b1 := (hb3.cell (p := ⟨w.heap.size, 1, none⟩) hwr).trans HK.out.2.2.2
            have k0 := (hb3.cell (p := ⟨b, oo + j * 2, none⟩) hbl).trans HK.out.1
            have HK1 := Lib.hid ((hb3.cell (p := ⟨b, oo + j * 2 + 1, none⟩) hbl).trans HK.out.2.1)
            have HB3 := Lib.hid hb3
            clear hb3))
        have k1 := HK1.out
        have B4 := Lib.hid ((HB.out.trans (HB3.out.mono HB.out.size)).alloc (Nat.le_trans HB.out.size HB3.out.size) (.cells #[.slice A1 n1 c1, .slice B1 m1 d1] 45))
        have O4 := Lib.hid ((own_keep HO.out HB3.out).alloc (.cells #[.slice A1 n1 c1, .slice B1 m1 d1] 45))
        have hsz3 := HB3.out.size
        clear b0 b1 D HK HO HB HB3 HK1
        go_wp2_with (at_builtin; refine wpList_append_own _ rfl _ _ 43 rfl W.heap.size 45 i0 (.agg #[.slice none 0 0, .slice none 0 0]) 2 48 Try.underlying43 HI.out HZ.out.1 HZ.out.2.1 HZ.out.2.2 rfl (by decide) _ m xs rfl O4.out ⟨w3.heap.size, 0, none⟩ 1 1 [.slice A1 n1 c1, .slice B1 m1 d1] rfl rfl two_cells ?c2 ?c3 ?c4 ?c5 ?_)
        case c2 => intro u hu; simp at hu; rcases hu with rfl | rfl <;> rfl
        case c3 => unfold maxLen; omega
        case c4 => omega
        case c5 => simp; omega
        intro v' w5 hown' hgr _
        have HNX := Lib.hid (show SlI W E L l h lim (j + 1) (m + 1) v' w5 from ⟨_, by rw [HCE.out, List.length_append, ← HML.out]; rfl, hmlt, hown', by rw [HCE.out]; exact HR.out.append (readsC_one c1 d1 HY.out.1 HY.out.2), B4.out.grown hgr (by simp; omega) (fun t e => (O4.out.lt t e).1)⟩)
        clear hown' hgr k0 k1 B4 O4 HR HY HML HCE
        go_wp2
        go_roundw
        case rel => exact ⟨j + 1, m + 1, by omega, by go_num, HNX.out⟩
        case measure => simp [intOf]; omega
    · have hend : (j = n ∧ decide ((j : Int) < (n : Int)) = false) ∨ (m = lim ∧ decide ((j : Int) < (n : Int)) = true) := by
        by_cases hjn : j < n
        · exact .inr ⟨by omega, by simp; omega⟩
        · exact .inl ⟨by omega, by simp; omega⟩
      have HT := Lib.hid (show cutL (L.take j) l h = (cutL L l h).take lim from cut_take (by
        have := HML.out
        have := HL.out
        rcases hend with ⟨e, -⟩ | ⟨e, -⟩
        · exact .inl ⟨by omega, by omega⟩
        · exact .inr (by omega)))
      have hp := prs_on (C := fun b => E b ∨ w.heap.size ≤ b) HO.out ((HR.out.keep (fun _ => below_all HB.out)).mono (fun t ht b hb => .inl hb)) (fun a e => .inr (by have := (HO.out.lt a.block (by rw [e]; rfl)).1; omega))
      rw [HT.out] at hp
      have HP := Lib.hid hp
      have HBB := Lib.hid (HWB.out.trans (HB.out.mono HWB.out.size))
      clear hp HO HR HB HML HT
      rcases hend with ⟨e, hd⟩ | ⟨e, hd⟩
      · have hd1 : decide (j < n) = false := by simp; omega
        have hd2 : ¬ (j < n) := by omega
        have hd3 : ¬ ((j : Int) < (n : Int)) := by omega
        clear e hlt
        go_wp2
        go_ret
        exact ⟨A0, m, c0, rfl, HP.out, HBB.out⟩
      · have hd2 : decide ((m : Int) < (lim : Int)) = false := by simp; omega
        have hd3 : ¬ (m < lim) := by omega
        have hd4 : decide (m < lim) = false := by simp; omega
        have hd5 : j < n := by simp at hd; omega
        have hd6 : decide (j < n) = true := by simp; omega
        have hd7 : (j : Int) < (n : Int) := by omega
        have hd8 : ¬ ((m : Int) < (lim : Int)) := by omega
        clear e hlt
        go_wp2
        go_ret
        exact ⟨A0, m, c0, rfl, HP.out, HBB.out⟩
end Go.Proofs.Ytdhgogepjedonaa
