/- Contracts of package row's Slice with any limit, and of Delete once more (new memory), of Merge with nothing, and of package omap's copied. Condition: a row of no more than 1000 pairs; what came in can be read. -/
import Derived.Test.YtdhgogepjedonaaWe
namespace Go.Proofs.Ytdhgogepjedonaa
open Go.RowKit
set_option linter.unusedVariables false
set_option maxRecDepth 100000

theorem cut_end {P : List Pr} {l h : Ky} {f : Nat} : ∀ (k j : Nat), j + k = P.length → (∀ i, f ≤ i → i < j → inB l h (gt P i).1 = true) → ∃ J, j ≤ J ∧ J ≤ P.length ∧ (∀ i, f ≤ i → i < J → inB l h (gt P i).1 = true) ∧ (J < P.length → inB l h (gt P J).1 = false)
  | 0, j, hj, ha => ⟨j, Nat.le_refl _, by omega, ha, fun h => absurd h (by omega)⟩
  | k + 1, j, hj, ha => by
    cases hi : inB l h (gt P j).1
    · exact ⟨j, Nat.le_refl _, by omega, ha, fun _ => hi⟩
    · obtain ⟨J, h1, h2, h3, h4⟩ := cut_end (P := P) (l := l) (h := h) (f := f) k (j + 1) (by omega) (fun i h1 h2 => by
        rcases Nat.lt_succ_iff_lt_or_eq.1 h2 with h | rfl
        · exact ha i h1 h
        · exact hi)
      exact ⟨J, by omega, h2, h3, h4⟩
/-- The first ones of those in a range. -/
theorem cut_lim {P : List Pr} (hs : Srt P) {l h : Ky} {j : Nat} (lim : Nat) (h1 : pos P l ≤ j) (h2 : j ≤ P.length) (h3 : ∀ i, pos P l ≤ i → i < j → inB l h (gt P i).1 = true) (h4 : j < P.length → j - pos P l = lim ∨ inB l h (gt P j).1 = false) (h5 : j - pos P l ≤ lim) :
    (P.drop (pos P l)).take (j - pos P l) = (cutL P l h).take lim := by
  obtain ⟨J, g1, g2, g3, g4⟩ := cut_end (P.length - j) j (by omega) h3
  rw [← cut_is (j := J) hs (Nat.le_trans h1 g1) g2 g3 g4, List.take_take]
  by_cases hj : j < P.length
  · rcases h4 hj with h | h
    · rw [h, Nat.min_eq_left (by omega)]
    · have : J = j := by
        rcases Nat.lt_or_ge j J with hlt | hge
        · rw [g3 j h1 hlt] at h
          cases h
        · omega
      rw [this, Nat.min_eq_right h5]
  · have : J = j := by omega
    rw [this, Nat.min_eq_right h5]

set_option maxHeartbeats 8000000 in
theorem slice_lim {w : World} {A C B : Option Addr} {n c o p : Nat} (q r : Nat) (lim : Nat) (hlim : lim ≤ 1000) {L : List Pr} {l h : Ky} (hp : Prs w A n c L) (hl : Byt w C o l) (hh : Byt w B p h) (hs : Srt L) (hm : Small L) (hn : n ≤ 1000) :
    Calls Try.prog 52 #[.slice A n c, .agg #[.slice C o q, .slice B p r], .int .i64 lim] w (MadeN w ((cutL L l h).take lim)) := by
  have hlen := hp.len
  have hnc := hp.2.1
  obtain ⟨W, hW, hWB, hW0, hW1, hWs⟩ : ∃ W, W = w.alloc (.cells #[.slice C o q, .slice B p r] 61) ∧ Below w.heap.size w W ∧ W.cell? ⟨w.heap.size, 0, none⟩ = some (.slice C o q) ∧ W.cell? ⟨w.heap.size, 1, none⟩ = some (.slice B p r) ∧ W.heap.size = w.heap.size + 1 :=
    ⟨_, rfl, (Below.refl _ _).alloc (Nat.le_refl _) _, box_0 _ _ _ _, box_1 _ _ _ _, by simp⟩
  have HF := find_any q (hp.below hWB) (hl.below hWB) hs hn
  have HE := Lib.hid (fun (j : Nat) (f : Nat) (hf : f = pos L l) => hf ▸ cut_lim (j := j) (l := l) (h := h) hs lim)
  have hpl := pos_le L l
  obtain ⟨f, hf⟩ : ∃ f, f = pos L l := ⟨_, rfl⟩
  rw [← hf] at HF hpl
  have hfn : f ≤ n := by omega
  have HFE := Lib.hid hf
  generalize hasB L l = hz at HF
  have HP := Lib.hid hp
  have HI := Lib.hid (And.intro hl hh)
  have HM := Lib.hid hm
  have HWB := Lib.hid hWB
  have HC0 := Lib.hid hW0
  have HC1 := Lib.hid hW1
  have HT : Hid (∀ (V : World) (j : Nat), Below W.heap.size W V → f ≤ j → j ≤ n → (∀ i, f ≤ i → i < j → inB l h (gt L i).1 = true) → (j < n → j - f = lim ∨ inB l h (gt L j).1 = false) → j - f ≤ lim →
      Calls Try.prog 64 #[.slice (some ⟨V.heap.size, 0, none⟩) 1 1] (V.alloc (.cells #[.slice (cutA A f c) (j - f) (c - f)] 43)) (MadeN (V.alloc (.cells #[.slice (cutA A f c) (j - f) (c - f)] 43)) ((cutL L l h).take lim))) := Lib.hid fun V j hV h1 h2 h3 h4 h5 => by
    have hb : Below w.heap.size w V := HWB.out.trans (hV.mono HWB.out.size)
    have hpc := ((HP.out.below hb).from (k := f) hfn).upto (k := j - f) (by omega)
    have hcat : catL (fun _ => (L.drop f).take (j - f)) 1 = (cutL L l h).take lim := by
      rw [← HE.out j f HFE.out h1 (by omega) h3 (fun h => h4 (by omega)) h5]
      rfl
    have := told_new (piece1 hpc 43) (by omega) (show sumN (fun _ => j - f) 1 ≤ 3000 by simp [sumN]; omega) (by rw [hcat]; exact small_take (small_cut HM.out l h) lim)
    rw [hcat] at this
    exact this
  clear hp hl hh hm hf hWB hW0 hW1 hs hpl
  go_enter Try.func52, Try.ntmps52
  have hWe := Lib.hid hW
  clear hW
  go_wp2_with fail
  rw [← hWe.out]
  refine HF.mono ?_
  rintro e w1 ⟨rfl, hb1⟩
  have HB1 := Lib.hid hb1
  clear hb1 HF hWe
  go_wp2
  go_loopw [9] (fun i wr => ∃ j : Nat, f ≤ j ∧ j ≤ n ∧ i = .int .i64 j ∧ j - f ≤ lim ∧ (∀ i, f ≤ i → i < j → inB l h (gt L i).1 = true) ∧ Below W.heap.size W wr) (fun i _ => n - (intOf i).toNat)
  case atStart => exact ⟨f, Nat.le_refl _, hfn, rfl, by omega, fun i h1 h2 => absurd h1 (by omega), HB1.out⟩
  case round =>
    obtain ⟨j, hfj, hjn, rfl, hjl, hall, hb⟩ := hrel
    have HALL := Lib.hid hall
    have HB := Lib.hid hb
    have HBw := Lib.hid (HWB.out.trans (hb.mono HWB.out.size))
    clear hall hb
    have hwl : w.heap.size < W.heap.size := by omega
    have hjc : j ≤ c := by omega
    have hfc : f ≤ c := by omega
    by_cases hlt : j < n ∧ j - f < lim
    · obtain ⟨hlt, hjd⟩ := hlt
      obtain ⟨b, oo, rfl, hbl, A1, n1, c1, B1, m1, d1, k0, k1, y1, y2⟩ := (HP.out.below HBw.out).at_ hlt
      have HIN := in_any (w := wr.drew) q r c1 (l := l) (k := h) (HI.out.1.below HBw.out.drew) (HI.out.2.below HBw.out.drew) (y1.below (Below.refl _ _).drew)
      have b0 := (HB.out.cell (p := ⟨w.heap.size, 0, none⟩) hwl).trans HC0.out
      have b1 := (HB.out.cell (p := ⟨w.heap.size, 1, none⟩) hwl).trans HC1.out
      have HK := Lib.hid (And.intro b0 (And.intro b1 k0))
      have hwr : w.heap.size < wr.heap.size := Nat.lt_of_lt_of_le hwl HB.out.size
      clear y1 y2 k1
      obtain ⟨d, hd⟩ : ∃ d, d = j - f := ⟨_, rfl⟩
      have hw0 : IntKind.i64.wrap ((j : Int) - (f : Int)) = (d : Int) := by rw [IntWalk.i64_in _ (by omega)]; omega
      have hw1 : wrap64 ((j : Int) - (f : Int)) = (d : Int) := by rw [IntWalk.wrap64_in _ (by omega)]; omega
      have hdn : (d : Int) < (lim : Int) := by omega
      have hdnN : d < lim := by omega
      have hji : (j : Int) < (n : Int) := by omega
      have hj0 : (0 : Int) ≤ (j : Int) := by omega
      have hdl : d ≤ lim := by omega
      clear hd
      cases hin : inB l h (gt L j).1
      · rw [hin] at HIN
        have HIN := Lib.hid HIN
        have hinH := Lib.hid hin
        clear hin
        go_upto_region 3 with fail
        go_region_held3 (fun w' => w'.cell? ⟨w.heap.size, 0, none⟩ = some (.slice C o q) ∧ w'.cell? ⟨w.heap.size, 1, none⟩ = some (.slice B p r) ∧ w'.cell? ⟨b, oo + j * 2, none⟩ = some (.slice A1 n1 c1)) (go_keep)
          ((go_at_call 66
            (with_reducible refine HIN.out.mono ?_)
            rintro e w3 ⟨rfl, hb3⟩
            have hb3 := undrew hb3
            have b0 := (hb3.cell (p := ⟨w.heap.size, 0, none⟩) hwr).trans HK.out.1
            have b1 := (hb3.cell (p := ⟨w.heap.size, 1, none⟩) hwr).trans HK.out.2.1
            have k0 := (hb3.cell (p := ⟨b, oo + j * 2, none⟩) hbl).trans HK.out.2.2
            have HB3 := Lib.hid hb3
            clear hb3))
        have hcut : cutA (some ⟨b, oo, none⟩) f c = some ⟨b, oo + f * 2, none⟩ := by
          unfold cutA
          rw [if_neg (by omega), Option.map_some, add_lit]
        have HTT := HT.out w3 j (HB.out.trans (HB3.out.mono HB.out.size)) hfj hjn HALL.out (fun _ => .inr hinH.out) hjl
        rw [hcut] at HTT
        have HTT := Lib.hid HTT
        have hb4 := Lib.hid (HBw.out.trans (HB3.out.mono HBw.out.size))
        clear HT hcut
        go_wp2_with fail
        refine HTT.out.mono ?_
        rintro e w4 ⟨A2, n2, c2, rfl, hp2, hb2⟩
        have HP2 := Lib.hid hp2
        have HB2 := Lib.hid hb2
        clear HTT hp2 hb2
        go_wp2
        go_ret
        have hs := hb4.out.size
        refine ⟨A2, n2, c2, rfl, HP2.out.mono (fun b hb => by have hb' := hb; simp at hb'; omega), (hb4.out.alloc hs _).trans (HB2.out.mono (by simp; omega))⟩
      · rw [hin] at HIN
        have HIN := Lib.hid HIN
        have hinH := Lib.hid hin
        clear hin
        go_upto_region 3 with fail
        go_region_held3 (fun w' => w'.cell? ⟨w.heap.size, 0, none⟩ = some (.slice C o q) ∧ w'.cell? ⟨w.heap.size, 1, none⟩ = some (.slice B p r) ∧ w'.cell? ⟨b, oo + j * 2, none⟩ = some (.slice A1 n1 c1)) (go_keep)
          ((go_at_call 66
            (with_reducible refine HIN.out.mono ?_)
            rintro e w3 ⟨rfl, hb3⟩
            have hb3 := undrew hb3
            have b0 := (hb3.cell (p := ⟨w.heap.size, 0, none⟩) hwr).trans HK.out.1
            have b1 := (hb3.cell (p := ⟨w.heap.size, 1, none⟩) hwr).trans HK.out.2.1
            have k0 := (hb3.cell (p := ⟨b, oo + j * 2, none⟩) hbl).trans HK.out.2.2
            have HB3 := Lib.hid hb3
            clear hb3))
        have hb4 := Lib.hid (HB.out.trans (HB3.out.mono HB.out.size))
        have HAL := Lib.hid (show ∀ i, f ≤ i → i < j + 1 → inB l h (gt L i).1 = true from fun i h1 h2 => by
          rcases Nat.lt_succ_iff_lt_or_eq.1 h2 with h3 | rfl
          · exact HALL.out i h1 h3
          · exact hinH.out)
        clear HALL HB HB3 HT HK b0 b1 k0
        go_wp2
        go_roundw
        case rel => exact ⟨j + 1, by omega, by omega, by go_num, by omega, HAL.out, hb4.out⟩
        case measure => simp [intOf]; omega
    · have hend : j = n ∨ (j < n ∧ j - f = lim) := by omega
      have HTT := Lib.hid (fun V (hV : Below W.heap.size W V) => HT.out V j hV hfj hjn HALL.out (fun h => .inl (by omega)) hjl)
      have hX : (if c = f then A else A.map (·.add (f * 2))) = cutA A f c := rfl
      clear HT
      obtain ⟨d, hd⟩ : ∃ d, d = j - f := ⟨_, rfl⟩
      have hw0 : IntKind.i64.wrap ((j : Int) - (f : Int)) = (d : Int) := by rw [IntWalk.i64_in _ (by omega)]; omega
      have hw1 : wrap64 ((j : Int) - (f : Int)) = (d : Int) := by rw [IntWalk.wrap64_in _ (by omega)]; omega
      have hji : decide ((j : Int) < (n : Int)) = decide (j < n) := decide_eq_decide.2 (by omega)
      have hdi : j < n → decide ((d : Int) < (lim : Int)) = false := fun h => by simp; omega
      have hji2 : (f : Int) ≤ (j : Int) := by omega
      have hji3 : (j : Int) ≤ (n : Int) := by omega
      rcases hend with hend | hend
      case' inl =>
        have hnn : decide (j < n) = false := by simp; omega
        have hnn1 : decide ((j : Int) < (n : Int)) = false := by simp; omega
        have hnn2 : ¬ ((j : Int) < (n : Int)) := by omega
      case' inr =>
        have hnn : decide (j < n) = true := by simp; omega
        have hnn1 : decide ((j : Int) < (n : Int)) = true := by simp; omega
        have hnn2 : (j : Int) < (n : Int) := by omega
        have hnn3 : decide ((d : Int) < (lim : Int)) = false := by simp; omega
        have hnn4 : ¬ ((d : Int) < (lim : Int)) := by omega
        have hcut : cutA A f c = Option.map (fun x => x.add (f * 2)) A := by
          unfold cutA
          rw [if_neg (by omega)]
        rw [hcut] at HTT
        clear hX hcut
      all_goals
       clear hend hji hdi hd
       go_upto_region 3 with fail
       go_quiet (fail)
       go_wp2_with fail
       refine (HTT.out _ (bel_drawn HB.out nq)).mono ?_
       rintro e w4 ⟨A2, n2, c2, rfl, hp2, hb2⟩
       have HP2 := Lib.hid hp2
       have HB2 := Lib.hid hb2
       clear HTT hp2 hb2
       go_wp2
       go_ret
       have hs := HBw.out.size
       refine ⟨A2, n2, c2, rfl, HP2.out.mono (fun b hb => by have hb' := hb; simp at hb'; omega), ((bel_drawn HBw.out nq).alloc hs _).trans (HB2.out.mono (by simp; omega))⟩
end Go.Proofs.Ytdhgogepjedonaa
