/- BulkLoads: the list that grows, and the walk. Condition: what came in can be read. -/
import Derived.Test.YtdkppgmhhijkgaaG14
namespace Go.Proofs.Ytdkppgmhhijkgaa
open Go.RowKit
set_option linter.unusedVariables false
set_option maxRecDepth 100000

/-- The pairs, and behind them j more that the law puts there. -/
def longL (L : List Pr) : Nat → List Pr
  | 0 => L
  | j + 1 => longL L j ++ [([255, 255, (j / 200).toUInt8, (j % 200).toUInt8], [])]
theorem long_len (L : List Pr) : ∀ j, (longL L j).length = L.length + j
  | 0 => rfl
  | j + 1 => by rw [longL, List.length_append, long_len L j]; rfl
theorem long_small {L : List Pr} (h : Small L) : ∀ j, Small (longL L j)
  | 0 => h
  | j + 1 => small_app (long_small h j) (fun p hp => by
      obtain rfl := List.mem_singleton.1 hp
      exact ⟨by show 4 ≤ 1000; omega, by show 0 ≤ 1000; omega⟩)

theorem byt_four (w : World) {x y : Int} {a b : UInt8} (hx : x = (a.toNat : Int)) (hy : y = (b.toNat : Int)) : Byt (w.alloc (.cells #[.int .u8 255, .int .u8 255, .int .u8 x, .int .u8 y] 5)) (some ⟨w.heap.size, 0, none⟩) 4 [255, 255, a, b] := by
  refine ⟨rfl, fun _ => ⟨_, rfl, by simp, fun j hj => ?_⟩⟩
  have hc : j = 0 ∨ j = 1 ∨ j = 2 ∨ j = 3 := by simp at hj; omega
  rcases hc with rfl | rfl | rfl | rfl
  · simp [Addr.add]
  · simp [Addr.add]
  · simp [Addr.add, hx]
  · simp [Addr.add, hy]

set_option maxHeartbeats 4000000 in
/-- Where nothing is asked: too many pairs. -/
theorem loads_let {w : World} {A : Option Addr} {n c : Nat} (m k : Int) {L : List Pr} (h : Prs w A n c L) (hl : fewB L 300 = false ∨ (fewB L 300 = true ∧ 1100 < k)) :
    Calls Try.prog 3 #[.int .i64 m, .slice A n c, .int .i64 k] w fun e w' => e = .returned (.bool true) ∧ Below w.heap.size w w' := by
  have HUP := up_any w
  have HFX := Lib.hid (fun w1 (hb : Below w.heap.size w w1) => few_any (w := w1) 300 (h.below hb))
  clear h
  rcases hl with hf | ⟨hf, hk⟩
  case' inl => skip
  case' inr =>
    have g1 : decide ((1100 : Int) < k) = true := by simp; omega
  all_goals
    rw [hf] at HFX
    clear hf
    go_enter Try.func3, Try.ntmps3
    go_wp2_with fail
    refine HUP.mono ?_
    rintro e w1 ⟨rfl, hb1⟩
    have HB1 := Lib.hid hb1
    clear HUP hb1
    go_wp2_with fail
    refine (HFX.out _ HB1.out).mono ?_
    rintro e w2 ⟨rfl, rfl⟩
    clear HFX
    go_wp2
    go_ret
    exact ⟨rfl, HB1.out⟩

set_option maxHeartbeats 16000000 in
theorem loads_made {w : World} {A : Option Addr} {n c : Nat} (m k : Int) {L : List Pr} (h : Prs w A n c L) (hf : fewB L 300 = true) (hk : k ≤ 1100) :
    Calls Try.prog 3 #[.int .i64 m, .slice A n c, .int .i64 k] w fun e w' => e = .returned (.bool true) ∧ Below w.heap.size w w' := by
  have HUP := up_any w
  have hn : n ≤ 300 := by have := (few_small hf).2; have := h.len; omega
  have HFX := Lib.hid (fun w1 (hb : Below w.heap.size w w1) => few_any (w := w1) 300 (h.below hb))
  rw [hf] at HFX
  have HL := Lib.hid h.len
  have H := Lib.hid h
  have HSM := Lib.hid (few_small hf).1
  have g0 : decide ((1100 : Int) < k) = false := by simp; omega
  clear h hf
  go_enter Try.func3, Try.ntmps3
  go_wp2_with fail
  refine HUP.mono ?_
  rintro e w1 ⟨rfl, hb1⟩
  have HB1 := Lib.hid hb1
  clear HUP hb1
  go_wp2_with fail
  refine (HFX.out _ HB1.out).mono ?_
  rintro e w2 ⟨rfl, rfl⟩
  clear HFX
  have HP1 := Lib.hid (H.out.below HB1.out)
  go_wp2_with fail
  go_loopw [1, 9] (fun l x wr => ∃ j : Nat, x = .int .i64 (j : Nat) ∧ (j ≤ k.toNat) ∧ ∃ A1 c1, l = .slice A1 (n + j) c1 ∧ Prs wr A1 (n + j) c1 (longL L j) ∧ Below w.heap.size w wr) (fun _ x _ => 1200 - (intOf x).toNat)
  case atStart => exact ⟨0, rfl, by omega, _, _, rfl, HP1.out, HB1.out⟩
  case round =>
    obtain ⟨j, rfl, hj, A1, c1, rfl, hp, hb⟩ := hrel
    have HP := Lib.hid hp
    have HB := Lib.hid hb
    clear HP1 hp hb
    by_cases hjk : (j : Int) < k
    case pos =>
      have hj1 : j < 1100 := by omega
      have hj0 : (0 : Int) ≤ (j : Int) := by omega
      have O1 : (wr.alloc (.cells #[] 27)).ownsRow wr.heap.size 27 2 (.slice (some ⟨wr.heap.size, 0, none⟩) 0 0) 0 [] := World.ownsRow_made wr #[] 0 (Nat.le_refl _) (Nat.zero_le _) rfl
      have O1 := Lib.hid O1
      have B1 := Lib.hid (show Below wr.heap.size wr (wr.alloc (.cells #[] 27)) from (Below.refl _ _).alloc (Nat.le_refl _) _)
      go_wp2_with (at_builtin; refine wpList_append_prs rfl _ _ rfl wr.heap.size _ 0 [] rfl O1.out A1 (n + j) c1 (longL L j) rfl HP.out B1.out (by omega) B1.out.size ?_)
      intro v1 w7 ys1 hr1 hown1 hg1
      have B2 := Lib.hid (own_below B1.out O1.out hg1)
      have R1 := Lib.hid hr1
      have O2 := Lib.hid hown1
      clear hr1 hown1 hg1 B1 O1
      obtain ⟨i0, hi, hz0, hz1, hz2⟩ := info_parts Try.infoPair
      have HI := Lib.hid hi
      have HZ := Lib.hid (And.intro hz0 (And.intro hz1 hz2))
      clear hi hz0 hz1 hz2
      have hq : (j : Int) / 200 = (((j / 200).toUInt8).toNat : Int) := by
        have : j / 200 < 256 := by omega
        simp [Nat.mod_eq_of_lt this]
      have hr : (j : Int) % 200 = (((j % 200).toUInt8).toNat : Int) := by
        have : j % 200 < 256 := by omega
        simp [Nat.mod_eq_of_lt this]
      have BY := Lib.hid (byt_four w7 hq hr)
      have B3 := Lib.hid ((B2.out.alloc B2.out.size (.cells #[.int .u8 255, .int .u8 255, .int .u8 ((j : Int) / 200), .int .u8 ((j : Int) % 200)] 5)).alloc (by have := B2.out.size; simp; omega) (.cells #[.slice (some ⟨w7.heap.size, 0, none⟩) 4 4, .slice none 0 0] 27))
      have O3 := Lib.hid ((O2.out.alloc (.cells #[.int .u8 255, .int .u8 255, .int .u8 ((j : Int) / 200), .int .u8 ((j : Int) % 200)] 5)).alloc (.cells #[.slice (some ⟨w7.heap.size, 0, none⟩) 4 4, .slice none 0 0] 27))
      have HC := two_cells (w := w7.alloc (.cells #[.int .u8 255, .int .u8 255, .int .u8 ((j : Int) / 200), .int .u8 ((j : Int) % 200)] 5)) (x := .slice (some ⟨w7.heap.size, 0, none⟩) 4 4) (y := .slice none 0 0) (T := 27)
      rw [alloc_sz] at HC
      have HC := Lib.hid HC
      have HLT := Lib.hid (own_lt O2.out)
      clear hq hr B2 O2
      go_wp2_with (at_builtin; refine wpList_append_own _ rfl _ _ 22 rfl wr.heap.size 27 i0 (.agg #[.slice none 0 0, .slice none 0 0]) 2 48 Try.underlying22 HI.out HZ.out.1 HZ.out.2.1 HZ.out.2.2 rfl (by decide) v1 (n + j) ys1 rfl O3.out ⟨w7.heap.size + 1, 0, none⟩ 1 1 [.slice (some ⟨w7.heap.size, 0, none⟩) 4 4, .slice none 0 0] rfl rfl HC.out ?c2 (by unfold maxLen; omega) (by omega) B3.out.size ?_)
      case c2 => intro u hu; simp at hu; rcases hu with rfl | rfl <;> rfl
      intro v2 w9 hown2 hg2 hnil
      clear hnil
      have B4 := Lib.hid (own_below B3.out O3.out hg2)
      have hby : Byt w9 (some ⟨w7.heap.size, 0, none⟩) 4 [255, 255, (j / 200).toUInt8, (j % 200).toUInt8] := by
        have h1 := byt_on (C := fun b => b = w7.heap.size) BY.out (fun a h0 e => by injection e with e; subst e; rfl)
        refine ((h1.keep (agree_alloc _ _)).keep ⟨hg2.size, fun b hb hl => hg2.block b hl (fun e => ?_)⟩).here
        have := HLT.out b e.symm
        omega
      have hrd : Reads w9 (ys1 ++ [.slice (some ⟨w7.heap.size, 0, none⟩) 4 4, .slice none 0 0]) (longL L (j + 1)) := (R1.out.below B4.out).append (reads_one 4 0 hby (byt_none w9))
      obtain ⟨A9, c9, rfl, hp9, _⟩ := own_prs hown2 hrd
      have HP9 := Lib.hid hp9
      have HB9 := Lib.hid (HB.out.trans (B4.out.mono HB.out.size))
      clear hown2 hg2 B3 O3 R1 hby hrd hp9 HC HI HZ BY HLT B4
      go_wp2
      go_roundw
      case rel => exact ⟨j + 1, by go_num, by omega, A9, c9, rfl, HP9.out, HB9.out⟩
      case measure => simp [intOf]; omega
    case neg =>
      have hLs := Lib.hid (long_small HSM.out j)
      have hLn : (longL L j).length = n + j := by rw [long_len, HL.out]
      generalize longL L j = M at HP hLs hLn
      have hN : n + j ≤ 1400 := by omega
      generalize n + j = N at HP hLn hN
      clear hn hj HL H HSM g0
      by_cases hm : 3 ≤ m ∧ m ≤ 16
      · obtain ⟨m', rfl⟩ : ∃ m' : Nat, m = (m' : Int) := ⟨m.toNat, by omega⟩
        have h3 : 3 ≤ m' := by omega
        have h16 : m' ≤ 16 := by omega
        have e3 : ¬ ((m' : Int) < 3) := by omega
        have e16 : ¬ ((16 : Int) < (m' : Int)) := by omega
        have e3b : ¬ (m' < 3) := by omega
        have e16b : ¬ (16 < m') := by omega
        cases hi : isB M
        · have HLO := load_row HP.out h3 h16 hi
          rw [errV_some (k := 1) (by decide)] at HLO
          have HCD := Lib.hid (fun w => code_any 1 w (by omega) (by omega))
          rw [errV_some (k := 1) (by decide)] at HCD
          have HI := Lib.hid hi
          clear hi hm h3 h16
          go_wp2_with fail
          refine HLO.mono ?_
          rintro e w10 ⟨rfl, hb10⟩
          have HIS := ris_any (HP.out.below hb10) hLs.out
          rw [HI.out] at HIS
          have HB10 := Lib.hid (below_on HB.out hb10)
          clear HLO hb10
          go_wp2_with fail
          refine HIS.mono ?_
          rintro e w11 ⟨rfl, hd11⟩
          have HB11 := Lib.hid (below_on HB10.out (hd11.below _))
          clear HIS hd11
          by_cases hlen : 1000 < N
          all_goals
            have hlenI : decide ((1000 : Int) < (N : Int)) = decide (1000 < N) := decide_eq_decide.2 (by omega)
            go_wp2_with fail
            refine (HCD.out _).mono ?_
            rintro e w12 ⟨rfl, rfl⟩
            go_wp2
            go_ret
            exact ⟨rfl, HB11.out⟩
        · have HI := Lib.hid hi
          by_cases hlen : 1000 < N
          · have hlenI : (1000 : Int) < (N : Int) := by omega
            have HLO := load_full HP.out h3 h16 hi (by omega)
            rw [errV_some (k := 5) (by decide)] at HLO
            have HCD := Lib.hid (fun w => code_any 5 w (by omega) (by omega))
            rw [errV_some (k := 5) (by decide)] at HCD
            clear hi hm h3 h16
            go_wp2_with fail
            refine HLO.mono ?_
            rintro e w10 ⟨rfl, hb10⟩
            have HIS := ris_any (HP.out.below hb10) hLs.out
            rw [HI.out] at HIS
            have HB10 := Lib.hid (below_on HB.out hb10)
            clear HLO hb10
            go_wp2_with fail
            refine HIS.mono ?_
            rintro e w11 ⟨rfl, hd11⟩
            have HB11 := Lib.hid (below_on HB10.out (hd11.below _))
            clear HIS hd11
            go_wp2_with fail
            refine (HCD.out _).mono ?_
            rintro e w12 ⟨rfl, rfl⟩
            go_wp2
            go_ret
            exact ⟨rfl, HB11.out⟩
          · have hlenI : ¬ ((1000 : Int) < (N : Int)) := by omega
            have HLO := load_yes HP.out h3 h16 hi (by omega)
            clear hi hm h3 h16
            go_wp2_with fail
            refine HLO.mono ?_
            rintro e w10 ⟨tb, D, rfl, ht, hb10⟩
            have HT := Lib.hid ht
            have HP10 := Lib.hid (HP.out.below hb10)
            have HIS := ris_any HP10.out hLs.out
            rw [HI.out] at HIS
            have HB10 := Lib.hid (below_on HB.out hb10)
            clear HLO hb10 ht
            go_wp2_with fail
            refine HIS.mono ?_
            rintro e w11 ⟨rfl, hd11⟩
            have HB11 := Lib.hid (below_on HB10.out (hd11.below _))
            have HH := Lib.hid (has_yes (HT.out.below (hd11.below _)).b (hd11.prs HP10.out))
            clear HIS hd11
            go_wp2_with fail
            refine HH.out.mono ?_
            rintro e w12 ⟨rfl, hb12⟩
            have HB12 := Lib.hid (below_on HB11.out hb12)
            clear hb12
            go_wp2
            go_ret
            exact ⟨rfl, HB12.out⟩
      · have HLO := load_order (w := wr) (A := A1) (n := N) (c := c1) m hm
        rw [errV_some (k := 1) (by decide)] at HLO
        have HCD := Lib.hid (fun w => code_any 1 w (by omega) (by omega))
        rw [errV_some (k := 1) (by decide)] at HCD
        have hm2 : m < 3 ∨ (¬ m < 3 ∧ 16 < m) := by omega
        go_wp2_with fail
        refine HLO.mono ?_
        rintro e w10 ⟨rfl, rfl⟩
        have HIS := ris_any HP.out hLs.out
        generalize isB M = b at HIS
        clear HLO
        go_wp2_with fail
        refine HIS.mono ?_
        rintro e w11 ⟨rfl, hd11⟩
        have HB11 := Lib.hid (below_on HB.out (hd11.below _))
        clear HIS hd11
        by_cases hlen : 1000 < N
        all_goals
          have hlenI : decide ((1000 : Int) < (N : Int)) = decide (1000 < N) := decide_eq_decide.2 (by omega)
          cases b
          all_goals
            rcases hm2 with hm2 | ⟨hm2, hm3⟩
            all_goals
              go_wp2_with fail
              refine (HCD.out _).mono ?_
              rintro e w12 ⟨rfl, rfl⟩
              go_wp2
              go_ret
              exact ⟨rfl, HB11.out⟩

theorem loads_any {w : World} {A : Option Addr} {n c : Nat} (m k : Int) {L : List Pr} (h : Prs w A n c L) :
    Calls Try.prog 3 #[.int .i64 m, .slice A n c, .int .i64 k] w fun e w' => e = .returned (.bool true) ∧ Below w.heap.size w w' := by
  cases hf : fewB L 300
  · exact loads_let m k h (.inl hf)
  · by_cases hk : 1100 < k
    · exact loads_let m k h (.inr ⟨hf, hk⟩)
    · exact loads_made m k h hf (by omega)
end Go.Proofs.Ytdkppgmhhijkgaa
