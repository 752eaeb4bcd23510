/- The contract of slices.insertionSortCmpFunc at numbers, over a closure that tells U: what rises by T, where U and T tell the same of a number and a less one. Condition: the row lies in a block of its own, no longer than 1000; the numbers of the part stand at their places. -/
import Derived.Test.YthcchaglloggjaaYb
import Derived.Deep.DeepCutAuto
import Derived.Deep.RegionHeld3
import Derived.BigQuiet
namespace Go.Proofs.Ythcchaglloggjaa
open Go.RowKit
set_option linter.unusedVariables false
set_option maxRecDepth 100000

/-- Where an insertion has come to: the one that moves is i, it stands at j. -/
structure InsI (T : Nat → Nat → Bool) (f : Nat → Nat) (a i j : Nat) : Prop where
  rest : ∀ p q, a ≤ p → p < q → q ≤ i → p ≠ j → q ≠ j → T (f p) (f q) = true
  more : ∀ q, j < q → q ≤ i → T (f j) (f q) = true
  is : f j = i
  less : ∀ p, a ≤ p → p ≤ i → p ≠ j → f p < i
theorem ins_start {T : Nat → Nat → Bool} {g f : Nat → Nat} {a i : Nat} (hg : ∀ k, a ≤ k → k ≤ i → g k = k) (hm : Mix a i g f) (hr : Rise T f a i) (hai : a ≤ i) : InsI T f a i i := by
  refine ⟨fun p q h1 h2 h3 h4 h5 => hr p q h1 h2 (by omega), fun q h1 h2 => by omega, ?_, fun p h1 h2 h3 => ?_⟩
  · rw [hm.out i (.inr (Nat.le_refl _)), hg i hai (Nat.le_refl _)]
  · obtain ⟨k, k1, k2, e⟩ := hm.to p h1 (by omega)
    rw [e, hg k k1 (by omega)]
    exact k2
theorem ins_step {T : Nat → Nat → Bool} {f : Nat → Nat} {a i j : Nat} (h : InsI T f a i (j + 1)) (haj : a ≤ j) (hji : j + 1 ≤ i) (ht : T i (f j) = true) : InsI T (swpF f (j + 1) j) a i j := by
  have e1 : swpF f (j + 1) j j = i := by unfold swpF; rw [if_neg (by omega), if_pos rfl, h.is]
  have e2 : swpF f (j + 1) j (j + 1) = f j := by unfold swpF; rw [if_pos rfl]
  have e3 : ∀ k, k ≠ j → k ≠ j + 1 → swpF f (j + 1) j k = f k := fun k k1 k2 => by unfold swpF; rw [if_neg k2, if_neg k1]
  refine ⟨fun p q h1 h2 h3 h4 h5 => ?_, fun q h1 h2 => ?_, e1, fun p h1 h2 h3 => ?_⟩
  · by_cases p1 : p = j + 1
    · subst p1
      rw [e2, e3 q h5 (by omega)]
      exact h.rest j q haj (by omega) h3 (by omega) (by omega)
    · by_cases q1 : q = j + 1
      · subst q1
        rw [e2, e3 p h4 p1]
        exact h.rest p j h1 (by omega) (by omega) p1 (by omega)
      · rw [e3 p h4 p1, e3 q h5 q1]
        exact h.rest p q h1 h2 h3 p1 q1
  · rw [e1]
    by_cases q1 : q = j + 1
    · rw [q1, e2]
      exact ht
    · rw [e3 q (by omega) q1, ← h.is]
      exact h.more q (by omega) h2
  · by_cases p1 : p = j + 1
    · rw [p1, e2]
      exact h.less j haj (by omega) (by omega)
    · rw [e3 p h3 p1]
      exact h.less p h1 h2 p1
theorem ins_stop {T : Nat → Nat → Bool} (hT : Sto T) {f : Nat → Nat} {a i j : Nat} (h : InsI T f a i j) (hs : ∀ k, a ≤ k → k + 1 = j → T (f k) i = true) : Rise T f a (i + 1) := fun p q h1 h2 h3 => by
  by_cases pj : p = j
  · subst pj
    exact h.more q h2 (by omega)
  · by_cases qj : q = j
    · subst qj
      obtain ⟨k, rfl⟩ : ∃ k, q = k + 1 := ⟨q - 1, by omega⟩
      rw [h.is]
      have hk := hs k (by omega) rfl
      by_cases pk : p = k
      · rw [pk]; exact hk
      · exact hT.trans _ _ _ (h.rest p k h1 (by omega) (by omega) pj (by omega)) hk
    · exact h.rest p q h1 h2 (by omega) pj qj

/-- What the closure tells, whatever lies from N on. -/
def CmpH (N n : Nat) (w : World) (U : Nat → Nat → Bool) (b : Nat) : Prop :=
  ∀ w1, Below N w w1 → ∀ i j : Nat, i < n → j < n → Calls Try.prog 50 #[.int .i64 i, .int .i64 j, .pointer (some ⟨b, 0, none⟩)] w1 fun e w' => ∃ z : Int, e = .returned (.int .i64 z) ∧ decide (z < 0) = U i j ∧ Below w1.heap.size w1 w'
theorem CmpH.keep {N n : Nat} {w w' : World} {U : Nat → Nat → Bool} {b : Nat} (h : CmpH N n w U b) (hb : Below N w w') : CmpH N n w' U b := fun w1 h1 => h w1 (hb.trans h1)
def cmpV (b : Nat) : Value := .func (.func 50) #[] #[.pointer (some ⟨b, 0, none⟩)]
/-- All numbers of the row are places of it. -/
def Vin (n : Nat) (g : Nat → Nat) : Prop := ∀ k, k < n → g k < n
theorem Mix.vin {a b n : Nat} {f g : Nat → Nat} (h : Mix a b f g) (hf : Vin n f) (hb : b ≤ n) : Vin n g := fun k hk => by
  by_cases c : a ≤ k ∧ k < b
  · obtain ⟨j, j1, j2, e⟩ := h.to k c.1 c.2
    rw [e]
    exact hf j (by omega)
  · rw [h.out k (by omega)]
    exact hf k hk

set_option maxHeartbeats 8000000 in
theorem isort_any {T U : Nat → Nat → Bool} (hT : Sto T) (hU : ∀ x y, x < y → U y x = T y x) {w : World} {N B n c a b lb : Nat} {g : Nat → Nat} (h : RowG w B n g) (hN : N ≤ B) (hn : n ≤ 1000) (hab : a ≤ b) (hb : b ≤ n) (hv : Vin n g) (hg : ∀ k, a ≤ k → k < b → g k = k) (hc : CmpH N n w U lb) :
    Calls Try.prog 76 #[.slice (some ⟨B, 0, none⟩) n c, .int .i64 a, .int .i64 b, cmpV lb] w fun e w' => ∃ g', SortO N B n w g' e w' ∧ Mix a b g g' ∧ Rise T g' a b := by
  have H := Lib.hid h
  have HN := Lib.hid hN
  have HC := Lib.hid hc
  have HV := Lib.hid hv
  have HG := Lib.hid hg
  have HT := Lib.hid hT
  have HU := Lib.hid hU
  clear h hN hc hv hg hT hU
  unfold cmpV
  go_enter Try.func76, Try.ntmps76
  go_wp2
  go_loopw [8] (fun s wr => ∃ (i : Nat) (f : Nat → Nat), s = .int .i64 i ∧ a < i ∧ i ≤ b + 1 ∧ RowG wr B n f ∧ Below N w wr ∧ Hid ((i ≤ b → Mix a i g f ∧ Rise T f a i) ∧ (b ≤ i → Mix a b g f ∧ Rise T f a b))) (fun s _ => b + 1 - (intOf s).toNat)
  case atStart => exact ⟨a + 1, g, by go_num, by omega, by omega, H.out, Below.refl _ _, Lib.hid ⟨fun _ => ⟨Mix.refl _ _ _, fun p q h1 h2 h3 => by omega⟩, fun _ => ⟨Mix.refl _ _ _, fun p q h1 h2 h3 => by omega⟩⟩⟩
  case round =>
    obtain ⟨i, f, rfl, hai, hib, hf, hbl, HI⟩ := hrel
    have HF := Lib.hid hf
    have HB := Lib.hid hbl
    clear hf hbl
    by_cases hlt : i < b
    · have HST := Lib.hid (show InsI T f a i i ∧ Mix a (i + 1) g f from ⟨ins_start (fun k h1 h2 => HG.out k h1 (by omega)) (HI.out.1 (by omega)).1 (HI.out.1 (by omega)).2 (by omega), (HI.out.1 (by omega)).1.wide (Nat.le_refl _) (by omega)⟩)
      clear HI
      go_wp2
      go_loopw [9] (fun s wr => ∃ (j : Nat) (f2 : Nat → Nat), s = .int .i64 j ∧ a ≤ j ∧ j ≤ i ∧ RowG wr B n f2 ∧ Below N w wr ∧ Hid (InsI T f2 a i j ∧ Mix a (i + 1) g f2)) (fun s _ => (intOf s).toNat)
      case atStart => exact ⟨i, f, rfl, by omega, Nat.le_refl _, HF.out, HB.out, HST⟩
      case round =>
        clear HF HB HST
        obtain ⟨j, f2, rfl, haj, hji, hf2, hb2, HJ⟩ := hrel
        have HF := Lib.hid hf2
        have HB := Lib.hid hb2
        clear hf2 hb2
        have HV2 := Lib.hid (HJ.out.2.vin HV.out (show i + 1 ≤ n by omega))
        by_cases hja : a < j
        · obtain ⟨k, rfl⟩ : ∃ k, j = k + 1 := ⟨j - 1, by omega⟩
          have bk : (0 : Int) ≤ (k : Int) + 1 := by omega
          have bk2 : (k : Int) + 1 < (n : Int) := by omega
          have bk3 : (k : Int) < (n : Int) := by omega
          have rk : IntKind.i64.wrap ((k : Int) + 1) = (k : Int) + 1 := by rw [IntKind.wrap_i64]; omega
          have rk2 : IntKind.i64.wrap ((k : Int)) = (k : Int) := by rw [IntKind.wrap_i64]; omega
          have hjn : k + 1 < n := by omega
          have hkn : k < n := by omega
          have cj := HF.out.at_ hjn
          have ck := HF.out.at_ hkn
          have HTI := Lib.hid (show U (f2 (k + 1)) (f2 k) = T i (f2 k) by
            have := HJ.out.1.less k (by omega) (by omega) (by omega)
            rw [HJ.out.1.is]
            exact HU.out _ _ this)
          have HNE := Lib.hid (show f2 k ≠ i by
            have := HJ.out.1.less k (by omega) (by omega) (by omega)
            omega)
          have HCJ := Lib.hid (HC.out wr.drew HB.out.drew (f2 (k + 1)) (f2 k) (HV2.out (k + 1) hjn) (HV2.out k hkn))
          have hd : decide ((k : Int) + 1 > (a : Int)) = true := by simp; omega
          cases hu : U (f2 (k + 1)) (f2 k)
          case' false =>
            have HNX := Lib.hid (show T (f2 k) i = true by
              have h0 := HTI.out
              rw [hu] at h0
              rcases HT.out.tot _ _ HNE.out with h | h
              · exact h
              · rw [h] at h0; cases h0)
          case' true =>
            have HNX := Lib.hid (show T i (f2 k) = true by rw [← HTI.out]; exact hu)
          all_goals
            rw [hu] at HCJ
            clear hu HTI HNE
            obtain ⟨x, hx⟩ : ∃ x, x = f2 (k + 1) := ⟨_, rfl⟩
            obtain ⟨y, hy⟩ : ∃ y, y = f2 k := ⟨_, rfl⟩
            rw [← hx] at cj HCJ
            rw [← hy] at ck HCJ
            have HXY := Lib.hid (And.intro hx hy)
            clear hx hy
            go_upto_region 4 with fail
            go_region_held3 (fun w' => w'.cell? ⟨B, k + 1, none⟩ = some (.int .i64 x) ∧ w'.cell? ⟨B, k, none⟩ = some (.int .i64 y)) (go_keep)
              ((go_at_call 50
                (with_reducible refine HCJ.out.mono ?_)
                rintro e w3 ⟨z, rfl, hz, hb3⟩
                have hb3 : Below wr.heap.size wr w3 := undrew hb3
                have HB3 := Lib.hid (HB.out.trans (hb3.mono (by have := HF.out.1; have := HN.out; omega)))
                have HF3 := Lib.hid (HF.out.below hb3)
                have cj := (hb3.cell (p := ⟨B, k + 1, none⟩) HF.out.1).trans cj
                have ck := (hb3.cell (p := ⟨B, k, none⟩) HF.out.1).trans ck
                clear hb3))
            clear HCJ
          · have fx := HF3.out.fr hjn
            have fy := HF3.out.fr hkn
            have cz := HF3.out.second (i := k + 1) hkn (by omega) (.int .i64 (f2 k))
            have HS2 := Lib.hid (And.intro ((HF3.out.swap hjn hkn).below (Below.refl _ _).drew) ((swp_below HB3.out HN.out (k + 1) k (.int .i64 (f2 k)) (.int .i64 (f2 (k + 1)))).drew))
            have HJ2 := Lib.hid (And.intro (ins_step HJ.out.1 (by omega) (by omega) HNX.out) (HJ.out.2.trans (mix_swp (a := a) (b := i + 1) f2 (i := k + 1) (j := k) (by omega) (by omega))))
            rw [← HXY.out.1, ← HXY.out.2] at HS2
            rw [← HXY.out.2] at cz
            clear hd HNX HXY HF HB HJ HV2 HF3 HB3
            go_wp2_with fail
            go_region
            clear cj ck fx fy cz
            generalize ((w3.setCell ⟨B, k + 1, none⟩ (.int .i64 y)).setCell ⟨B, k, none⟩ (.int .i64 x)).drew = w4 at HS2 ⊢
            go_wp2
            go_roundw
            case rel => exact ⟨k, _, by go_num, by omega, by omega, HS2.out.1, HS2.out.2, HJ2⟩
            case measure => simp [intOf]
          · have HR := Lib.hid (ins_stop HT.out HJ.out.1 (fun q h1 h2 => by
              obtain rfl : q = k := by omega
              exact HNX.out))
            have HMX := Lib.hid HJ.out.2
            clear cj ck hd HNX HXY HF HB HJ HV2
            go_wp2
            go_roundw
            case rel => exact ⟨i + 1, f2, by go_num, by omega, by omega, HF3.out, HB3.out, Lib.hid ⟨fun _ => ⟨HMX.out, HR.out⟩, fun h => by
              obtain rfl : i + 1 = b := by omega
              exact ⟨HMX.out, HR.out⟩⟩⟩
            case measure => simp [intOf]; omega
        · obtain rfl : j = a := by omega
          have HR := Lib.hid (ins_stop HT.out HJ.out.1 (fun q h1 h2 => by omega))
          have HMX := Lib.hid HJ.out.2
          have hd : decide ((j : Int) > (j : Int)) = false := by simp
          clear HJ HV2
          go_upto_region 4 with fail
          go_quiet (fail)
          go_wp2
          go_roundw
          case rel => exact ⟨i + 1, f2, by go_num, by omega, by omega, HF.out.below (Drawn.below ⟨_, rfl⟩ _), HB.out.trans (Drawn.below ⟨_, rfl⟩ _), Lib.hid ⟨fun _ => ⟨HMX.out, HR.out⟩, fun h => by
            obtain rfl : i + 1 = b := by omega
            exact ⟨HMX.out, HR.out⟩⟩⟩
          case measure => simp [intOf]; omega
    · obtain ⟨hm, hr⟩ := HI.out.2 (by omega)
      have HMR := Lib.hid (And.intro hm hr)
      clear hm hr
      go_wp2
      go_end0
      exact ⟨f, ⟨rfl, HF.out, HB.out⟩, HMR.out⟩
end Go.Proofs.Ythcchaglloggjaa
