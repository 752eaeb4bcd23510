/- The contracts of slices.stableCmpFunc and SortStableFunc at numbers that stand at their places: what rises by T. Condition: the row lies in a block of its own, no longer than 1000. -/
import Derived.Test.YthcchaglloggjaaYf
namespace Go.Proofs.Ythcchaglloggjaa
open Go.RowKit
set_option linter.unusedVariables false
set_option maxRecDepth 100000

/-- A part that rises and holds the numbers of its own places. -/
structure Own (T : Nat → Nat → Bool) (g : Nat → Nat) (a b : Nat) : Prop where
  vals : ∀ k, a ≤ k → k < b → a ≤ g k ∧ g k < b
  rise : Rise T g a b
theorem Own.same {T : Nat → Nat → Bool} {g g' : Nat → Nat} {a b : Nat} (h : Own T g a b) (he : ∀ k, a ≤ k → k < b → g' k = g k) : Own T g' a b :=
  ⟨fun k h1 h2 => by rw [he k h1 h2]; exact h.vals k h1 h2, h.rise.same he⟩
/-- Two parts side by side may be merged. -/
theorem own_cross {T U : Nat → Nat → Bool} (hU : ∀ x y, x < y → U y x = T y x) {g : Nat → Nat} {a m b : Nat} (h1 : Own T g a m) (h2 : Own T g m b) : Cross T U g a m b := fun i j i1 i2 j1 j2 => by
  have a1 := (h1.vals i i1 i2).2
  have a2 := (h2.vals j j1 j2).1
  exact ⟨hU _ _ (by omega), by omega⟩
theorem own_merge {T : Nat → Nat → Bool} {g g' : Nat → Nat} {a m b : Nat} (am : a ≤ m) (mb : m ≤ b) (h1 : Own T g a m) (h2 : Own T g m b) (hm : Mix a b g g') (hr : Rise T g' a b) : Own T g' a b :=
  ⟨fun k k1 k2 => by
    obtain ⟨j, j1, j2, e⟩ := hm.to k k1 k2
    rw [e]
    by_cases c : j < m
    · have := h1.vals j j1 c
      omega
    · have := h2.vals j (by omega) j2
      omega, hr⟩
theorem own_id {T : Nat → Nat → Bool} {g g' : Nat → Nat} {a b : Nat} (hg : ∀ k, a ≤ k → k < b → g k = k) (hm : Mix a b g g') (hr : Rise T g' a b) : Own T g' a b :=
  ⟨fun k k1 k2 => by
    obtain ⟨j, j1, j2, e⟩ := hm.to k k1 k2
    rw [e, hg j j1 j2]
    omega, hr⟩
theorem dvd_step {s lo a : Nat} (h1 : s ∣ lo) (h2 : s ∣ a) (h : lo < a) : lo + s ≤ a := by
  have := Nat.le_of_dvd (by omega) (Nat.dvd_sub h2 h1)
  omega
/-- Where going through the blocks has come to: those ahead of a are of size t, those from a on of size s. -/
structure Walk (T : Nat → Nat → Bool) (n s t a : Nat) (g0 g : Nat → Nat) : Prop where
  da : t ∣ a
  le : a ≤ n
  done : ∀ lo, t ∣ lo → lo < a → Own T g lo (lo + t)
  next : ∀ lo, s ∣ lo → a ≤ lo → lo < n → Own T g lo (min (lo + s) n)
  mix : Mix 0 n g0 g
theorem walk_step {T : Nat → Nat → Bool} {n s t a : Nat} {g0 g g' : Nat → Nat} (h : Walk T n s t a g0 g) (hs : s ∣ t) (ht : 0 < t) (hb : a + t ≤ n) (hm : Mix a (a + t) g g') (ho : Own T g' a (a + t)) : Walk T n s t (a + t) g0 g' := by
  refine ⟨Nat.dvd_add h.da (Nat.dvd_refl t), hb, fun lo d1 d2 => ?_, fun lo d1 d2 d3 => ?_, h.mix.trans (hm.wide (Nat.zero_le _) hb)⟩
  · by_cases c : lo < a
    · have := dvd_step d1 h.da c
      exact (h.done lo d1 c).same fun k k1 k2 => hm.out k (by omega)
    · have e : lo = a := by
        rcases Nat.lt_or_ge a lo with c2 | c2
        · have := dvd_step h.da d1 c2
          omega
        · omega
      rw [e]
      exact ho
  · exact (h.next lo d1 (by omega) d3).same fun k k1 k2 => hm.out k (by omega)
/-- All blocks of one size. -/
def Blocks (T : Nat → Nat → Bool) (n s : Nat) (g : Nat → Nat) : Prop := ∀ lo, s ∣ lo → lo < n → Own T g lo (min (lo + s) n)
theorem walk_end {T : Nat → Nat → Bool} {n s t a : Nat} {g0 g g' : Nat → Nat} (h : Walk T n s t a g0 g) (hb : n < a + t) (hm : Mix a n g g') (ho : a < n → Own T g' a n) : Blocks T n t g' := fun lo d1 d2 => by
  by_cases c : lo < a
  · have c3 := dvd_step d1 h.da c
    have hl := h.le
    rw [show min (lo + t) n = lo + t by omega]
    exact (h.done lo d1 c).same fun k k1 k2 => hm.out k (by omega)
  · have e : lo = a := by
      rcases Nat.lt_or_ge a lo with c2 | c2
      · have := dvd_step h.da d1 c2
        omega
      · omega
    subst e
    rw [show min (lo + t) n = n by omega]
    exact ho d2

set_option maxHeartbeats 16000000 in
theorem stable_any {T U : Nat → Nat → Bool} (hT : Sto T) (hU : ∀ x y, x < y → U y x = T y x) {w : World} {N B n c lb : Nat} {g : Nat → Nat} (h : RowG w B n g) (hN : N ≤ B) (hn : n ≤ 1000) (hg : ∀ k, k < n → g k = k) (hc : CmpH N n w U lb) :
    Calls Try.prog 62 #[.slice (some ⟨B, 0, none⟩) n c, .int .i64 n, cmpV lb] w fun e w' => ∃ g', SortO N B n w g' e w' ∧ Mix 0 n g g' ∧ Rise T g' 0 n := by
  have H := Lib.hid h
  have HN := Lib.hid hN
  have HC := Lib.hid hc
  have HG := Lib.hid hg
  have HT := Lib.hid hT
  have HU := Lib.hid hU
  have HV := Lib.hid (show Vin n g from fun k hk => by rw [hg k hk]; exact hk)
  clear h hN hc hg hT hU
  unfold cmpV
  go_enter Try.func62, Try.ntmps62
  go_wp2
  go_loopw [7, 8] (fun s t wr => ∃ (a b : Nat) (f : Nat → Nat), s = .int .i64 a ∧ t = .int .i64 b ∧ RowG wr B n f ∧ Below N w wr ∧ Hid (b = a + 20 ∧ Walk T n 1 20 a g f)) (fun s _ _ => n - (intOf s).toNat)
  case atStart => exact ⟨0, 20, g, rfl, rfl, H.out, Below.refl _ _, Lib.hid ⟨rfl, ⟨Nat.dvd_zero _, Nat.zero_le _, fun lo h1 h2 => by omega, fun lo h1 h2 h3 => ⟨fun k k1 k2 => by
    have := HG.out k (by omega)
    omega, fun i j i1 i2 i3 => by omega⟩, Mix.refl _ _ _⟩⟩⟩
  case round =>
    obtain ⟨a, b, f, rfl, rfl, hf, hbl, HW⟩ := hrel
    have HF := Lib.hid hf
    have HB := Lib.hid hbl
    have han := HW.out.2.le
    have HVF := Lib.hid (HW.out.2.mix.vin HV.out (Nat.le_refl n))
    have HID := Lib.hid (show ∀ k, a ≤ k → k < n → f k = k from fun k k1 k2 => by
      have := (HW.out.2.next k (Nat.one_dvd k) k1 k2).vals k (Nat.le_refl _) (by omega)
      omega)
    clear hf hbl
    by_cases hlt : b ≤ n
    · have HIS := Lib.hid (isort_any (c := c) HT.out HU.out HF.out HN.out hn (show a ≤ b by have := HW.out.1; omega) hlt HVF.out (fun k k1 k2 => HID.out k k1 (by omega)) (HC.out.keep HB.out))
      go_wp2_with fail
      refine HIS.out.mono ?_
      rintro e w2 ⟨g', ⟨rfl, hf2, hb2⟩, hm, hr⟩
      have HF2 := Lib.hid hf2
      have HB2 := Lib.hid (HB.out.trans hb2)
      have ho := own_id (fun k k1 k2 => HID.out k k1 (by omega)) hm hr
      have hb0 := HW.out.1
      rw [hb0] at hm ho
      have HS := Lib.hid (show Walk T n 1 20 b g g' by
        rw [hb0]
        exact walk_step HW.out.2 (Nat.one_dvd _) (by omega) (by omega) hm ho)
      have hab : a < b := by omega
      clear hf2 hb2 hm hr ho hb0 HIS HID HVF HW
      go_wp2
      go_roundw
      case rel => exact ⟨b, b + 20, g', rfl, by go_num, HF2.out, HB2.out, Lib.hid ⟨rfl, HS.out⟩⟩
      case measure => simp [intOf]; omega
    · have HIS := Lib.hid (isort_any (c := c) HT.out HU.out HF.out HN.out hn han (Nat.le_refl n) HVF.out HID.out (HC.out.keep HB.out))
      have hlt' : n < b := by omega
      go_wp2_with fail
      refine HIS.out.mono ?_
      rintro e w2 ⟨g', ⟨rfl, hf2, hb2⟩, hm, hr⟩
      have HF2 := Lib.hid hf2
      have HB2 := Lib.hid (HB.out.trans hb2)
      have hb0 := HW.out.1
      have HS := Lib.hid (show Blocks T n 20 g' ∧ Mix 0 n g g' from ⟨walk_end HW.out.2 (by omega) hm (fun _ => own_id HID.out hm hr), HW.out.2.mix.trans (hm.wide (Nat.zero_le _) (Nat.le_refl _))⟩)
      clear hf2 hb2 hm hr hb0 HIS HID HVF HW HF HB hlt hlt' han
      go_wp2
      go_loopw [6] (fun s wr => ∃ (s0 : Nat) (f : Nat → Nat), s = .int .i64 s0 ∧ 0 < s0 ∧ RowG wr B n f ∧ Below N w wr ∧ Hid (Blocks T n s0 f ∧ Mix 0 n g f)) (fun s _ => n - (intOf s).toNat)
      case atStart => exact ⟨20, g', rfl, by omega, HF2.out, HB2.out, HS⟩
      case round =>
        clear HF2 HB2 HS
        obtain ⟨s0, f2, rfl, hs0, hf, hbl, HW⟩ := hrel
        have HF := Lib.hid hf
        have HB := Lib.hid hbl
        clear hf hbl
        by_cases hlt : s0 < n
        · obtain ⟨t0, ht0⟩ : ∃ t0 : Nat, t0 = 2 * s0 := ⟨_, rfl⟩
          have et : 2 * (s0 : Int) = (t0 : Int) := by omega
          have et2 : (s0 : Int) * 2 = (t0 : Int) := by omega
          have wt : IntKind.i64.wrap (t0 : Int) = (t0 : Int) := by rw [IntKind.wrap_i64]; omega
          have htp : 0 < t0 := by omega
          have hts : s0 < t0 := by omega
          have htn : t0 ≤ 2000 := by omega
          have HT0 := Lib.hid ht0
          have HDV := Lib.hid (show s0 ∣ t0 from ⟨2, by omega⟩)
          have HST := Lib.hid (show Walk T n s0 t0 0 g f2 from ⟨Nat.dvd_zero _, Nat.zero_le _, fun lo h1 h2 => by omega, fun lo h1 h2 h3 => HW.out.1 lo h1 h3, HW.out.2⟩)
          clear ht0 HW
          go_wp2
          go_loopw [7, 8] (fun s t wr => ∃ (a b : Nat) (f : Nat → Nat), s = .int .i64 a ∧ t = .int .i64 b ∧ RowG wr B n f ∧ Below N w wr ∧ Hid (b = a + t0 ∧ Walk T n s0 t0 a g f)) (fun s _ _ => n - (intOf s).toNat)
          case atStart => exact ⟨0, t0, f2, rfl, rfl, HF.out, HB.out, Lib.hid ⟨by omega, HST.out⟩⟩
          case round =>
            clear HF HB HST
            obtain ⟨a, b, f3, rfl, rfl, hf, hbl, HW⟩ := hrel
            have HF := Lib.hid hf
            have HB := Lib.hid hbl
            have han := HW.out.2.le
            have HVF := Lib.hid (HW.out.2.mix.vin HV.out (Nat.le_refl n))
            have HDA := Lib.hid (show s0 ∣ a from Nat.dvd_trans HDV.out HW.out.2.da)
            clear hf hbl
            by_cases hlt2 : b ≤ n
            · obtain ⟨m, hm⟩ : ∃ m : Nat, m = a + s0 := ⟨_, rfl⟩
              have em : (a : Int) + (s0 : Int) = (m : Int) := by omega
              have wm : IntKind.i64.wrap (m : Int) = (m : Int) := by rw [IntKind.wrap_i64]; omega
              have hbe := HW.out.1
              have hte := HT0.out
              have o1 := HW.out.2.next a HDA.out (Nat.le_refl _) (by omega)
              rw [show min (a + s0) n = m by omega] at o1
              have o2 := HW.out.2.next m (by rw [hm]; exact Nat.dvd_add HDA.out (Nat.dvd_refl _)) (by omega) (by omega)
              rw [show min (m + s0) n = b by omega] at o2
              have HSM := Lib.hid (smerge_any (T := T) (U := U) (c := c) (lb := lb) HT.out HN.out hn (show a < m by omega) (show m < b by omega) hlt2 _ _ HF.out HVF.out (HC.out.keep HB.out) o1.rise o2.rise (own_cross HU.out o1 o2))
              have HOO := Lib.hid (And.intro o1 o2)
              have ham : a ≤ m ∧ m ≤ b := by omega
              have HAM := Lib.hid ham
              clear hm hbe hte o1 o2 ham
              go_wp2_with fail
              refine HSM.out.mono ?_
              rintro e w3 ⟨g3, ⟨rfl, hf2, hb2⟩, hm, hr⟩
              have HF2 := Lib.hid hf2
              have HB2 := Lib.hid (HB.out.trans hb2)
              have ho := own_merge HAM.out.1 HAM.out.2 HOO.out.1 HOO.out.2 hm hr
              have hb0 := HW.out.1
              rw [hb0] at hm ho
              have HS := Lib.hid (show Walk T n s0 t0 b g g3 by
                rw [hb0]
                exact walk_step HW.out.2 HDV.out htp (by omega) hm ho)
              have hab : a < b := by omega
              clear hf2 hb2 hm hr ho hb0 HSM HVF HW HF HB HOO HAM em wm
              go_wp2
              go_roundw
              case rel => exact ⟨b, b + t0, g3, rfl, by go_num, HF2.out, HB2.out, Lib.hid ⟨rfl, HS.out⟩⟩
              case measure => simp [intOf]; omega
            · obtain ⟨m, hm⟩ : ∃ m : Nat, m = a + s0 := ⟨_, rfl⟩
              have em : (a : Int) + (s0 : Int) = (m : Int) := by omega
              have wm : IntKind.i64.wrap (m : Int) = (m : Int) := by rw [IntKind.wrap_i64]; omega
              have hbn : n < b := by omega
              by_cases hmn : m < n
              · have hbe := HW.out.1
                have hte := HT0.out
                have o1 := HW.out.2.next a HDA.out (Nat.le_refl _) (by omega)
                rw [show min (a + s0) n = m by omega] at o1
                have o2 := HW.out.2.next m (by rw [hm]; exact Nat.dvd_add HDA.out (Nat.dvd_refl _)) (by omega) hmn
                rw [show min (m + s0) n = n by omega] at o2
                have HSM := Lib.hid (smerge_any (T := T) (U := U) (c := c) (lb := lb) HT.out HN.out hn (show a < m by omega) hmn (Nat.le_refl n) _ _ HF.out HVF.out (HC.out.keep HB.out) o1.rise o2.rise (own_cross HU.out o1 o2))
                have HOO := Lib.hid (And.intro o1 o2)
                have ham : a ≤ m := by omega
                have HAM := Lib.hid ham
                clear hm hbe hte o1 o2 ham
                go_wp2_with fail
                refine HSM.out.mono ?_
                rintro e w3 ⟨g3, ⟨rfl, hf2, hb2⟩, hm, hr⟩
                have HF2 := Lib.hid hf2
                have HB2 := Lib.hid (HB.out.trans hb2)
                have ho := own_merge HAM.out (by omega) HOO.out.1 HOO.out.2 hm hr
                have hb0 := HW.out.1
                have HS := Lib.hid (show Blocks T n t0 g3 ∧ Mix 0 n g g3 from ⟨walk_end HW.out.2 (by omega) hm (fun _ => ho), HW.out.2.mix.trans (hm.wide (Nat.zero_le _) (Nat.le_refl _))⟩)
                clear hf2 hb2 hm hr ho hb0 HSM HVF HW HF HB HOO HAM em wm
                go_wp2
                go_roundw
                case rel => exact ⟨t0, g3, by go_num, htp, HF2.out, HB2.out, HS⟩
                case measure => simp [intOf]; omega
              · have hbe := HW.out.1
                have HS := Lib.hid (show Blocks T n t0 f3 ∧ Mix 0 n g f3 from ⟨walk_end HW.out.2 (by omega) (Mix.refl _ _ _) (fun hh => by
                  have o1 := HW.out.2.next a HDA.out (Nat.le_refl _) hh
                  rw [show min (a + s0) n = n by omega] at o1
                  exact o1), HW.out.2.mix⟩)
                clear hm hbe HVF HW
                go_wp2
                go_roundw
                case rel => exact ⟨t0, f3, by go_num, htp, HF.out, HB.out, HS⟩
                case measure => simp [intOf]; omega
        · have HRS := Lib.hid (show Rise T f2 0 n from fun i j i1 i2 i3 => by
            have o1 := HW.out.1 0 (Nat.dvd_zero _) (by omega)
            rw [show min (0 + s0) n = n by omega] at o1
            exact o1.rise i j i1 i2 i3)
          go_wp2
          go_end0
          exact ⟨f2, ⟨rfl, HF.out, HB.out⟩, HW.out.2, HRS.out⟩

set_option maxHeartbeats 1000000 in
theorem ssort_any {T U : Nat → Nat → Bool} (hT : Sto T) (hU : ∀ x y, x < y → U y x = T y x) {w : World} {N B n c lb : Nat} {g : Nat → Nat} (h : RowG w B n g) (hN : N ≤ B) (hn : n ≤ 1000) (hg : ∀ k, k < n → g k = k) (hc : CmpH N n w U lb) :
    Calls Try.prog 49 #[.slice (some ⟨B, 0, none⟩) n c, cmpV lb] w fun e w' => ∃ g', SortO N B n w g' e w' ∧ Mix 0 n g g' ∧ Rise T g' 0 n := by
  have HS := Lib.hid (stable_any (c := c) hT hU h hN hn hg hc)
  clear hT hU h hN hg hc
  unfold cmpV at HS ⊢
  go_enter Try.func49, Try.ntmps49
  go_wp2_with fail
  refine HS.out.mono ?_
  rintro e w2 ⟨g', ⟨rfl, hf, hb⟩, hm, hr⟩
  have HX := Lib.hid (And.intro (And.intro hf hb) (And.intro hm hr))
  clear hf hb hm hr
  go_wp2
  go_end0
  exact ⟨g', ⟨rfl, HX.out.1.1, HX.out.1.2⟩, HX.out.2.1, HX.out.2.2⟩
end Go.Proofs.Ythcchaglloggjaa
