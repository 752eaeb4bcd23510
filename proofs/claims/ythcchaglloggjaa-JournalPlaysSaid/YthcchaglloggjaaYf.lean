/- The contract of slices.symMergeCmpFunc at numbers. Condition: the row lies in a block of its own, no longer than 1000; two parts that rise, neither empty. -/
import Derived.Test.YthcchaglloggjaaYe
namespace Go.Proofs.Ythcchaglloggjaa
open Go.RowKit
set_option linter.unusedVariables false
set_option maxRecDepth 100000

theorem Cross.same {T U : Nat → Nat → Bool} {g g' : Nat → Nat} {a m b : Nat} (h : Cross T U g a m b) (he : ∀ k, a ≤ k → k < b → g' k = g k) : Cross T U g' a m b := fun i j i1 i2 j1 j2 => by
  rw [he i i1 (by omega), he j (by omega) j2]
  exact h i j i1 i2 j1 j2
theorem cross_rot {T U : Nat → Nat → Bool} {g : Nat → Nat} {a s m mid e b : Nat} (h : Cross T U g a m b) (b1 : a ≤ s) (b2 : s ≤ m) (b3 : m ≤ e) (b4 : e ≤ b) (hmid : mid + m = s + e) :
    Cross T U (rotF g s m e) a s mid ∧ Cross T U (rotF g s m e) mid e b := by
  refine ⟨fun i j i1 i2 j1 j2 => ?_, fun i j i1 i2 j1 j2 => ?_⟩
  · rw [show rotF g s m e i = g i by unfold rotF; rw [if_neg (by omega)], show rotF g s m e j = g (j + (m - s)) by unfold rotF; rw [if_pos (by omega), if_pos (by omega)]]
    exact h i _ i1 (by omega) (by omega) (by omega)
  · rw [show rotF g s m e i = g (i - (e - m)) by unfold rotF; rw [if_pos (by omega), if_neg (by omega)], show rotF g s m e j = g j by unfold rotF; rw [if_neg (by omega)]]
    exact h _ j (by omega) (by omega) (by omega) j2
/-- What the search by halves has found. -/
theorem search_ok {T : Nat → Nat → Bool} (hT : Sto T) {g : Nat → Nat} {a m b s0 r0 st p mid e : Nat} (h1 : Rise T g a m) (h2 : Rise T g m b) (hp : p + 1 = mid + m) (he : st + e = mid + m)
    (a1 : a ≤ s0) (a2 : s0 ≤ st) (a3 : st ≤ r0) (a4 : r0 ≤ m) (a5 : m ≤ e) (a6 : e ≤ b) (hs : s0 = a ∨ mid + m = s0 + b) (hr : r0 = m ∨ r0 = mid)
    (lo : ∀ c, s0 ≤ c → c < st → T (g c) (g (p - c)) = true) (hi : ∀ c, st ≤ c → c < r0 → T (g (p - c)) (g c) = true) :
    (∀ i j, a ≤ i → i < st → e ≤ j → j < b → T (g i) (g j) = true) ∧ (∀ i j, m ≤ i → i < e → st ≤ j → j < m → T (g i) (g j) = true) := by
  have le1 : ∀ {x y z : Nat}, x ≤ y → a ≤ x → y < m → T (g y) z = true → T (g x) z = true := fun {x y z} h hx hy ht => by
    by_cases e : x = y
    · rw [e]; exact ht
    · exact hT.trans _ _ _ (h1 x y hx (by omega) hy) ht
  have le2 : ∀ {x y z : Nat}, x ≤ y → m ≤ x → y < b → T z (g x) = true → T z (g y) = true := fun {x y z} h hx hy ht => by
    by_cases e : x = y
    · rw [← e]; exact ht
    · exact hT.trans _ _ _ ht (h2 x y hx (by omega) hy)
  have le3 : ∀ {x y z : Nat}, x ≤ y → m ≤ x → y < b → T (g y) z = true → T (g x) z = true := fun {x y z} h hx hy ht => by
    by_cases e : x = y
    · rw [e]; exact ht
    · exact hT.trans _ _ _ (h2 x y hx (by omega) hy) ht
  have le4 : ∀ {x y z : Nat}, x ≤ y → a ≤ x → y < m → T z (g x) = true → T z (g y) = true := fun {x y z} h hx hy ht => by
    by_cases e : x = y
    · rw [← e]; exact ht
    · exact hT.trans _ _ _ ht (h1 x y hx (by omega) hy)
  refine ⟨fun i j i1 i2 j1 j2 => ?_, fun i j i1 i2 j1 j2 => ?_⟩
  · have h0 : s0 < st := by rcases hs with hs | hs <;> omega
    have h3 := lo (st - 1) (by omega) (by omega)
    rw [show p - (st - 1) = e by omega] at h3
    exact le1 (show i ≤ st - 1 by omega) i1 (by omega) (le2 j1 a5 j2 h3)
  · have h0 : st < r0 := by rcases hr with hr | hr <;> omega
    have h3 := hi st (Nat.le_refl _) h0
    rw [show p - st = e - 1 by omega] at h3
    exact le3 (show i ≤ e - 1 by omega) i1 (by omega) (le4 j1 (by omega) j2 h3)

/-- Where the search by halves goes on. -/
structure SrchS (a s0 r0 m mid p b : Nat) : Prop where
  all : a ≤ s0 ∧ s0 ≤ r0 ∧ r0 ≤ m ∧ r0 ≤ mid ∧ (∀ q, s0 ≤ q → q < r0 → m ≤ p - q ∧ p - q < b ∧ q ≤ p) ∧ (s0 = a ∨ mid + m = s0 + b) ∧ (r0 = m ∨ r0 = mid) ∧ mid + m ≤ s0 + b

/-- What merging leaves, of all shorter parts. -/
structure MergeH (T U : Nat → Nat → Bool) (N B n c lb d : Nat) : Prop where
  go : ∀ a m b, a < m → m < b → b ≤ n → b - a ≤ d → MergeC T U N B n c lb a m b

set_option maxHeartbeats 16000000 in
theorem smerge_gen {T U : Nat → Nat → Bool} (hT : Sto T) {N B n c a m b lb d : Nat} (hN : N ≤ B) (hn : n ≤ 1000) (ham : a + 1 < m) (hmb : m + 1 < b) (hb : b ≤ n) (hd : b - a ≤ d + 1) (ih : MergeH T U N B n c lb d) : MergeC T U N B n c lb a m b := by
  intro w g h hv hc h1 h2 hx
  have H := Lib.hid h
  have HN := Lib.hid hN
  have HC := Lib.hid hc
  have HV := Lib.hid hv
  have HT := Lib.hid hT
  have H1 := Lib.hid h1
  have H2 := Lib.hid h2
  have HX := Lib.hid hx
  have IH := Lib.hid ih
  have e1 : ((m : Int) - (a : Int) == 1) = false := by simp; omega
  have e2 : ((b : Int) - (m : Int) == 1) = false := by simp; omega
  obtain ⟨mid, hmid⟩ : ∃ mid : Nat, mid = (a + b) / 2 := ⟨_, rfl⟩
  have em : ((a : Int) + (b : Int)) / 2 = (mid : Int) := by omega
  obtain ⟨p, hp⟩ : ∃ p : Nat, p + 1 = mid + m := ⟨mid + m - 1, by omega⟩
  have en : (mid : Int) + (m : Int) - 1 = (p : Int) := by omega
  have HP := Lib.hid hp
  have HMID := Lib.hid hmid
  have m1 : a < mid := by omega
  have m2 : mid < b := by omega
  have m3 : mid + m ≤ 2000 := by omega
  clear h hN hc hv hT h1 h2 hx ih hp hmid
  unfold cmpV
  go_enter Try.func77, Try.ntmps77
  go_upto_region 27 with fail
  go_cut [140] (fun s wx => s = .bool (decide (mid < m)) ∧ w = wx)
  case first =>
    go_wp2_with fail
    go_meet
    exact ⟨by simp, rfl⟩
  case rest =>
  obtain ⟨rfl, rfl⟩ := hcut
  go_upto_if 140 with fail
  go_cut [20, 21] (fun s t wx => ∃ s0 r0 : Nat, s = .int .i64 s0 ∧ t = .int .i64 r0 ∧ w = wx ∧ Hid (SrchS a s0 r0 m mid p b))
  case first =>
    by_cases hmm : mid < m
    · obtain ⟨s0, hs0⟩ : ∃ s0 : Nat, s0 + b = mid + m := ⟨mid + m - b, by have := HMID.out; omega⟩
      have es : (mid : Int) + (m : Int) - (b : Int) = (s0 : Int) := by omega
      have HSR := Lib.hid (show SrchS a s0 mid m mid p b from ⟨by have := HMID.out; omega, by have := HMID.out; omega, by omega, by omega, fun q q1 q2 => by have := HP.out; have := HMID.out; omega, .inr hs0.symm, .inr rfl, by omega⟩)
      clear hs0
      go_wp2
      go_meet
      exact ⟨s0, mid, rfl, rfl, rfl, HSR⟩
    · have HSR := Lib.hid (show SrchS a a m m mid p b from ⟨by omega, by omega, by omega, by omega, fun q q1 q2 => by have := HP.out; have := HMID.out; omega, .inl rfl, .inl rfl, by have := HMID.out; omega⟩)
      go_wp2
      go_meet
      exact ⟨a, m, rfl, rfl, rfl, HSR⟩
  case rest =>
    obtain ⟨s0, r0, rfl, rfl, rfl, HSR⟩ := hcut
    go_wp2
    go_loopw [20, 21, 23] (fun s t _ wr => ∃ i j : Nat, s = .int .i64 i ∧ t = .int .i64 j ∧ s0 ≤ i ∧ i ≤ j ∧ j ≤ r0 ∧ RowG wr B n g ∧ Below N w wr ∧ Hid ((∀ q, s0 ≤ q → q < i → T (g q) (g (p - q)) = true) ∧ (∀ q, j ≤ q → q < r0 → T (g (p - q)) (g q) = true))) (fun s t _ _ => (intOf t).toNat - (intOf s).toNat)
    case atStart => exact ⟨s0, r0, rfl, rfl, Nat.le_refl _, HSR.out.all.2.1, Nat.le_refl _, H.out, Below.refl _ _, Lib.hid ⟨fun q h1 h2 => by omega, fun q h1 h2 => by omega⟩⟩
    case round =>
      clear e1 e2 em
      obtain ⟨i, j, rfl, rfl, hsi, hij, hjr, hf, hbl, HI⟩ := hrel
      have HF := Lib.hid hf
      have HB := Lib.hid hbl
      clear hf hbl
      by_cases hlt : i < j
      · as_aux_lemma =>
        obtain ⟨q, hq⟩ : ∃ q : Nat, q = (i + j) / 2 := ⟨_, rfl⟩
        have eq : ((i : Int) + (j : Int)) / 2 = (q : Int) := by omega
        obtain ⟨hy1, hy2, hy3⟩ := HSR.out.all.2.2.2.2.1 q (by omega) (by omega)
        have hqm : q < m := by have := HSR.out.all.2.2.1; omega
        have haq : a ≤ q := by have := HSR.out.all.1; omega
        obtain ⟨y, hy⟩ : ∃ y : Nat, y = p - q := ⟨_, rfl⟩
        have ey : (p : Int) - (q : Int) = (y : Int) := by omega
        rw [← hy] at hy1 hy2
        have wy : IntKind.i64.wrap (y : Int) = (y : Int) := by rw [IntKind.wrap_i64]; omega
        have hqn : q < n := by omega
        have hyn : y < n := by omega
        have hqi : i ≤ q := by omega
        have hqj : q < j := by omega
        have HY := Lib.hid hy
        clear hy hq
        have cq := HF.out.at_ hqn
        have cy := HF.out.at_ hyn
        have HXQ := Lib.hid (HX.out q y haq hqm hy1 hy2)
        have HCJ := Lib.hid (HC.out wr.drew HB.out.drew (g y) (g q) (HV.out y hyn) (HV.out q hqn))
        cases hu : U (g y) (g q)
        case' false =>
          have HNX := Lib.hid (show ∀ k, s0 ≤ k → k < q + 1 → T (g k) (g (p - k)) = true from fun k k1 k2 => by
            have h0 : T (g q) (g y) = true := no_less HT.out HXQ.out.2 (by rw [← HXQ.out.1]; exact hu)
            by_cases kq : k = q
            · rw [kq, ← HY.out]; exact h0
            · have := HSR.out.all
              have hy0 := HY.out
              have hk := HSR.out.all.2.2.2.2.1 k k1 (by omega)
              exact HT.out.trans _ _ _ (HT.out.trans _ _ _ (H1.out k q (by omega) (by omega) hqm) h0) (H2.out y (p - k) hy1 (by omega) hk.2.1))
        case' true =>
          have HNX := Lib.hid (show ∀ k, q ≤ k → k < r0 → T (g (p - k)) (g k) = true from fun k k1 k2 => by
            have h0 : T (g y) (g q) = true := by rw [← HXQ.out.1]; exact hu
            by_cases kq : k = q
            · rw [kq, ← HY.out]; exact h0
            · have := HSR.out.all
              have hy0 := HY.out
              have hk := HSR.out.all.2.2.2.2.1 k (by omega) k2
              exact HT.out.trans _ _ _ (HT.out.trans _ _ _ (H2.out (p - k) y hk.1 (by omega) hy2) h0) (H1.out q k haq (by omega) (by omega)))
        all_goals
          rw [hu] at HCJ
          clear hu HXQ
          obtain ⟨u, hxu⟩ : ∃ u, u = g q := ⟨_, rfl⟩
          obtain ⟨v, hxv⟩ : ∃ v, v = g y := ⟨_, rfl⟩
          rw [← hxu] at cq HCJ
          rw [← hxv] at cy HCJ
          clear hxu hxv
          go_upto_region 35 with fail
          go_region_held3 (fun w' => w'.cell? ⟨B, q, none⟩ = some (.int .i64 u) ∧ w'.cell? ⟨B, y, none⟩ = some (.int .i64 v)) (go_keep)
            ((go_at_call 50
              (with_reducible refine HCJ.out.mono ?_)
              rintro e w3 ⟨z, rfl, hz, hb3⟩
              have hb3 : Below wr.heap.size wr w3 := undrew hb3
              have HB3 := Lib.hid (HB.out.trans (hb3.mono (by have := HF.out.1; have := HN.out; omega)))
              have HF3 := Lib.hid (HF.out.below hb3)
              have cq := (hb3.cell (p := ⟨B, q, none⟩) HF.out.1).trans cq
              have cy := (hb3.cell (p := ⟨B, y, none⟩) HF.out.1).trans cy
              clear hb3))
          clear HCJ cq cy HF HB
        · go_wp2
          go_roundw
          case rel => exact ⟨i, q, rfl, rfl, hsi, hqi, by omega, HF3.out, HB3.out, Lib.hid ⟨HI.out.1, HNX.out⟩⟩
          case measure => simp [intOf]; omega
        · go_wp2
          go_roundw
          case rel => exact ⟨q + 1, j, by go_num, rfl, by omega, by omega, hjr, HF3.out, HB3.out, Lib.hid ⟨HNX.out, HI.out.2⟩⟩
          case measure => simp [intOf]; omega
      · obtain rfl : j = i := by omega
        obtain ⟨t1, t2, t3, t4, t5, t6, t7, t8⟩ := HSR.out.all
        obtain ⟨o, ho⟩ : ∃ o : Nat, j + o = mid + m := ⟨mid + m - j, by omega⟩
        have eo : (mid : Int) + (m : Int) - (j : Int) = (o : Int) := by omega
        have wo : IntKind.i64.wrap (o : Int) = (o : Int) := by rw [IntKind.wrap_i64]; omega
        have haj : a ≤ j := by omega
        have hjm : j ≤ m := by omega
        have hjd : j ≤ mid := by omega
        have hmo : m ≤ o := by omega
        have hob : o ≤ b := by omega
        have hdo : mid ≤ o := by omega
        have hds : mid - a ≤ d := by omega
        have hde : b - mid ≤ d := by omega
        obtain ⟨so1, so2⟩ := search_ok HT.out H1.out H2.out HP.out ho t1 hsi hjr t3 hmo hob t6 t7 HI.out.1 HI.out.2
        have HHV := Lib.hid (halve_rot HT.out H1.out H2.out haj hjm hmo hob ho.symm so1 so2)
        have HCR := Lib.hid (cross_rot HX.out haj hjm hmo hob ho.symm)
        have HMX := Lib.hid (show Mix a b g (rotF g j m o) from (mix_rot g hjm hmo).wide haj hob)
        have HVX := Lib.hid (HMX.out.vin HV.out hb)
        have HRT := Lib.hid (fun (h1 : j < m) (h2 : m < o) (v : Value) => rotate_any (c := c) HF.out HN.out hn h1 h2 (show o ≤ n by omega) v)
        have HNO := Lib.hid (show ¬ (j < m ∧ m < o) → rotF g j m o = g from fun hh => by
          by_cases h1 : j < m
          · obtain rfl : m = o := by omega
            exact rot_none g j m
          · obtain rfl : j = m := by omega
            exact rot_none' g j o)
        clear t1 t2 t3 t4 t5 t6 t7 t8 so1 so2 HI HSR ho
        go_upto_region 39 with fail
        go_cut [185] (fun s wx => s = .bool (decide (j < m) && decide (m < o)) ∧ wr = wx)
        case first =>
          as_aux_lemma =>
          by_cases c1 : j < m
          · by_cases c2 : m < o
            all_goals
              go_wp2_with fail
              go_meet
              exact ⟨by simp [c1, c2], rfl⟩
          · go_wp2_with fail
            go_meet
            exact ⟨by simp [c1], rfl⟩
        case rest =>
          obtain ⟨rfl, rfl⟩ := hcut
          go_upto_if 185 with fail
          go_cut [191] (fun _ wx => RowG wx B n (rotF g j m o) ∧ Below N w wx)
          case first =>
            as_aux_lemma =>
            by_cases c1 : j < m
            · by_cases c2 : m < o
              · go_wp2_with fail
                refine (HRT.out c1 c2 _).mono ?_
                rintro e w2 ⟨rfl, hf2, hb2⟩
                have HF2 := Lib.hid hf2
                have HB2 := Lib.hid (HB.out.trans hb2)
                clear hf2 hb2
                go_wp2
                go_meet
                exact ⟨HF2.out, HB2.out⟩
              · go_wp2
                go_meet
                exact ⟨by rw [HNO.out (fun h => c2 h.2)]; exact HF.out, HB.out⟩
            · go_wp2
              go_meet
              exact ⟨by rw [HNO.out (fun h => c1 h.1)]; exact HF.out, HB.out⟩
          case rest =>
            clear HRT HNO HF HB
            obtain ⟨hf2, hb2⟩ := hcut
            have HF2 := Lib.hid hf2
            have HB2 := Lib.hid hb2
            have HM1 := Lib.hid (fun (h1 : a < j) (h2 : j < mid) => IH.out.go a j mid h1 h2 (by omega) hds _ _ HF2.out HVX.out (HC.out.keep HB2.out) HHV.out.r1 HHV.out.r2 HCR.out.1)
            clear hf2 hb2
            go_upto_region 41 with fail
            go_cut [199] (fun s wx => s = .bool (decide (a < j) && decide (j < mid)) ∧ RowG wx B n (rotF g j m o) ∧ Below N w wx)
            case first =>
              as_aux_lemma =>
              by_cases c1 : a < j
              · by_cases c2 : j < mid
                all_goals
                  go_wp2_with fail
                  go_meet
                  exact ⟨by simp [c1, c2], HF2.out, HB2.out⟩
              · go_wp2_with fail
                go_meet
                exact ⟨by simp [c1], HF2.out, HB2.out⟩
            case rest =>
              clear HM1 HF2 HB2
              obtain ⟨rfl, hf2, hb2⟩ := hcut
              have HF2 := Lib.hid hf2
              have HB2 := Lib.hid hb2
              have HM1 := Lib.hid (fun (h1 : a < j) (h2 : j < mid) => IH.out.go a j mid h1 h2 (by omega) hds _ _ HF2.out HVX.out (HC.out.keep HB2.out) HHV.out.r1 HHV.out.r2 HCR.out.1)
              clear hf2 hb2
              go_upto_if 199 with fail
              go_cut [205] (fun _ wx => ∃ g2, RowG wx B n g2 ∧ Below N w wx ∧ Hid (Mix a mid (rotF g j m o) g2 ∧ Rise T g2 a mid))
              case first =>
                as_aux_lemma =>
                by_cases c1 : a < j
                · by_cases c2 : j < mid
                  · go_wp2_with fail
                    refine (HM1.out c1 c2).mono ?_
                    rintro e w3 ⟨g2, ⟨rfl, hf3, hb3⟩, hm3, hr3⟩
                    have HF3 := Lib.hid hf3
                    have HB3 := Lib.hid (HB2.out.trans hb3)
                    have HR3 := Lib.hid (And.intro hm3 hr3)
                    clear hf3 hb3 hm3 hr3
                    go_wp2
                    go_meet
                    exact ⟨g2, HF3.out, HB3.out, HR3⟩
                  · obtain rfl : j = mid := by omega
                    go_wp2
                    go_meet
                    exact ⟨_, HF2.out, HB2.out, Lib.hid ⟨Mix.refl _ _ _, HHV.out.r1⟩⟩
                · obtain rfl : j = a := by omega
                  go_wp2
                  go_meet
                  exact ⟨_, HF2.out, HB2.out, Lib.hid ⟨Mix.refl _ _ _, HHV.out.r2⟩⟩
              case rest =>
                as_aux_lemma =>
                clear HM1 HF2 HB2
                obtain ⟨g2, hf3, hb3, HR3⟩ := hcut
                have HF3 := Lib.hid hf3
                have HB3 := Lib.hid hb3
                have HE := Lib.hid (fun (k : Nat) (k1 : mid ≤ k) (k2 : k < b) => HR3.out.1.out k (.inr k1))
                have HM2 := Lib.hid (fun (h1 : mid < o) (h2 : o < b) => IH.out.go mid o b h1 h2 hb hde _ _ HF3.out (HR3.out.1.vin HVX.out (by omega)) (HC.out.keep HB3.out) (HHV.out.r3.same fun k k1 k2 => HE.out k k1 (by omega)) (HHV.out.r4.same fun k k1 k2 => HE.out k (by omega) k2) (HCR.out.2.same HE.out))
                clear hf3 hb3
                by_cases c1 : mid < o
                · by_cases c2 : o < b
                  · go_wp2_with fail
                    refine (HM2.out c1 c2).mono ?_
                    rintro e w4 ⟨g3, ⟨rfl, hf4, hb4⟩, hm4, hr4⟩
                    have hz := halves_rise HT.out HHV.out (by omega) (by omega) HR3.out.1 HR3.out.2 hm4 hr4
                    have HF4 := Lib.hid hf4
                    have HB4 := Lib.hid (HB3.out.trans hb4)
                    have HZ := Lib.hid hz
                    clear hf4 hb4 hm4 hr4 hz
                    go_wp2
                    go_end0
                    exact ⟨g3, ⟨rfl, HF4.out, HB4.out⟩, HMX.out.trans HZ.out.1, HZ.out.2⟩
                  · obtain rfl : o = b := by omega
                    have hz := halves_rise HT.out HHV.out (by omega) (by omega) HR3.out.1 HR3.out.2 (Mix.refl mid o g2) (HHV.out.r3.same fun k k1 k2 => HE.out k k1 (by omega))
                    have HZ := Lib.hid hz
                    clear hz
                    go_wp2
                    go_end0
                    exact ⟨g2, ⟨rfl, HF3.out, HB3.out⟩, HMX.out.trans HZ.out.1, HZ.out.2⟩
                · obtain rfl : o = mid := by omega
                  have hz := halves_rise HT.out HHV.out (by omega) (by omega) HR3.out.1 HR3.out.2 (Mix.refl o b g2) (HHV.out.r4.same fun k k1 k2 => HE.out k k1 (by omega))
                  have HZ := Lib.hid hz
                  clear hz
                  go_wp2
                  go_end0
                  exact ⟨g2, ⟨rfl, HF3.out, HB3.out⟩, HMX.out.trans HZ.out.1, HZ.out.2⟩

theorem smerge_all {T U : Nat → Nat → Bool} (hT : Sto T) {N B n c lb : Nat} (hN : N ≤ B) (hn : n ≤ 1000) : ∀ d, MergeH T U N B n c lb d := by
  intro d
  induction d with
  | zero => exact ⟨fun a m b h1 h2 h3 h4 => by omega⟩
  | succ d ih =>
    refine ⟨fun a m b h1 h2 h3 h4 => ?_⟩
    by_cases c1 : m = a + 1
    · exact smerge_one hT hN hn c1 h2 h3
    · by_cases c2 : b = m + 1
      · exact smerge_last hT hN hn (by omega) c2 h3
      · exact smerge_gen hT hN hn (by omega) (by omega) h3 h4 ih
theorem smerge_any {T U : Nat → Nat → Bool} (hT : Sto T) {N B n c lb a m b : Nat} (hN : N ≤ B) (hn : n ≤ 1000) (h1 : a < m) (h2 : m < b) (hb : b ≤ n) : MergeC T U N B n c lb a m b := (smerge_all hT hN hn (b - a)).go a m b h1 h2 hb (Nat.le_refl _)
end Go.Proofs.Ythcchaglloggjaa
