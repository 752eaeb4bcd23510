/- The walk of PruneAll. No condition. -/
import Derived.Test.YthbmchkbebneiaaG14
namespace Go.Proofs.Ythbmchkbebneiaa
open Go.RowKit
set_option linter.unusedVariables false
set_option maxRecDepth 100000

/-- A key of one byte. -/
def kb (r : Nat) : Ky := [UInt8.ofNat r]
theorem mem_putP {P : List Pr} {k v : Ky} {p : Pr} (h : p ∈ putP P k v) : p ∈ P ∨ p = (k, v) := by
  unfold putP at h
  split at h
  · split at h
    · exact mem_put h
    · split at h
      · exact mem_put h
      · exact .inl h
  · exact .inl h
theorem same_self (l : Ky) : sameB l l = true := by
  unfold sameB
  simp
theorem has_del_self (P : List Pr) (k : Ky) : hasB (delL P k) k = false := by
  unfold hasB delL
  rw [List.any_eq_false]
  intro p hp
  have := (List.mem_filter.1 hp).2
  simpa using this
theorem len_del_one {P : List Pr} (hs : Srt P) {k : Ky} (h : hasB P k = false) : (delL P k).length = P.length := by rw [del_not hs h]
/-- What is there while all is deleted. -/
def Left (step i : Nat) (P : List Pr) : Prop := ∀ p ∈ P, ∃ r, r < 251 ∧ p.1 = kb r ∧ ∀ j, j < i → j * step % 251 ≠ r
theorem Left.del {step i : Nat} {P : List Pr} (h : Left step i P) : Left step (i + 1) (delL P (kb (i * step % 251))) := fun p hp => by
  obtain ⟨r, h1, h2, h3⟩ := h p (mem_del hp)
  refine ⟨r, h1, h2, fun j hj e => ?_⟩
  rcases Nat.lt_or_ge j i with hl | hl
  · exact h3 j hl e
  · obtain rfl : j = i := by omega
    have := (List.mem_filter.1 hp).2
    rw [h2, e, same_self] at this
    simp at this
theorem inverse : ∀ s, s < 251 → 1 ≤ s → (s ^ 249 % 251) * s % 251 = 1 := by decide +kernel
theorem Left.none {step : Nat} {P : List Pr} (h1 : 1 ≤ step) (h2 : step ≤ 250) (h : Left step 251 P) : P = [] := by
  cases P with
  | nil => rfl
  | cons p P =>
    obtain ⟨r, q1, q2, q3⟩ := h p (by simp)
    refine absurd ?_ (q3 (r * (step ^ 249 % 251) % 251) (Nat.mod_lt _ (by omega)))
    have hi := inverse step (by omega) h1
    generalize step ^ 249 % 251 = s at hi
    rw [Nat.mod_mul_mod, Nat.mul_assoc, ← Nat.mul_mod_mod, hi, Nat.mul_one]
    exact Nat.mod_eq_of_lt q1

theorem TrB.used {B : Nat} {w : World} {tb m : Nat} (h : TrB B w tb m []) : ∃ g, w.cell? ⟨tb, 0, none⟩ = some (.pointer (some ⟨g, 0, none⟩)) ∧ Calls Try.prog 24 #[.pointer (some ⟨g, 0, none⟩)] w fun e w' => e = .returned (.int .i64 1) ∧ Below w.heap.size w w' := by
  obtain ⟨h0, D, ⟨g, L, F, root, d, t, h1, h2, h3, h4⟩, h5⟩ := h
  obtain rfl := h2.low h3
  have hall := h2.all
  have h6 : (nums 0 t).length = 1 := rfl
  exact ⟨g, h1.cells.1, (used_any h1.2.1).mono fun e w' ⟨e1, e2⟩ => ⟨by rw [e1]; exact ret_int (by omega), e2.below _⟩⟩
theorem pairsb {B : Nat} {w : World} {tb m : Nat} {P : List Pr} (h : TrB B w tb m P) : Calls Try.prog 17 #[.pointer (some ⟨tb, 0, none⟩)] w fun e w' => ∃ A n c, e = .returned (.slice A n c) ∧ Prs w' A n c P ∧ Below w.heap.size w w' := by
  obtain ⟨h0, D, ⟨g, L, F, root, d, t, h1, h2, rfl, h4⟩, h5⟩ := h
  exact pairs_any h1 h2 h4

theorem all_let {w : World} (m n s : Int) (hl : n < 0 ∨ 251 < n ∨ s < 1 ∨ 250 < s) :
    Calls Try.prog 5 #[.int .i64 m, .int .i64 n, .int .i64 s] w fun e w' => e = .returned (.bool true) ∧ Below w.heap.size w w' := by
  have hl2 : n < 0 ∨ (¬ n < 0 ∧ 251 < n) ∨ (¬ n < 0 ∧ ¬ 251 < n ∧ s < 1) ∨ (¬ n < 0 ∧ ¬ 251 < n ∧ ¬ s < 1 ∧ 250 < s) := by omega
  have HUP := up_any w
  rcases hl2 with h1 | ⟨h1, h2⟩ | ⟨h1, h2, h3⟩ | ⟨h1, h2, h3, h4⟩
  case' inl =>
    have g1 : decide (n < 0) = true := by simp; omega
  case' inr.inl =>
    have g1 : decide (n < 0) = false := by simp; omega
    have g2 : decide (251 < n) = true := by simp; omega
  case' inr.inr.inl =>
    have g1 : decide (n < 0) = false := by simp; omega
    have g2 : decide (251 < n) = false := by simp; omega
    have g3 : decide (s < 1) = true := by simp; omega
  case' inr.inr.inr =>
    have g1 : decide (n < 0) = false := by simp; omega
    have g2 : decide (251 < n) = false := by simp; omega
    have g3 : decide (s < 1) = false := by simp; omega
    have g4 : decide (250 < s) = true := by simp; omega
  all_goals
    clear hl
    go_enter Try.func5, Try.ntmps5
    go_wp2_with fail
    refine HUP.mono ?_
    rintro e w1 ⟨rfl, hb1⟩
    have HB := Lib.hid hb1
    clear hb1 HUP
    go_wp2
    go_ret
    exact ⟨rfl, HB.out⟩

set_option maxHeartbeats 8000000 in
theorem all_in {w : World} (m : Int) {n s : Nat} (hn : n ≤ 251) (hs : 1 ≤ s) (hs2 : s ≤ 250) :
    Calls Try.prog 5 #[.int .i64 m, .int .i64 n, .int .i64 s] w fun e w' => e = .returned (.bool true) ∧ Below w.heap.size w w' := by
  have g1 : decide ((n : Int) < 0) = false := by simp
  have g2 : decide (251 < (n : Int)) = false := by simp; omega
  have g2b : decide (251 < n) = false := by simp; omega
  have g3 : decide ((s : Int) < 1) = false := by simp; omega
  have g3b : decide (s < 1) = false := by simp; omega
  have g4 : decide (250 < (s : Int)) = false := by simp; omega
  have g4b : decide (250 < s) = false := by simp; omega
  have g3c : ¬ (s = 0) := by omega
  have HS := Lib.hid (And.intro hs hs2)
  have HUP := up_any w
  by_cases hm : 3 ≤ m ∧ m ≤ 16
  case neg =>
    have HMN := Lib.hid (fun w => made_no (w := w) (A := none) (n := 0) (c := 0) m hm)
    clear hm
    go_enter Try.func5, Try.ntmps5
    go_wp2_with fail
    refine HUP.mono ?_
    rintro e w1 ⟨rfl, hb1⟩
    have HB := Lib.hid hb1
    clear hb1 HUP
    go_wp2_with fail
    refine (HMN.out _).mono ?_
    rintro e w2 ⟨rfl, rfl⟩
    go_wp2
    go_ret
    exact ⟨rfl, HB.out⟩
  case pos =>
    obtain ⟨m', rfl⟩ : ∃ m' : Nat, m = (m' : Int) := ⟨m.toNat, by omega⟩
    have HMY := Lib.hid (fun w => made_yes (w := w) (prs_nil w) (m := m') (by omega) (by omega))
    have hml : madeL [] = [] := rfl
    rw [hml] at HMY
    clear hm hml
    go_enter Try.func5, Try.ntmps5
    go_wp2_with fail
    refine HUP.mono ?_
    rintro e w1 ⟨rfl, hb1⟩
    have HB := Lib.hid hb1
    clear hb1 HUP
    go_wp2_with fail
    refine (HMY.out _).mono ?_
    rintro e w2 ⟨tb, rfl, ht, hb2⟩
    have HT := Lib.hid (ht.mono (B' := w.heap.size) HB.out.size)
    have HB2 := Lib.hid (HB.out.trans (hb2.mono HB.out.size))
    clear ht hb2 HMY HB g1 g2 g2b g3 g3b g4 g4b
    go_wp2_with fail
    go_loopw [9] (fun x wr => ∃ (i : Nat) (P : List Pr), x = .int .i64 (i : Nat) ∧ i ≤ n ∧ (∀ p ∈ P, ∃ r, r < 251 ∧ p.1 = kb r) ∧ TrB w.heap.size wr tb m' P ∧ Below w.heap.size w wr) (fun x _ => n + 1 - (intOf x).toNat)
    case atStart => exact ⟨0, [], rfl, Nat.zero_le _, (fun p hp => by cases hp), HT.out, HB2.out⟩
    case round =>
      obtain ⟨i, P, rfl, hi, hP, ht, hb⟩ := hrel
      have HTr := Lib.hid ht
      have HBr := Lib.hid hb
      have HPr := Lib.hid hP
      clear HT HB2 ht hb hP
      by_cases hin : i < n
      case pos =>
        have hinI : (i : Int) < (n : Int) := by omega
        have q1 : IntKind.u8.wrap (i : Int) = (i : Int) := IntWalk.u8_in _ (by omega)
        have hsz : w.heap.size ≤ wr.heap.size := HBr.out.size
        have HPt := Lib.hid (putb (w := wr.alloc (.cells #[.int .u8 (i : Int)] 5)) (HTr.out.below ((Below.refl _ _).alloc (Nat.le_refl _) _)) (by simp; omega) 1 0 (byt_lit wr (UInt8.ofNat i) (i : Int) (by simp; omega) (0, 0)) (byt_none _) (by omega) (by omega))
        have HBA := Lib.hid (HBr.out.alloc hsz (.cells #[.int .u8 (i : Int)] 5))
        go_wp2_with fail
        refine HPt.out.mono ?_
        rintro e w3 ⟨rfl, ht3, hb3⟩
        have HT3 := Lib.hid ht3
        have HB3 := Lib.hid (HBA.out.trans hb3)
        clear HPt ht3 hb3 HBA
        go_wp2
        go_roundw
        case rel =>
          refine ⟨i + 1, _, rfl, by omega, fun p hp => ?_, HT3.out, HB3.out⟩
          rcases mem_putP hp with hp | rfl
          · exact HPr.out p hp
          · exact ⟨i, by omega, rfl⟩
        case measure => simp [intOf]; omega
      case neg =>
        have hinI : ¬ ((i : Int) < (n : Int)) := by omega
        obtain ⟨cm, hcl⟩ := HTr.out.many
        go_wp2_with fail
        clear cm hcl hin hinI g3c
        go_loopw [10, 11] (fun l x wr => ∃ (i pl : Nat) (P : List Pr), x = .int .i64 (i : Nat) ∧ l = .int .i64 (pl : Nat) ∧ pl = P.length ∧ i ≤ 251 ∧ Left s i P ∧ TrB w.heap.size wr tb m' P ∧ Below w.heap.size w wr) (fun _ x _ => 252 - (intOf x).toNat)
        case atStart => exact ⟨0, _, P, rfl, rfl, rfl, by omega, fun p hp => (HPr.out p hp).imp fun r hr => ⟨hr.1, hr.2, fun j hj => absurd hj (by omega)⟩, HTr.out, HBr.out⟩
        case round =>
          obtain ⟨i, pl, P, rfl, rfl, hpl, hi, hP, ht, hb⟩ := hrel
          have HTq := Lib.hid ht
          have HBq := Lib.hid hb
          have HPq := Lib.hid hP
          clear HTr HBr HPr ht hb hP
          by_cases hin : i < 251
          case pos =>
            have hinI : (i : Int) < 251 := by omega
            have hm1 : i * s ≤ 62750 := Nat.mul_le_mul (show i ≤ 251 by omega) HS.out.2
            have hcast : (i : Int) * (s : Int) = ((i * s : Nat) : Int) := by simp
            have qm : wrap64 ((i : Int) * (s : Int)) = (i : Int) * (s : Int) := by rw [hcast]; exact IntWalk.wrap64_in _ (by omega)
            have h0 : (0 : Int) ≤ (i : Int) * (s : Int) := by rw [hcast]; omega
            obtain ⟨r, hr⟩ : ∃ r, r = i * s % 251 := ⟨_, rfl⟩
            have hrI : (i : Int) * (s : Int) % 251 = (r : Int) := by rw [hcast, hr]; omega
            have q1 : IntKind.u8.wrap (r : Int) = (r : Int) := IntWalk.u8_in _ (by omega)
            have hr2 : r < 251 := by omega
            have HR := Lib.hid hr
            have hsz : w.heap.size ≤ wr.heap.size := HBq.out.size
            obtain ⟨bh, hbh⟩ : ∃ bh, bh = hasB P (kb r) := ⟨_, rfl⟩
            have HD := Lib.hid (show Calls Try.prog 13 _ (wr.alloc (.cells #[.int .u8 (r : Int)] 5)) (fun e w' => e = .returned (.tuple #[.bool bh, .nilIface]) ∧ TrB w.heap.size w' tb m' (delL P (kb r)) ∧ Below w.heap.size (wr.alloc (.cells #[.int .u8 (r : Int)] 5)) w') from hbh ▸ delb (w := wr.alloc (.cells #[.int .u8 (r : Int)] 5)) (HTq.out.below ((Below.refl _ _).alloc (Nat.le_refl _) _)) (by simp; omega) 1 (byt_lit wr (UInt8.ofNat r) (r : Int) (by simp; omega) (0, 0)))
            have HBA := Lib.hid (HBq.out.alloc hsz (.cells #[.int .u8 (r : Int)] 5))
            have HMU := Lib.hid (And.intro qm (And.intro h0 (And.intro hrI (And.intro q1 hr2))))
            have hfit := HTq.out.fit.1
            have hlen2 : pl = (delL P (kb r)).length + (if bh then 1 else 0) := by
              rw [hbh]
              cases hh : hasB P (kb r)
              · rw [len_del_one hfit hh, hpl]; rfl
              · rw [if_pos rfl, len_del_has hfit hh, hpl]
            obtain ⟨nl, hnl⟩ : ∃ nl, nl = (delL P (kb r)).length := ⟨_, rfl⟩
            rw [← hnl] at hlen2
            have HNL := Lib.hid hnl
            have hple : pl ≤ 1000 := by rw [hpl]; exact HTq.out.few
            have HP2 := Lib.hid (show Left s (i + 1) (delL P (kb r)) by rw [HR.out]; exact HPq.out.del)
            have hd10 : ((i : Int) % 10 == 0) = true ∨ ((i : Int) % 10 == 0) = false := by cases ((i : Int) % 10 == 0) <;> simp
            clear hr hcast hm1 hfit hnl
            go_wp2_with fail
            refine HD.out.mono ?_
            rintro e w3 ⟨rfl, ht3, hb3⟩
            have HT3 := Lib.hid (show TrB w.heap.size w3 tb m' (delL P (kb r)) from ht3)
            have HB3 := Lib.hid (HBA.out.trans hb3)
            have hsz3 := HB3.out.size
            have HG := Lib.hid (getb (w := w3.alloc (.cells #[.int .u8 (r : Int)] 5)) (HT3.out.below ((Below.refl _ _).alloc (Nat.le_refl _) _)) 1 (byt_lit w3 (UInt8.ofNat r) (r : Int) (by simp; omega) (0, 0)))
            clear HD HBA ht3 hb3 hsz
            change Hid (Calls Try.prog _ _ _ (GetOut _ (delL P (kb r)) (kb r))) at HG
            clear hbh
            have hw0 : (bh = true ∧ pl = nl + 1) ∨ (bh = false ∧ pl = nl) := by
              cases bh
              · exact .inr ⟨rfl, by simpa using hlen2⟩
              · exact .inl ⟨rfl, by simpa using hlen2⟩
            clear hlen2 hpl
            rcases hw0 with ⟨rfl, rfl⟩ | ⟨rfl, rfl⟩
            case' inl =>
              have hw1 : wrap64 (nl : Int) = (nl : Int) := IntWalk.wrap64_in _ (by omega)
            all_goals
              obtain ⟨qm, h0, hrI, q1, hr2⟩ := HMU.out
              have HD10 := Lib.hid hd10
              have HSZ3 := Lib.hid hsz3
              clear hd10 hple hsz3
              go_wp2_with fail
              refine HG.out.mono ?_
              rintro e w4 ⟨A4, n4, c4, rfl, -, hb4⟩
              rw [has_del_self]
              have HT4 := Lib.hid (HT3.out.below (((Below.refl _ _).alloc (Nat.le_refl _) _).trans (hb4.mono (by simp))))
              have hsz3 := HSZ3.out
              have HB4 := Lib.hid ((HB3.out.alloc hsz3 (.cells #[.int .u8 (r : Int)] 5)).trans (hb4.mono (by simp; omega)))
              obtain ⟨cm, hcl⟩ := HT4.out.many
              rw [← HNL.out] at cm
              clear HG hb4 qm h0 hrI q1 hsz3
              rcases HD10.out with hd | hd
              · have HSN := Lib.hid (soundb HT4.out)
                go_wp2_with fail
                refine HSN.out.mono ?_
                rintro e w5 ⟨xb, rfl, hb5, -, hov⟩
                have HOV := Lib.hid hov
                have HB5 := Lib.hid (HB4.out.trans (hb5.mono HB4.out.size))
                have HT5 := Lib.hid (HT4.out.below hb5)
                clear HSN hb5 hov cm hcl
                go_wp2_with fail
                refine HOV.out.mono ?_
                rintro e w6 ⟨rfl, rfl⟩
                clear HOV hd
                go_wp2
                go_roundw
                case rel => exact ⟨i + 1, _, delL P (kb r), rfl, by first | rfl | rw [hw1], HNL.out, by omega, HP2.out, HT5.out, HB5.out⟩
                case measure => simp [intOf]; omega
              · go_wp2
                clear cm hcl hd
                go_roundw
                case rel => exact ⟨i + 1, _, delL P (kb r), rfl, by first | rfl | rw [hw1], HNL.out, by omega, HP2.out, HT4.out, HB4.out⟩
                case measure => simp [intOf]; omega
          case neg =>
            obtain rfl : i = 251 := by omega
            obtain rfl : P = [] := HPq.out.none HS.out.1 HS.out.2
            have hp0 : pl = 0 := hpl
            subst hp0
            have HH := Lib.hid (height0 HTq.out)
            have hinI : ¬ (((251 : Nat) : Int) < 251) := by omega
            clear hpl
            go_wp2_with fail
            refine HH.out.mono ?_
            rintro e w3 ⟨rfl, hb3⟩
            have HT3 := Lib.hid (HTq.out.below hb3)
            have HB3 := Lib.hid (HBq.out.trans (hb3.mono HBq.out.size))
            obtain ⟨g, cg, hug⟩ := HT3.out.used
            have HU := Lib.hid hug
            clear HH hb3 hug
            go_wp2_with fail
            refine HU.out.mono ?_
            rintro e w4 ⟨rfl, hb4⟩
            have HT4 := Lib.hid (HT3.out.below hb4)
            have HB4 := Lib.hid (HB3.out.trans (hb4.mono HB3.out.size))
            have HPP := Lib.hid (pairsb HT4.out)
            clear HU hb4 cg
            go_wp2_with fail
            refine HPP.out.mono ?_
            rintro e w5 ⟨A5, n5, c5, rfl, hp5, hb5⟩
            obtain rfl : n5 = 0 := hp5.1.symm
            have HB5 := Lib.hid (HB4.out.trans (hb5.mono HB4.out.size))
            clear HPP hp5 hb5
            go_wp2
            go_ret
            exact ⟨rfl, HB5.out⟩

theorem all_any {w : World} (m n s : Int) : Calls Try.prog 5 #[.int .i64 m, .int .i64 n, .int .i64 s] w fun e w' => e = .returned (.bool true) ∧ Below w.heap.size w w' := by
  by_cases hl : n < 0 ∨ 251 < n ∨ s < 1 ∨ 250 < s
  · exact all_let m n s hl
  · obtain ⟨n', rfl⟩ : ∃ n' : Nat, n = (n' : Int) := ⟨n.toNat, by omega⟩
    obtain ⟨s', rfl⟩ : ∃ s' : Nat, s = (s' : Int) := ⟨s.toNat, by omega⟩
    exact all_in m (by omega) (by omega) (by omega)
end Go.Proofs.Ythbmchkbebneiaa
