/- Contracts of what only reads pairs: the document's own Few, Is, Find and Pairs, and row.Is. Condition: what came in can be read (Find, Is: keys of at most 1000 bytes; Find: a row). -/
import Derived.Test.YtpicdokkdpbpdaaRf
namespace Go.Proofs.Ytpicdokkdpbpdaa
open Go.RowKit
set_option linter.unusedVariables false

def shortB (p : Pr) : Bool := decide (p.1.length ≤ 100) && decide (p.2.length ≤ 100)
def fewB (L : List Pr) (m : Nat) : Bool := L.all shortB && decide (L.length ≤ m)

theorem all_gt {L : List Pr} {f : Pr → Bool} (h : ∀ j, j < L.length → f (gt L j) = true) : L.all f = true := by
  refine List.all_eq_true.2 fun p hp => ?_
  obtain ⟨j, hj, rfl⟩ := List.getElem_of_mem hp
  rw [← gt_eq hj]
  exact h j hj
theorem all_not {L : List Pr} {f : Pr → Bool} {j : Nat} (hj : j < L.length) (h : f (gt L j) = false) : L.all f = false := by
  refine List.all_eq_false.2 ⟨gt L j, gt_mem hj, by simp [h]⟩

set_option maxHeartbeats 1000000 in
theorem few_any {w : World} {A : Option Addr} {n c : Nat} {L : List Pr} (m : Nat) (h : Prs w A n c L) :
    Calls Try.prog 6 #[.slice A n c, .int .i64 m] w fun e w' => e = .returned (.bool (fewB L m)) ∧ w = w' := by
  have hn : n ≤ maxLen := Nat.le_trans h.2.1 h.2.2.1
  unfold maxLen at hn
  have H := Lib.hid h
  clear h
  go_enter Try.func6, Try.ntmps6
  go_wp2
  go_loop [5] (fun i => ∃ k : Nat, k ≤ n ∧ i = .int .i64 k ∧ Hid (∀ j, j < k → shortB (gt L j) = true)) (fun i => n - (intOf i).toNat)
  case atStart => exact ⟨0, Nat.zero_le _, rfl, Lib.hid (fun j hj => absurd hj (by omega))⟩
  case round =>
    obtain ⟨k, hk, rfl, HI⟩ := hrel
    by_cases hlt : k < n
    · obtain ⟨b, o, rfl, hbl, A1, n1, c1, B1, m1, d1, k0, k1, y1, y2⟩ := H.out.at_ hlt
      have HY := Lib.hid (And.intro y1.1 y2.1)
      clear y1 y2
      by_cases h1 : 100 < n1
      · have hz : fewB L m = false := by
          unfold fewB
          rw [all_not (j := k) (by rw [H.out.len]; exact hlt) (by unfold shortB; rw [HY.out.1]; simp; omega)]
          rfl
        have HZ := Lib.hid hz
        clear hz
        go_wp2
        go_ret
        exact ⟨ret_bool HZ.out.symm, rfl⟩
      · by_cases h2 : 100 < m1
        · have hz : fewB L m = false := by
            unfold fewB
            rw [all_not (j := k) (by rw [H.out.len]; exact hlt) (by unfold shortB; rw [HY.out.2]; simp; omega)]
            rfl
          have HZ := Lib.hid hz
          clear hz
          go_wp2
          go_ret
          exact ⟨ret_bool HZ.out.symm, rfl⟩
        · go_wp2
          go_round
          case rel => exact ⟨k + 1, by omega, by go_num, Lib.hid (fun j hj => by
            rcases Nat.lt_succ_iff_lt_or_eq.1 hj with hj | rfl
            · exact HI.out j hj
            · unfold shortB
              rw [HY.out.1, HY.out.2]
              simp
              omega)⟩
          case measure => simp [intOf]; omega
    · go_wp2
      go_ret
      refine ⟨ret_bool ?_, rfl⟩
      have hl := H.out.len
      unfold fewB
      rw [all_gt (fun j hj => HI.out j (by omega)), hl]
      rw [Bool.eq_iff_iff]
      simp

theorem is_not {L : List Pr} {j : Nat} (hj : j < L.length) (h : okAt L j = false) : isB L = false := by
  refine List.all_eq_false.2 ⟨j, List.mem_range.2 hj, by simp [h]⟩
theorem is_all {L : List Pr} (h : ∀ j, j < L.length → okAt L j = true) : isB L = true :=
  List.all_eq_true.2 fun j hj => h j (List.mem_range.1 hj)

/-- No key or value is long. -/
def Small (L : List Pr) : Prop := ∀ p ∈ L, p.1.length ≤ 1000 ∧ p.2.length ≤ 1000

theorem quiet_drawn {P : Program} {f : FuncId} {args : Array Value} {w : World} {n : Nat} {v : Value}
    (h : Calls P f args (w.drewN n) fun e w' => e = .returned v ∧ Drawn (w.drewN n) w') : Calls P f args (w.drewN n) fun e w'' => e = .returned v ∧ ∃ m, w'' = w.drewN m :=
  h.mono fun _ _ ⟨he, d, hm⟩ => ⟨he, n + d, by rw [hm, World.drewN_drewN]⟩
theorem quiet_left {P : Program} {f : FuncId} {args : Array Value} {w : World} {n : Nat} {v : Value}
    (h : Calls P f args (w.drewN n) fun e w' => e = .returned v ∧ w.drewN n = w') : Calls P f args (w.drewN n) fun e w'' => e = .returned v ∧ ∃ m, w'' = w.drewN m :=
  h.mono fun _ _ ⟨he, hm⟩ => ⟨he, n, hm.symm⟩

theorem Drawn.refl (w : World) : Drawn w w := ⟨0, rfl⟩
theorem Drawn.trans {w w1 w2 : World} (h : Drawn w w1) (h' : Drawn w1 w2) : Drawn w w2 := by
  obtain ⟨d, rfl⟩ := h
  obtain ⟨e, rfl⟩ := h'
  exact ⟨d + e, World.drewN_drewN _ _ _⟩
theorem Drawn.prs {w w' : World} {A : Option Addr} {n c : Nat} {L : List Pr} (h : Drawn w w') (hp : Prs w A n c L) : Prs w' A n c L := by
  obtain ⟨d, rfl⟩ := h
  exact hp

set_option maxHeartbeats 2000000 in
theorem rfind_any {w : World} {A C : Option Addr} {n c o : Nat} (q : Nat) {L : List Pr} {k : List UInt8} (h : Prs w A n c L) (h' : Byt w C o k) (hs : Srt L) (hm : Small L) (ho : o ≤ 1000) :
    Calls Try.prog 11 #[.slice A n c, .slice C o q] w fun e w' => e = .returned (.tuple #[.int .i64 (pos L k), .bool (hasB L k)]) ∧ Drawn w w' := by
  have hn : n ≤ maxLen := Nat.le_trans h.2.1 h.2.2.1
  unfold maxLen at hn
  have hmax : 1000 ≤ maxLen := by unfold maxLen; omega
  have HMX := Lib.hid hmax
  clear hmax
  have HL := Lib.hid h.len
  have hp : pos L k ≤ n := by rw [← h.len]; exact pos_le L k
  have H := Lib.hid h
  have H' := Lib.hid h'
  have HS := Lib.hid hs
  have HM := Lib.hid hm
  have HPE := Lib.hid (pos_end hs k)
  have HPS := Lib.hid (pos_same hs k)
  have HPL := Lib.hid (fun i (hi : i < L.length) => pos_lt hs k hi)
  clear h h' hs hm
  generalize pos L k = P at hp HPE HPS HPL
  go_enter Try.func11, Try.ntmps11
  go_wp2
  go_loopw [6, 7] (fun a i wr => ∃ j : Nat, j ≤ n ∧ i = .int .i64 j ∧ a = .int .i64 (min j P : Nat) ∧ Drawn w wr) (fun _ i _ => n - (intOf i).toNat)
  case atStart => exact ⟨0, Nat.zero_le _, rfl, by rw [Nat.zero_min]; rfl, Drawn.refl w⟩
  case round =>
    obtain ⟨j, hj, rfl, rfl, hd⟩ := hrel
    by_cases hlt : j < n
    · obtain ⟨b, oo, rfl, hbl, A1, n1, c1, B1, m1, d1, k0, k1, y1, y2⟩ := (hd.prs H.out).at_ hlt
      have hj' : j < L.length := by rw [HL.out]; exact hlt
      have hn1 : n1 ≤ maxLen := by
        have := (HM.out _ (gt_mem hj')).1
        rw [← y1.1]
        exact Nat.le_trans this HMX.out
      have HC := less_any c1 q y1 (hd.byt H'.out) hn1 (Nat.le_trans ho HMX.out)
      rw [HPL.out j hj'] at HC
      clear y1 y2 hn1 hj'
      by_cases hp' : j < P
      · have e1 : min j P = j := by omega
        have e2 : min (j + 1) P = j + 1 := by omega
        rw [e1]
        have E2 := Lib.hid e2
        rw [show decide (j < P) = true by simp [hp']] at HC
        clear e1 e2
        go_wp2_with fail
        refine HC.mono ?_
        rintro e w' ⟨rfl, hd'⟩
        go_wp2
        go_roundw
        case rel => exact ⟨j + 1, by omega, by go_num, by rw [E2.out]; go_num, hd.trans hd'⟩
        case measure => simp [intOf]; omega
      · have e1 : min j P = P := by omega
        have e2 : min (j + 1) P = P := by omega
        rw [e1]
        have E2 := Lib.hid e2
        rw [show decide (j < P) = false by simp [hp']] at HC
        clear e1 e2
        go_wp2_with fail
        refine HC.mono ?_
        rintro e w' ⟨rfl, hd'⟩
        go_wp2
        go_roundw
        case rel => exact ⟨j + 1, by omega, by go_num, by rw [E2.out], hd.trans hd'⟩
        case measure => simp [intOf]; omega
    · have e1 : min j P = P := by omega
      rw [e1]
      clear e1
      by_cases hpn : P = n
      · have hz := HPE.out (by rw [HL.out]; exact hpn)
        have HZ := Lib.hid hz
        subst hpn
        clear hz
        go_wp2
        go_ret2
        exact ⟨ret_two rfl HZ.out.symm, hd⟩
      · have hpl : P < n := by omega
        have hne : ((P : Int) == (n : Int)) = false := by simp; omega
        obtain ⟨b, oo, rfl, hbl, A1, n1, c1, B1, m1, d1, k0, k1, y1, y2⟩ := (hd.prs H.out).at_ hpl
        have HC := same_any c1 q y1 (hd.byt H'.out)
        rw [HPS.out (by rw [HL.out]; exact hpl)] at HC
        clear y1 y2 hpn
        go_wp2_with fail
        refine HC.mono ?_
        rintro e w' ⟨rfl, rfl⟩
        go_wp2
        go_ret2
        exact ⟨rfl, hd⟩
end Go.Proofs.Ytpicdokkdpbpdaa
