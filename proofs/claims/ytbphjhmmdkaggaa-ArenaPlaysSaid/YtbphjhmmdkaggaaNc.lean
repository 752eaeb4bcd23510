/- Contracts of what only looks at nodes: the law's as and few, the document's own Nodes. Condition: what came in can be read. -/
import Derived.Test.YtbphjhmmdkaggaaNb
namespace Go.Proofs.Ytbphjhmmdkaggaa
open Go.RowKit
set_option linter.unusedVariables false

/-- A node as a value. -/
abbrev ndV (h : Nh) (x : Nd) : Value := .agg #[.bool x.leaf, .slice h.A h.n h.c, .slice h.B h.m h.d, .slice h.K h.k h.e, .int .i64 x.next]

set_option maxHeartbeats 400000 in
theorem as_any (h : Nh) (x : Nd) (w : World) : Calls Try.prog 12 #[ndV h x] w fun e w' => e = .returned (ndV h x) ∧ Below w.heap.size w w' := by
  go_enter Try.func12, Try.ntmps12
  go_wp2
  refine bodyPost_ret (v := ndV h x) (by simp [results, Try.results12, go_sem]) rfl ⟨rfl, ?_⟩
  exact ((Below.refl _ w).alloc (Nat.le_refl _) _).alloc (by simp) _

def FewPost (w : World) (x : Nd) (e : Ending) (w' : World) : Prop := ∃ b, e = .returned (.bool b) ∧ (b = true → SmallN x) ∧ Below w.heap.size w w'

theorem small_few {L : List Pr} (h : fewB L 30 = true) : L.length ≤ 1000 ∧ Small L := by
  unfold fewB shortB at h
  simp at h
  refine ⟨by omega, fun p hp => ?_⟩
  have := h.1 p.1 p.2 hp
  omega

set_option maxHeartbeats 1000000 in
theorem fewn_any {w : World} {h : Nh} {x : Nd} (hr : NdR w h x) : Calls Try.prog 7 #[ndV h x] w (FewPost w x) := by
  obtain ⟨A, n, c, B, m, d, K, k, ee⟩ := h
  have hr1 := hr.alloc (.cells #[.bool x.leaf, .slice A n c, .slice B m d, .slice K k ee, .int .i64 x.next] 35)
  have HF := Lib.hid (few_any 30 hr1.1)
  have hm : m ≤ maxLen := Nat.le_trans hr.2.1.2.1 hr.2.1.2.2.1
  have hk : k ≤ maxLen := Nat.le_trans hr.2.2.2.1 hr.2.2.2.2.1
  unfold maxLen at hm hk
  have HK := Lib.hid hr1.2.1
  have HM := Lib.hid (show x.keys.length = m from hr.2.1.1)
  have HKK := Lib.hid (show x.kids.length = k from hr.2.2.1)
  have HB := Lib.hid (show Below w.heap.size w (w.alloc (.cells #[.bool x.leaf, .slice A n c, .slice B m d, .slice K k ee, .int .i64 x.next] 35)) from (Below.refl _ w).alloc (Nat.le_refl _) _)
  clear hr hr1
  go_enter Try.func7, Try.ntmps7
  go_wp2_with fail
  refine HF.out.mono ?_
  rintro e w1 ⟨rfl, rfl⟩
  clear HF
  have HS := Lib.hid (@small_few x.pairs)
  generalize fewB x.pairs 30 = fb at HS
  go_wp2_with fail
  go_loop [4] (fun i => ∃ j : Nat, j ≤ m ∧ i = .int .i64 j ∧ Hid (∀ t, t < j → (kat x.keys t).length ≤ 1000)) (fun i => m - (intOf i).toNat)
  case atStart => exact ⟨0, Nat.zero_le _, rfl, Lib.hid (fun t ht => absurd ht (by omega))⟩
  case round =>
    obtain ⟨j, hj, rfl, HJ⟩ := hrel
    by_cases hlt : j < m
    · obtain ⟨b, o, B1, m1, d1, rfl, hb, c1, y1⟩ := HK.out.at_ hlt
      have HY := Lib.hid y1.1
      clear y1
      by_cases hlong : 100 < m1
      · go_wp2
        go_ret
        exact ⟨false, rfl, (fun h => by cases h), HB.out⟩
      · go_wp2
        go_round
        case rel => exact ⟨j + 1, by omega, by go_num, Lib.hid (fun t ht => by
          rcases Nat.lt_succ_iff_lt_or_eq.1 ht with ht | rfl
          · exact HJ.out t ht
          · rw [HY.out]; omega)⟩
        case measure => simp [intOf]; omega
    · have HA := Lib.hid (show ∀ t, t < x.keys.length → (kat x.keys t).length ≤ 1000 from fun t ht => HJ.out t (by have := HM.out; omega))
      clear HJ
      cases fb
      · go_wp2
        go_ret
        exact ⟨false, rfl, (fun h => by cases h), HB.out⟩
      · by_cases h1 : m ≤ 30
        · by_cases h2 : k ≤ 30
          · go_wp2
            go_ret
            refine ⟨_, rfl, fun _ => ?_, HB.out⟩
            obtain ⟨s1, s2⟩ := HS.out (by simp)
            exact ⟨s1, s2, by have := HM.out; omega, HA.out, by have := HKK.out; omega⟩
          · have h2' : decide ((k : Int) ≤ 30) = false := by simp; omega
            go_wp2
            go_ret
            exact ⟨_, rfl, (fun h => by cases h), HB.out⟩
        · have h1' : decide ((m : Int) ≤ 30) = false := by simp; omega
          go_wp2
          go_ret
          exact ⟨_, rfl, (fun h => by cases h), HB.out⟩

set_option maxHeartbeats 2000000 in
theorem nodes_same {w : World} {h h' : Nh} {x : Nd} (hr : NdR w h x) (hr' : NdR w h' x) :
    Calls Try.prog 17 #[ndV h x, ndV h' x] w fun e w' => e = .returned (.bool true) ∧ Below w.heap.size w w' := by
  obtain ⟨A, n, c, B, m, d, K, k, ee⟩ := h
  obtain ⟨A', n', c', B', m', d', K', k', ee'⟩ := h'
  obtain rfl : m = m' := hr.2.1.1.symm.trans hr'.2.1.1
  obtain rfl : k = k' := hr.2.2.1.symm.trans hr'.2.2.1
  have B0 : Below w.heap.size w ((w.alloc (.cells #[.bool x.leaf, .slice A n c, .slice B m d, .slice K k ee, .int .i64 x.next] 43)).alloc (.cells #[.bool x.leaf, .slice A' n' c', .slice B' m d', .slice K' k ee', .int .i64 x.next] 43)) :=
    ((Below.refl _ w).alloc (Nat.le_refl _) _).alloc (by simp) _
  have hr1 := hr.below B0
  have hr2 := hr'.below B0
  have HF := Lib.hid (pairs_same hr1.1 hr2.1)
  have hm : m ≤ maxLen := Nat.le_trans hr.2.1.2.1 hr.2.1.2.2.1
  have hk : k ≤ maxLen := Nat.le_trans hr.2.2.2.1 hr.2.2.2.2.1
  unfold maxLen at hm hk
  have HK := Lib.hid (And.intro hr1.2.1 hr2.2.1)
  have HI := Lib.hid (And.intro hr1.2.2 hr2.2.2)
  have HB := Lib.hid B0
  clear hr hr' hr1 hr2 B0
  have hl : (x.leaf != x.leaf) = false := by simp
  have hx : (x.next != x.next) = false := by simp
  have hmm : ((m : Int) != (m : Int)) = false := by simp
  have hkk : ((k : Int) != (k : Int)) = false := by simp
  go_enter Try.func17, Try.ntmps17
  go_wp2_with fail
  refine HF.out.mono ?_
  rintro e w1 ⟨rfl, d1, rfl⟩
  clear HF
  go_wp2
  clear hl hx hmm hkk
  go_loopw [6] (fun i wr => ∃ j dd : Nat, j ≤ m ∧ i = .int .i64 j ∧ wr = ((w.alloc (.cells #[.bool x.leaf, .slice A n c, .slice B m d, .slice K k ee, .int .i64 x.next] 43)).alloc (.cells #[.bool x.leaf, .slice A' n' c', .slice B' m d', .slice K' k ee', .int .i64 x.next] 43)).drewN dd) (fun i _ => m - (intOf i).toNat)
  case atStart => exact ⟨0, _, Nat.zero_le _, rfl, rfl⟩
  case round =>
    obtain ⟨j, dd, hj, rfl, rfl⟩ := hrel
    by_cases hlt : j < m
    · obtain ⟨b, o, B1, m1, e1, rfl, hb, k1, y1⟩ := HK.out.1.at_ hlt
      obtain ⟨b', o', B2, m2, e2, rfl, hb', k2, y2⟩ := HK.out.2.at_ hlt
      have r1 := fun t => run_str (c := e1) (y1.drewN t)
      have r2 := fun t => run_str (c := e2) (y2.drewN t)
      generalize kat x.keys j = kk at r1 r2
      clear y1 y2
      go_wp2
      go_quiet (fail)
      go_wp2
      go_roundw
      case rel => exact ⟨j + 1, _, by omega, by go_num, rfl⟩
      case measure => simp [intOf]; omega
    · go_wp2
      go_loopw [7] (fun i wr => ∃ j dd : Nat, j ≤ k ∧ i = .int .i64 j ∧ wr = ((w.alloc (.cells #[.bool x.leaf, .slice A n c, .slice B m d, .slice K k ee, .int .i64 x.next] 43)).alloc (.cells #[.bool x.leaf, .slice A' n' c', .slice B' m d', .slice K' k ee', .int .i64 x.next] 43)).drewN dd) (fun i _ => k - (intOf i).toNat)
      case atStart => exact ⟨0, _, Nat.zero_le _, rfl, rfl⟩
      case round =>
        obtain ⟨j, dd, hj, rfl, rfl⟩ := hrel
        by_cases hlt : j < k
        · obtain ⟨b, o, rfl, hb, k1⟩ := HI.out.1.at_ hlt
          obtain ⟨b', o', rfl, hb', k2⟩ := HI.out.2.at_ hlt
          generalize iat x.kids j = z at k1 k2
          have hz : (z != z) = false := by simp
          go_wp2
          go_quiet (fail)
          go_wp2
          go_roundw
          case rel => exact ⟨j + 1, _, by omega, by go_num, rfl⟩
          case measure => simp [intOf]; omega
        · go_wp2
          go_ret
          exact ⟨rfl, below_drewN HB.out _⟩
end Go.Proofs.Ytbphjhmmdkaggaa
