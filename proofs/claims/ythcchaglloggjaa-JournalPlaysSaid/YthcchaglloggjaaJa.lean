/- Numbers in memory as lists; contracts of package journal's apart, mayNot and isBatch. Condition: at most 1000 numbers, at most 1000 requests whose slices have at most 100 bytes. -/
import Derived.Test.YthcchaglloggjaaYm
import Derived.Test.YthcchaglloggjaaZl
import Derived.Test.YthcchaglloggjaaLaid
import Derived.Sort.OwnSortedInts
namespace Go.Proofs.Ythcchaglloggjaa
open Go.RowKit
set_option linter.unusedVariables false
set_option maxRecDepth 100000

/-- A slice of numbers that reads as a list. -/
def it (L : List Int) (j : Nat) : Int := L.getD j 0
def Ils (w : World) (A : Option Addr) (n : Nat) (L : List Int) : Prop :=
  L.length = n ∧ n ≤ maxLen ∧ (0 < n → ∃ b o, A = some ⟨b, o, none⟩ ∧ b < w.heap.size ∧ ∀ j, j < n → w.cell? ⟨b, o + j, none⟩ = some (.int .i64 (it L j)))
theorem ils_nil (w : World) : Ils w none 0 [] := ⟨rfl, Nat.zero_le _, fun h => absurd h (by omega)⟩
theorem Ils.keep {w w' : World} {A : Option Addr} {n : Nat} {L : List Int} (h : Ils w A n L) (hs : w.heap.size ≤ w'.heap.size) (hc : ∀ q : Addr, q.block < w.heap.size → w'.cell? q = w.cell? q) : Ils w' A n L :=
  ⟨h.1, h.2.1, fun h0 => by
    obtain ⟨b, o, e, hl, hj⟩ := h.2.2 h0
    exact ⟨b, o, e, Nat.lt_of_lt_of_le hl hs, fun j hjn => (hc ⟨b, o + j, none⟩ hl).trans (hj j hjn)⟩⟩
theorem Ils.below {w w' : World} {A : Option Addr} {n : Nat} {L : List Int} (h : Ils w A n L) (hb : Below w.heap.size w w') : Ils w' A n L := h.keep hb.size fun _ hp => hb.cell hp
theorem Ils.at_ {w : World} {A : Option Addr} {n j : Nat} {L : List Int} (h : Ils w A n L) (hj : j < n) : ∃ b o, A = some ⟨b, o, none⟩ ∧ b < w.heap.size ∧ w.cell? ⟨b, o + j, none⟩ = some (.int .i64 (it L j)) := by
  obtain ⟨b, o, e, hb, hp⟩ := h.2.2 (by omega)
  exact ⟨b, o, e, hb, hp j hj⟩
theorem ils_old {w : World} {A : Option Addr} {n : Nat} {L : List Int} (h : Ils w A n L) : On (· < w.heap.size) w (Ils · A n L) := fun w' ha => h.keep ha.1 (fun q hq => World.cell?_of_block (ha.2 q.block hq hq))
/-- A row of numbers of one's own reads as a list. -/
theorem own_ils {w : World} {N n : Nat} {v : Value} {L : List Int} (h : w.ownsRow N 3 1 v n (L.map (Value.int .i64))) : ∃ A c, v = .slice A n c ∧ On (fun b => v.ownBlock = some b) w (Ils · A n L) := by
  have hlen : L.length = n := by have := h.1; simpa using this
  obtain ⟨A, c, rfl, -⟩ := own_new h
  refine ⟨A, c, rfl, fun w' ha => ?_⟩
  have h' := own_agree h ha (fun k hk => hk)
  have hc := own_caps h'
  refine ⟨hlen, Nat.le_trans hc.1 hc.2.1, fun h0 => ?_⟩
  obtain ⟨g, rfl, -, hg⟩ := own_at h' h0
  refine ⟨g, 0, rfl, hg, fun j hj => ?_⟩
  rw [Nat.zero_add, h'.cellAt j (by omega), List.getElem?_map, List.getElem?_eq_getElem (by omega)]
  unfold it
  simp [List.getD_eq_getElem?_getD, List.getElem?_eq_getElem (show j < L.length by omega)]

/-- What is sorted and put together is as long as it was where no number is there twice. -/
theorem compact_len (L : List Int) : (Lib.compact (L.mergeSort fun x y => decide (x ≤ y))).length = L.length ↔ L.Nodup := by
  obtain ⟨S, hS⟩ : ∃ S, S = L.mergeSort fun x y => decide (x ≤ y) := ⟨_, rfl⟩
  have hp : S.Perm L := by rw [hS]; exact List.mergeSort_perm _ _
  have hso : S.Pairwise (fun x y => x ≤ y) := by
    rw [hS]
    have := List.pairwise_mergeSort (le := fun x y : Int => decide (x ≤ y)) (fun a b c h1 h2 => by simp at *; omega) (fun a b => by simp; omega) L
    exact this.imp (fun h => by simpa using h)
  rw [← hS, ← hp.nodup_iff, ← hp.length_eq]
  unfold Lib.compact Lib.compactUpTo
  rw [List.length_map]
  have hr : (List.range S.length).length = S.length := List.length_range
  have hk : ((List.range S.length).filter (Lib.keeps S.toArray)).length = S.length ↔ ∀ j, j < S.length → Lib.keeps S.toArray j = true := by
    constructor
    · intro h j hj
      have := (List.length_filter_eq_length_iff.1 (h.trans hr.symm)) j (List.mem_range.2 hj)
      exact this
    · intro h
      exact (List.length_filter_eq_length_iff.2 (fun j hj => h j (List.mem_range.1 hj))).trans hr
  rw [hk]
  have hpw := List.pairwise_iff_getElem.1 hso
  have hget : ∀ j (h : j < S.length), S.toArray[j]! = S[j] := fun j h => by
    rw [getElem!_pos S.toArray j (by simpa using h)]
    simp
  constructor
  · intro h
    refine List.nodup_iff_pairwise_ne.2 (List.pairwise_iff_getElem.2 fun i j hi hj hij => ?_)
    have h1 := h j hj
    simp only [Lib.keeps, decide_eq_true_eq] at h1
    rcases h1 with h1 | h1
    · omega
    · rw [hget j hj, hget (j - 1) (by omega)] at h1
      have h2 : S[j - 1]'(by omega) ≤ S[j] := hpw (j - 1) j (by omega) hj (by omega)
      have h3 : S[i] ≤ S[j - 1]'(by omega) := by
        by_cases e : i = j - 1
        · subst e; exact Int.le_refl _
        · exact hpw i (j - 1) hi (by omega) (by omega)
      omega
  · intro h j hj
    simp only [Lib.keeps, decide_eq_true_eq]
    by_cases e : j = 0
    · exact .inl e
    · right
      rw [hget j hj, hget (j - 1) (by omega)]
      exact (List.pairwise_iff_getElem.1 (List.nodup_iff_pairwise_ne.1 h) (j - 1) j (by omega) hj (by omega)).symm
theorem compact_eq (L : List Int) : (((Lib.compact (L.mergeSort fun x y => decide (x ≤ y))).length : Int) == (L.length : Int)) = decide L.Nodup := by
  rw [Bool.eq_iff_iff]
  simp only [beq_iff_eq, decide_eq_true_eq, ← compact_len L]
  omega

theorem clone_ints {w : World} {b o n : Nat} (c : Nat) {L : List Int} (h : Ils w (some ⟨b, o, none⟩) n L) (h0 : 0 < n) (hn : n ≤ 1000) :
    Calls Try.prog 44 #[.slice (some ⟨b, o, none⟩) n c] w fun e w' => ∃ g cap, e = .returned (.slice (some ⟨g, 0, none⟩) n cap) ∧ w'.ownsRow w.heap.size 3 1 (.slice (some ⟨g, 0, none⟩) n cap) n (L.map (Value.int .i64)) ∧ Below w.heap.size w w' := by
  have hl := h.1
  obtain ⟨b', o', e', hb', hj'⟩ := h.2.2 h0
  injection e' with e'
  injection e' with e1 e2
  subst e1
  subst e2
  have hc := Any.slices_Clone_int Try.laysNm215 b o n c L w (by omega) (by omega) (fun j hj => hj' j (by omega))
  refine Calls.mono hc ?_
  rintro e w' ⟨v', rfl, hown, -, hb⟩
  rw [List.take_of_length_le (by omega)] at hown
  have hown : w'.ownsRow w.heap.size 3 1 v' n (L.map (Value.int .i64)) := hown
  obtain ⟨A, cap, rfl, -⟩ := own_new hown
  obtain ⟨g, rfl, -⟩ := own_at hown h0
  exact ⟨g, cap, rfl, hown, hb⟩
theorem own_holds {w : World} {N g n cap : Nat} {L : List Int} (h : w.ownsRow N 3 1 (.slice (some ⟨g, 0, none⟩) n cap) n (L.map (Value.int .i64))) : ∃ cur, L.length = n ∧ N ≤ g ∧ w.heap[g]? = some (.cells cur 3 (0, 0)) ∧ n ≤ cap ∧ cap ≤ maxLen ∧ cur.size = cap * 1 ∧ cur.toList.take n = L.map (Value.int .i64) := by
  have hl := h.1
  rw [List.length_map, Nat.mul_one] at hl
  rcases h.2 with ⟨e, -⟩ | ⟨g', cap', cur, e, hN, hg, h1, h2, h3, h4⟩
  · cases e
  · injection e with e1 e2 e3
    injection e1 with e1
    injection e1 with e1
    subst e1
    subst e3
    exact ⟨cur, hl, hN, hg, h1, h2, h3, by rw [Nat.mul_one] at h4; exact h4⟩
theorem sort_ints {w : World} {N g n cap : Nat} {L : List Int} (h : w.ownsRow N 3 1 (.slice (some ⟨g, 0, none⟩) n cap) n (L.map (Value.int .i64))) (hn : n ≤ 1000) :
    Calls Try.prog 45 #[.slice (some ⟨g, 0, none⟩) n cap] w fun e w' => e = .returned (.tuple #[]) ∧ w'.ownsRow N 3 1 (.slice (some ⟨g, 0, none⟩) n cap) n ((L.mergeSort fun x y => decide (x ≤ y)).map (Value.int .i64)) ∧ w.grownBy w' (some g) := by
  obtain ⟨cur, rfl, hN, hg, h1, h2, h3, h4⟩ := own_holds h
  have hH : Go.Sort.Holds (Value.int .i64) w g 0 L.toArray := holds_of_blockI hg h4
  have hc := Any.slices_Sort_int Try.lays189 g 0 cap L w hH (Array.getElem?_eq_some_iff.1 hg).1 (by omega)
  refine Calls.mono hc ?_
  rintro e w' ⟨rfl, k, os, rfl⟩
  exact ⟨rfl, ownsRow_sortedI (by simp) hN hg h1 h2 h3, grownBy_sortedI _⟩
theorem compact_ints {w : World} {N g n cap : Nat} {L : List Int} (h : w.ownsRow N 3 1 (.slice (some ⟨g, 0, none⟩) n cap) n (L.map (Value.int .i64))) (hn : n ≤ 1000) :
    Calls Try.prog 46 #[.slice (some ⟨g, 0, none⟩) n cap] w fun e w' => e = .returned (.slice (some ⟨g, 0, none⟩) (Lib.compact L).length cap) ∧ w.grownBy w' (some g) := by
  obtain ⟨cur, rfl, hN, hg, h1, h2, h3, h4⟩ := own_holds h
  have hH : Go.Sort.Holds (Value.int .i64) w g 0 L.toArray := holds_of_blockI hg h4
  have hc := Any.slices_Compact_int Try.laysNm220 g 0 cap L w hH (by omega) h1
  refine Calls.mono hc ?_
  rintro e w' ⟨rfl, q, rfl⟩
  refine ⟨rfl, ?_⟩
  have := grownBy_sortedI (w := w) (g := g) (n := q) (os := #[]) (Lib.compact L ++ List.replicate (L.length - (Lib.compact L).length) 0).toArray
  rw [Go.Sort.grow_empty] at this
  exact this

set_option maxHeartbeats 2000000 in
theorem apart_any {w : World} {A : Option Addr} {n : Nat} (c : Nat) {L : List Int} (h : Ils w A n L) (h0 : 0 < n) (hn : n ≤ 1000) :
    Calls Try.prog 35 #[.slice A n c] w fun e w' => e = .returned (.bool (decide L.Nodup)) ∧ Below w.heap.size w w' := by
  obtain ⟨b, o, rfl, -⟩ := h.at_ h0
  have HC := Lib.hid (clone_ints c h h0 hn)
  have HE := Lib.hid (compact_eq L)
  have HL := Lib.hid h.1
  clear h
  go_enter Try.func35, Try.ntmps35
  go_wp2_with fail
  refine HC.out.mono ?_
  rintro e w1 ⟨g, cap, rfl, hown, hb⟩
  have HS := Lib.hid (sort_ints hown hn)
  have HB := Lib.hid hb
  have HG := Lib.hid (own_lt hown g rfl)
  have HN := Lib.hid (own_holds hown)
  clear hown hb HC
  go_wp2_with fail
  refine HS.out.mono ?_
  rintro e w2 ⟨rfl, hown, hg⟩
  have HD := Lib.hid (compact_ints hown hn)
  have HG2 := Lib.hid hg
  clear hown hg HS
  go_wp2_with fail
  refine HD.out.mono ?_
  rintro e w3 ⟨rfl, hg⟩
  have HB3 := Lib.hid ((HB.out.grown HG2.out (by have := HB.out.size; omega) (fun k hk => by
    obtain ⟨cur, -, hN, -⟩ := HN.out
    injection hk with hk; omega)).grown hg (by have := HB.out.size; have := HG2.out.size; omega) (fun k hk => by
    obtain ⟨cur, -, hN, -⟩ := HN.out
    injection hk with hk; omega))
  have HE2 := Lib.hid (show (((Lib.compact (L.mergeSort fun x y => decide (x ≤ y))).length : Int) == (n : Int)) = decide L.Nodup by rw [← HE.out, HL.out])
  generalize (Lib.compact (L.mergeSort fun x y => decide (x ≤ y))).length = m at HE2 ⊢
  clear hg HD HG2 HG HN HB HE
  go_wp2
  go_ret
  exact ⟨ret_bool HE2.out, HB3.out⟩

set_option maxHeartbeats 1000000 in
theorem maynot_any {w : World} {h : Qh} {r : Rq} (hr : RqR w h r) (hs : smallQ r = true) :
    Calls Try.prog 37 #[.agg #[.int .i64 r.cl, .int .i64 r.sq, .int .i64 r.kind, .slice h.A h.n h.c, .slice h.B h.m h.d, .slice h.C h.o h.p, .slice h.D h.q h.s, .int .i64 r.limit]] w fun e w' => e = .returned (.bool (!mayQ r)) ∧ Below w.heap.size w w' := by
  obtain ⟨V, hV, hVB, hVQ, hVs⟩ := box_q w h r
  have HM := Lib.hid (show Calls Try.prog 48 #[.agg #[.int .i64 r.cl, .int .i64 r.sq, .int .i64 r.kind, .slice h.A h.n h.c, .slice h.B h.m h.d, .slice h.C h.o h.p, .slice h.D h.q h.s, .int .i64 r.limit]] V fun e w' => e = .returned (.bool (mayQ r)) ∧ Below V.heap.size V w' from omay_any (hr.below hVB) hs)
  have HB := Lib.hid hVB
  have hVe := Lib.hid hV
  obtain ⟨b0, b1, b2, b3, b4, b5, b6, b7⟩ := hVQ.cells
  clear hr hs hV hVB hVQ hVs
  generalize mayQ r = m at HM ⊢
  go_enter Try.func37, Try.ntmps37
  go_wp2_with fail
  rw [← hVe.out]
  refine HM.out.mono ?_
  rintro e w1 ⟨rfl, hb⟩
  have HB1 := Lib.hid (HB.out.trans (hb.mono HB.out.size))
  clear hb
  go_wp2
  go_ret
  exact ⟨rfl, HB1.out⟩

set_option maxHeartbeats 2000000 in
/-- The first request that may not be. -/
theorem index_may {w : World} {A : Option Addr} {n : Nat} (c : Nat) {M : List Rq} (h : Reqs w A n M) (hs : ∀ j, j < n → smallQ (gq M j) = true) (hn : n ≤ 1000) :
    Calls Try.prog 47 #[.slice A n c, .func (.func 37) #[] #[]] w fun e w' => e = .returned (.int .i64 (fst (fun k => !mayQ (gq M k)) n)) ∧ Below w.heap.size w w' := by
  have H := Lib.hid h
  have HS := Lib.hid hs
  obtain ⟨P, hP⟩ : ∃ P : Nat → Bool, P = fun k => !mayQ (gq M k) := ⟨_, rfl⟩
  rw [← hP]
  have HPE := Lib.hid (show ∀ j, (!mayQ (gq M j)) = P j from fun j => by rw [hP])
  have HF := Lib.hid (And.intro (fun (j : Nat) (h1 : P j = true) (h2 : ∀ k, k < j → P k = false) (h3 : j < n) => fst_at h1 h2 h3) (fun (h1 : ∀ k, k < n → P k = false) => fst_no h1))
  generalize fst P n = res at HF ⊢
  clear h hs hP
  go_enter Try.func47, Try.ntmps47
  go_wp2
  go_loopw [8] (fun i wr => ∃ j : Nat, j ≤ n ∧ i = .int .i64 j ∧ Hid (∀ k, k < j → P k = false) ∧ Below w.heap.size w wr) (fun i _ => n - (intOf i).toNat)
  case atStart => exact ⟨0, Nat.zero_le _, rfl, Lib.hid (fun k hk => absurd hk (by omega)), Below.refl _ _⟩
  case round =>
    obtain ⟨j, hj, rfl, HI, hb⟩ := hrel
    have HB := Lib.hid hb
    clear hb
    by_cases hlt : j < n
    · obtain ⟨b, o, rfl, hbl, h1, k0, k1, k2, k3, k4, k5, k6, k7, hr⟩ := (H.out.below HB.out).at_ hlt
      have HFN := Lib.hid (maynot_any hr (HS.out j hlt))
      rw [HPE.out j] at HFN
      have HJ := Lib.hid (And.intro (HF.out.1 j) (show ∀ k, k < j + 1 → k < j ∨ k = j from fun k hk => by omega))
      generalize gq M j = x at k0 k1 k2 k3 k4 k5 k6 k7 hr HFN
      clear hr
      cases hz : P j
      all_goals
        rw [hz] at HFN
        have HZ := Lib.hid hz
        clear hz
        go_wp2_with fail
        refine HFN.out.mono ?_
        rintro e w2 ⟨rfl, hb2⟩
        have HB2 := Lib.hid (HB.out.trans (hb2.mono HB.out.size))
        clear hb2 HFN k0 k1 k2 k3 k4 k5 k6 k7
      · go_wp2
        go_roundw
        case rel => exact ⟨j + 1, by omega, by go_num, Lib.hid (fun k hk => by
          rcases HJ.out.2 k hk with hk | rfl
          · exact HI.out k hk
          · exact HZ.out), HB2.out⟩
        case measure => simp [intOf]; omega
      · go_wp2
        go_ret
        exact ⟨ret_int (HJ.out.1 HZ.out HI.out hlt).symm, HB2.out⟩
    · obtain rfl : j = n := by omega
      go_wp2
      go_ret
      exact ⟨ret_int (HF.out.2 HI.out).symm, HB.out⟩

/-- May numbers and requests be a batch's? -/
def batchB (L : List Int) (M : List Rq) : Bool := decide (0 < M.length) && (decide (L.length = M.length) && (decide L.Nodup && M.all mayQ))
theorem all_fst {M : List Rq} {n : Nat} (h : M.length = n) : decide (0 ≤ fst (fun k => !mayQ (gq M k)) n) = !M.all mayQ := by
  subst h
  have hget : ∀ k (hk : k < M.length), gq M k = M[k] := fun k hk => by unfold gq; simp [hk]
  rcases fst_some (p := fun k => !mayQ (gq M k)) (n := M.length) with ⟨i, h1, h2, h3, -⟩ | ⟨h1, h2⟩
  · rw [h2]
    have : M.all mayQ = false := by
      rw [Bool.eq_false_iff]
      intro h
      have := List.all_eq_true.1 h M[i] (List.getElem_mem h1)
      rw [hget i h1, this] at h3
      cases h3
    rw [this]
    simp
  · rw [h1]
    have : M.all mayQ = true := List.all_eq_true.2 fun x hx => by
      obtain ⟨k, hk, rfl⟩ := List.mem_iff_getElem.1 hx
      have := h2 k hk
      rw [hget k hk] at this
      simpa using this
    rw [this]
    rfl

set_option maxHeartbeats 2000000 in
theorem contains_may {w : World} {A : Option Addr} {n : Nat} (c : Nat) {M : List Rq} (h : Reqs w A n M) (hs : ∀ j, j < n → smallQ (gq M j) = true) (hn : n ≤ 1000) :
    Calls Try.prog 36 #[.slice A n c, .func (.func 37) #[] #[]] w fun e w' => e = .returned (.bool (!M.all mayQ)) ∧ Below w.heap.size w w' := by
  have HI := Lib.hid (index_may c h hs hn)
  have HA := Lib.hid (all_fst h.1)
  generalize fst (fun k => !mayQ (gq M k)) n = f at HI HA
  clear h hs
  go_enter Try.func36, Try.ntmps36
  go_wp2_with fail
  refine HI.out.mono ?_
  rintro e w1 ⟨rfl, hb⟩
  go_wp2
  go_ret
  exact ⟨ret_bool HA.out, hb⟩

set_option maxHeartbeats 4000000 in
theorem batch_any {w : World} {A B : Option Addr} {n m : Nat} (c d : Nat) {L : List Int} {M : List Rq} (h : Ils w A n L) (hr : Reqs w B m M) (hs : ∀ j, j < m → smallQ (gq M j) = true) (hn : m ≤ 1000) :
    Calls Try.prog 25 #[.slice A n c, .slice B m d] w fun e w' => e = .returned (.bool (batchB L M)) ∧ Below w.heap.size w w' := by
  have hl := h.1
  have hm := hr.1
  have H := Lib.hid h
  have HR := Lib.hid hr
  have HS := Lib.hid hs
  have HQ := Lib.hid (show batchB L M = (decide (0 < m) && (decide (n = m) && (decide L.Nodup && M.all mayQ))) by unfold batchB; rw [hl, hm])
  clear h hr hs hl hm
  by_cases h0 : 0 < m
  · have g0 : decide (0 < m) = true := by simpa using h0
    by_cases h1 : n = m
    · subst h1
      have HAP := Lib.hid (apart_any c H.out h0 hn)
      generalize decide L.Nodup = q at HAP HQ
      have e1 : ((n : Int) == (n : Int)) = true := by simp
      cases q
      · go_enter Try.func25, Try.ntmps25
        go_wp2_with fail
        refine HAP.out.mono ?_
        rintro e w1 ⟨rfl, hb⟩
        go_wp2
        go_ret
        exact ⟨ret_bool (by rw [HQ.out]; simp), hb⟩
      · go_enter Try.func25, Try.ntmps25
        go_wp2_with fail
        refine HAP.out.mono ?_
        rintro e w1 ⟨rfl, hb⟩
        have HB := Lib.hid hb
        have HC := Lib.hid (contains_may d (HR.out.below hb) HS.out hn)
        clear hb
        go_wp2_with fail
        refine HC.out.mono ?_
        rintro e w2 ⟨rfl, hb⟩
        have HB2 := Lib.hid (HB.out.trans (hb.mono HB.out.size))
        clear hb
        go_wp2
        go_ret
        exact ⟨ret_bool (by rw [HQ.out, g0]; simp), HB2.out⟩
    · have e1 : ((n : Int) == (m : Int)) = false := by simp; omega
      go_enter Try.func25, Try.ntmps25
      go_wp2
      go_ret
      exact ⟨ret_bool (by rw [HQ.out]; simp [h1]), Below.refl _ _⟩
  · obtain rfl : m = 0 := by omega
    go_enter Try.func25, Try.ntmps25
    go_wp2
    go_ret
    exact ⟨ret_bool (by rw [HQ.out]; rfl), Below.refl _ _⟩
end Go.Proofs.Ythcchaglloggjaa
