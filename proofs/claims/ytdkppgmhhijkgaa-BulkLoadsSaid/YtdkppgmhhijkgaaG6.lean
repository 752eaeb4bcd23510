/- The contract of package tree's lay where a node has too many: it is two. Condition: as lay's. The contract of package tree's lay where a node has too many: it is two, and another stands above. Condition: as lay's. -/
import Derived.Test.YtdkppgmhhijkgaaG5
namespace Go.Proofs.Ytdkppgmhhijkgaa
open Go.RowKit
set_option linter.unusedVariables false
set_option maxRecDepth 100000

theorem halve_any {w : World} {C : Nat → Prop} {h : Nh} {x : Nd} {m : Nat} (hC : ∀ b, C b → b < w.heap.size) (hr : On C w (NdR · h x)) (hk : NdOk x) (hm : 3 ≤ m) (hf : fitsN m x = false) : Calls Try.prog 58 #[ndV h x] w (Halved w C x) := by
  obtain ⟨h1, h2, h3⟩ := hk
  unfold fitsN at hf
  simp at hf
  cases hl : x.leaf
  · obtain ⟨e1, e2, e3⟩ := h3 hl
    rw [e1] at hf
    simp at hf
    exact halve_node hC hr hl (by omega) e2 (by omega)
  · have e1 := h2 hl
    rw [e1] at hf
    simp at hf
    exact halve_leaf hC hr hl (by omega) h1.1
theorem left_leaf (x : Nd) (z : Int) : (leftN x z).leaf = x.leaf := by
  unfold leftN; split <;> rename_i h <;> simp [h]
theorem left_reads {w : World} {h : Nh} {x : Nd} {y z : Int} (hr : NdR w h (leftN x y)) : NdR w h (leftN x z) := by
  have e : (leftN x z).pairs = (leftN x y).pairs ∧ (leftN x z).keys = (leftN x y).keys ∧ (leftN x z).kids = (leftN x y).kids := by
    unfold leftN; split <;> exact ⟨rfl, rfl, rfl⟩
  unfold NdR
  rw [e.1, e.2.1, e.2.2]
  exact hr
theorem left_next {x : Nd} (h : x.leaf = true) (z : Int) : (leftN x z).next = z := by unfold leftN; rw [if_pos h]
theorem left_next0 {x : Nd} (h : x.leaf = false) (z : Int) : (leftN x z).next = 0 := by unfold leftN; rw [if_neg (by simp [h])]
theorem wrapEq (x : Int) : IntKind.i64.wrap x = wrap64 x := by rw [IntKind.wrap_i64]; unfold wrap64; rfl
theorem heads_cells {xs ys : List Value} : ∀ {R : List Stp}, HeadsR xs R → (∀ i, i < R.length * 7 → ys[i]? = xs[i]?) → HeadsR ys R
  | [], _, _ => trivial
  | s :: up, ⟨⟨h, hh⟩, h2⟩, he => ⟨⟨h, hh.cells fun r hr => he _ (by simp; omega)⟩, heads_cells h2 fun i hi => he i (by simp; omega)⟩
theorem trm_setroot {w : World} {D : Nat → Prop} {tb g : Nat} {L : List (Option Nd)} {F : List Nat} {root m many : Nat} (h : TrM w D tb g L F root m many) (r : Nat) : TrM (w.setCell ⟨tb, 1, none⟩ (.int .i64 r)) D tb g L F r m many := by
  refine ⟨?_, h.2.1.keep (agree_set w _ _ h.2.2), h.2.2⟩
  have := h.1
  simp [World.setCell, Array.getElem?_modify, this]
theorem trm_setmany {w : World} {D : Nat → Prop} {tb g : Nat} {L : List (Option Nd)} {F : List Nat} {root m many : Nat} (h : TrM w D tb g L F root m many) (r : Nat) : TrM (w.setCell ⟨tb, 3, none⟩ (.int .i64 r)) D tb g L F root m r := by
  refine ⟨?_, h.2.1.keep (agree_set w _ _ h.2.2), h.2.2⟩
  have := h.1
  simp [World.setCell, Array.getElem?_modify, this]
theorem root_small {s : Ky} (hs : s.length ≤ 1000) (a b : Int) : SmallN (rootN s a b) :=
  ⟨by simp [rootN], (fun p hp => by cases hp), by simp [rootN], fun j hj => by
    have : j = 0 := by simp [rootN] at hj; omega
    subst this
    exact hs, by simp [rootN]⟩
theorem root_reads {U : World} {b : Nat} {FA : Option Addr} {fn fc : Nat} {s : Ky} {i j : Nat} (h0 : U.heap[b]? = some (.cells #[.slice FA fn fc] 25 (0, 0))) (h1 : U.heap[b + 1]? = some (.cells #[.int .i64 i, .int .i64 j] 3 (0, 0))) (hb : Byt U FA fn s) :
    NdR U ⟨none, 0, 0, some ⟨b, 0, none⟩, 1, 1, some ⟨b + 1, 0, none⟩, 2, 2⟩ (rootN s i j) := by
  refine ⟨prs_nil U, ⟨rfl, Nat.le_refl _, by show 1 ≤ maxLen; unfold maxLen; omega, (fun e => by cases e), fun _ => ⟨b, 0, rfl, (Array.getElem?_eq_some_iff.1 h0).1, fun t ht => ?_⟩⟩, ⟨rfl, Nat.le_refl _, by show 2 ≤ maxLen; unfold maxLen; omega, (fun e => by cases e), fun _ => ⟨b + 1, 0, rfl, (Array.getElem?_eq_some_iff.1 h1).1, fun t ht => ?_⟩⟩⟩
  · have : t = 0 := by simp at ht; omega
    subst this
    exact ⟨FA, fn, fc, by simp [World.cell?, h0], hb⟩
  · have : t = 0 ∨ t = 1 := by simp at ht; omega
    rcases this with rfl | rfl
    · simp [World.cell?, h1, rootN, iat]
    · simp [World.cell?, h1, rootN, iat]
theorem set4 {w : World} {b : Nat} {T : TypeId} {a0 a1 a2 a3 a4 : Value} (u : Value) (h : w.heap[b]? = some (.cells #[a0, a1, a2, a3, a4] T (0, 0))) : (w.setCell ⟨b, 4, none⟩ u).heap[b]? = some (.cells #[a0, a1, a2, a3, u] T (0, 0)) := by
  simp [World.setCell, Array.getElem?_modify, h]

theorem mk_some {L : List (Option Nd)} {F : List Nat} (hF : FreeOk L F) (x : Nd) {i : Nat} {y : Nd} (hy : lat L i = some y) : lat (mkA L F x) i = some y := by
  rw [mkA_at hF, if_neg (fun e => by rw [e, nxt_none hF] at hy; cases hy)]
  exact hy
theorem root_on {C : Nat → Prop} {U : World} {b : Nat} {FA : Option Addr} {fn fc : Nat} {s : Ky} {i j : Nat} (h0 : U.heap[b]? = some (.cells #[.slice FA fn fc] 25 (0, 0))) (h1 : U.heap[b + 1]? = some (.cells #[.int .i64 i, .int .i64 j] 3 (0, 0))) (hb : On C U (Byt · FA fn s)) (hC0 : C b) (hC1 : C (b + 1)) :
    On C U (NdR · ⟨none, 0, 0, some ⟨b, 0, none⟩, 1, 1, some ⟨b + 1, 0, none⟩, 2, 2⟩ (rootN s i j)) := fun v hv =>
  root_reads ((hv.2 b hC0 (Array.getElem?_eq_some_iff.1 h0).1).trans h0) ((hv.2 (b + 1) hC1 (Array.getElem?_eq_some_iff.1 h1).1).trans h1) (hb v hv)

set_option maxHeartbeats 8000000 in
theorem lay_root {w : World} {D : Nat → Prop} {tb g : Nat} {L : List (Option Nd)} {F : List Nat} {root m many N M gr c : Nat} {xs : List Value} {hi : Nat} {s : Stp}  {x : Nd} {h : Nh} {Cx : Nat → Prop}
    (hl : LayIn w D tb g L F root m many N M gr c xs hi s [] x h Cx) (hf : fitsN m x = false) :
    Calls Try.prog 36 #[.pointer (some ⟨tb, 0, none⟩), .slice (some ⟨gr, 0, none⟩) (0 + 1 : Nat) c, ndV h x] w (LayOut w D tb g N M m many (layR m (s :: []) x L F root)) := by
  rw [layR_not hf]
  obtain ⟨kx, hkx⟩ : ∃ kx, nxt L.length F = kx := ⟨_, rfl⟩
  rw [hkx]
  have HKX := Lib.hid hkx
  clear hkx
  obtain ⟨A, n, cA, B, k, d, K, i, ee⟩ := h
  have hn : x.pairs.length = n := hl.reads.here.1.1
  have hk : x.keys.length = k := hl.reads.here.2.1.1
  have hfx := hf
  unfold fitsN at hf
  simp at hf
  obtain ⟨y, hy⟩ := hl.nums s (by simp)
  obtain ⟨hh, hhd⟩ := hl.heads.1
  have W0 := Lib.hid (box5 w (.bool x.leaf) (.slice A n cA) (.slice B k d) (.slice K i ee) (.int .i64 x.next) 72)
  have HL := Lib.hid hl
  have HY := Lib.hid hy
  have HH := Lib.hid hhd
  have HFX := Lib.hid hfx
  have hnf : ¬ (n ≤ m ∧ k ≤ m) := by omega
  clear hf hn hk hy hhd hl hfx
  go_enter Try.func36, Try.ntmps36
  go_wp2_with fail
  obtain ⟨W, hW, hWB, hWs, hWh⟩ := W0.out
  rw [← hW]
  clear hW W0
  refine (last_any (own_keep HL.out.row hWB) HH.out).mono ?_
  rintro e w1 ⟨rfl, hb1⟩
  have HB1 := Lib.hid (hWB.trans (hb1.mono hWB.size))
  have hs1 : w.heap.size < w1.heap.size := by have := hb1.size; omega
  have HX := Lib.hid ((hb1.block w.heap.size (by omega)).trans hWh)
  obtain ⟨b0, b1, b2, b3, b4, -⟩ := five HX.out
  have HT := Lib.hid (HL.out.tr.below HB1.out)
  have hfd := field_num s hh
  obtain ⟨c0, c1, c2, c3, -, -⟩ := HT.out.cells
  clear hb1 hWB hWs hWh
  have HQ : ∃ w2, TrM w2 D tb g L F root m many ∧ True := ⟨_, HT.out, trivial⟩
  clear HQ
  by_cases hnm : (n : Int) ≤ (m : Int)
  case' pos =>
    go_wp2_with fail
    have hnmI : (n : Int) ≤ (m : Int) := by omega
    have hnmN : n ≤ m := by omega
    have hdk : decide ((k : Int) ≤ (m : Int)) = false := by simp; omega
    have hdkN : decide (k ≤ m) = false := by simp; omega
    go_quiet (fail)
    clear hdk hdkN hnmI hnmN
  case' neg =>
    go_wp2_with fail
    have hdn : decide ((n : Int) ≤ (m : Int)) = false := by simp; omega
    have hdnN : decide (n ≤ m) = false := by simp; omega
    go_quiet (fail)
    clear hdn hdnN
  all_goals
    obtain ⟨w2, hw2, hT2, hB2, hX2⟩ : ∃ w2, w2 = w1.drewN nq ∧ TrM w2 D tb g L F root m many ∧ Below w.heap.size w w2 ∧ w2.heap[w.heap.size]? = some (.cells #[.bool x.leaf, .slice A n cA, .slice B k d, .slice K i ee, .int .i64 x.next] 72 (0, 0)) := ⟨_, rfl, HT.out.drewN nq, below_drewN HB1.out nq, HX.out⟩
    rw [← hw2]
    have HT2 := Lib.hid hT2
    have HB2 := Lib.hid hB2
    have HX2 := Lib.hid hX2
    have HBX := Lib.hid (HB2.out)
    clear hw2 b0 b1 b2 b3 b4 c0 c1 c2 c3 HT HB1 HX hs1
    obtain ⟨b0, b1, b2, b3, b4, -⟩ := five hX2
    clear hT2 hB2 hX2
    have hs2 : w.heap.size ≤ w2.heap.size := HB2.out.size
    have HV := halve_any (w := w2) (C := Cx) (fun b hb => Nat.lt_of_lt_of_le (HL.out.cx b hb).2.2 hs2) (HL.out.reads.keep (below_agree HB2.out (fun b hb _ => (HL.out.cx b hb).2.2))) HL.out.ok HL.out.m3 HFX.out
    go_wp2_with fail
    refine HV.mono ?_
    rintro e w3 ⟨h1, h2, FA, fn, fc, rfl, on1, on2, onf, hb3⟩
    have HON := Lib.hid (And.intro on1 (And.intro on2 onf))
    have HB3 := Lib.hid (HB2.out.trans (hb3.mono HB2.out.size))
    have HT3 := Lib.hid (HT2.out.below hb3)
    have W4 := Lib.hid (two_new w3 (.cells #[.bool (leftN x 0).leaf, .slice h1.A h1.n h1.c, .slice h1.B h1.m h1.d, .slice h1.K h1.k h1.e, .int .i64 (leftN x 0).next] 72) (.cells #[.bool (rightN x).leaf, .slice h2.A h2.n h2.c, .slice h2.B h2.m h2.d, .slice h2.K h2.k h2.e, .int .i64 (rightN x).next] 72))
    clear HV on1 on2 onf hb3 b0 b1 b2 b3 b4 HT2 HB2 HX2 HBX
    go_wp2_with fail
    obtain ⟨V, hV, hVB, hVs, hV0, hV1⟩ := W4.out
    rw [← hV]
    have hsV : w.heap.size ≤ w3.heap.size := HB3.out.size
    have HTV := Lib.hid (HT3.out.below hVB)
    have HBV := Lib.hid (HB3.out.trans (hVB.mono HB3.out.size))
    obtain ⟨d0, d1, d2, d3, d4, -⟩ := five hV1
    obtain ⟨c0, -, -, -, -, -⟩ := HTV.out.cells
    have HV0 := Lib.hid hV0
    have HVs := Lib.hid hVs
    clear hV W4 HT3 hV0 hV1
    have hCx : ∀ b, Cx b → b < w3.heap.size := fun b hb => Nat.lt_of_lt_of_le (HL.out.cx b hb).2.2 hsV
    have HCx := Lib.hid hCx
    have HV5 := make_nxt (w := V.drew) HTV.out.drew.2.1 (by have := HL.out.few; omega) (by have := HL.out.fewF; omega) (hh := h2) (x := rightN x) ((HON.out.2.1.keep (below_agree hVB.drew (fun b hb _ => hCx b hb))).now.mono (fun b hb => (HL.out.cx b hb.1).1)) (right_small HL.out.ok.1) HKX.out
    have HVB := Lib.hid hVB
    clear hVB hCx hVs
    go_still_tail 5, (by kernel_rfl)
    change wpList _ _ _ _ _ V.drew
    go_wp2_with fail
    refine HV5.mono ?_
    rintro e w5 ⟨rfl, ht⟩
    obtain ⟨D5, t1, t2, t3⟩ := trm_turn (w := V.drew) HTV.out.drew ht
    have HT5 := Lib.hid (And.intro t1 (And.intro t2 t3))
    have hD3 : ¬ D w3.heap.size := fun hd => by have := HL.out.tr.lt.2 _ hd; omega
    have q0 := (t3.block w3.heap.size (by show w3.heap.size < V.heap.size; have := HVs.out; omega) hD3).trans HV0.out
    rw [left_leaf] at q0
    have Q0 := Lib.hid q0
    clear HV5 ht t1 t2 t3 d0 d1 d2 d3 d4 c0
    obtain ⟨d0, d1, d2, d3, d4, f0, f1, f2, f3, f4⟩ := five q0
    clear q0
    obtain ⟨bl, hbl⟩ : ∃ bl, x.leaf = bl := ⟨_, rfl⟩
    have HBL := Lib.hid hbl
    rw [hbl] at d0
    clear hbl
    cases bl
    case' false =>
      go_wp2_with fail
      obtain ⟨w6, hw6, hX6, hO6⟩ : ∃ w6, w6 = w5 ∧ w6.heap[w3.heap.size]? = some (.cells #[.bool x.leaf, .slice h1.A h1.n h1.c, .slice h1.B h1.m h1.d, .slice h1.K h1.k h1.e, .int .i64 (leftN x kx).next] 72 (0, 0)) ∧ Only (· = w3.heap.size) w5 w6 := ⟨_, rfl, by
        have := Q0.out
        rw [left_next0 HBL.out] at this
        rw [left_next0 HBL.out]
        exact this, Only.refl _ _⟩
    case' true =>
      go_wp2_with fail
      obtain ⟨w6, hw6, hX6, hO6⟩ : ∃ w6, w6 = w5.setCell ⟨w3.heap.size, 4, none⟩ (.int .i64 kx) ∧ w6.heap[w3.heap.size]? = some (.cells #[.bool x.leaf, .slice h1.A h1.n h1.c, .slice h1.B h1.m h1.d, .slice h1.K h1.k h1.e, .int .i64 (leftN x kx).next] 72 (0, 0)) ∧ Only (· = w3.heap.size) w5 w6 := ⟨_, rfl, by
        rw [left_next HBL.out]
        exact set4 _ Q0.out, (Only.refl _ _).set _ _ (.inr rfl)⟩
  all_goals
    rw [← hw6]
    clear hw6 d0 d1 d2 d3 d4 f0 f1 f2 f3 f4
    have HX6 := Lib.hid hX6
    have HO6 := Lib.hid hO6
    obtain ⟨d0, d1, d2, d3, d4, -⟩ := five hX6
    have hD5 : ¬ D5 w3.heap.size := fun hd => by
      rcases HT5.out.2.1 _ hd with hd | hd
      · have := HL.out.tr.lt.2 _ hd; omega
      · have hd' : V.heap.size ≤ w3.heap.size := hd
        have := HVs.out; omega
    have HD5 := Lib.hid hD5
    have hT6 : TrM w6 D5 tb g (mkA L F (rightN x)) F.dropLast root m many := HT5.out.1.keep (hO6.agree (fun b hb e => by
      rcases hb with hb | rfl
      · exact hD5 (e ▸ hb)
      · have := HL.out.tr.lt.1; omega))
    have HT6 := Lib.hid hT6
    obtain ⟨c0, -, -, -, -, -⟩ := hT6.cells
    have hag5 : Agree Cx w3 w6 := ((below_agree HVB.out.drew (fun b hb _ => HCx.out b hb)).trans (HT5.out.2.2.agree (fun b hb => (HL.out.cx b hb).1))).trans (hO6.agree (fun b hb e => by have := HCx.out b hb; omega))
    have HAG := Lib.hid hag5
    have HS6 := set_node (w := w6.drew) HT6.out.drew.2.1 s.num (y := y) (mk_some HL.out.tr.2.1.free (rightN x) HY.out) (hh := h1) (x := leftN x kx) (left_reads (show NdR w6.drew h1 (leftN x 0) from (HON.out.1.keep hag5).here)) (left_small HL.out.ok.1 _)
    clear hX6 hO6 hD5 hT6 hag5
    have hll := left_leaf x kx
    rw [show ndV h1 (leftN x kx) = .agg #[.bool x.leaf, .slice h1.A h1.n h1.c, .slice h1.B h1.m h1.d, .slice h1.K h1.k h1.e, .int .i64 (leftN x kx).next] by rw [← hll]] at HS6
    clear hll
    generalize (leftN x kx).next = nx6 at d4 HS6
    go_still_tail 6, (by kernel_rfl)
    change wpList _ _ _ _ _ w6.drew
    go_wp2_with fail
    refine HS6.mono ?_
    rintro e w7 ⟨rfl, ht⟩
    obtain ⟨D7, t1, t2, t3⟩ := trm_turn (w := w6.drew) HT6.out.drew ht
    have t3 : Only D5 w6 w7 := ⟨t3.os, t3.tape, t3.output, t3.size, t3.block⟩
    have hD53 : ∀ b, D5 b → D b ∨ w3.heap.size ≤ b := fun b hb => (HT5.out.2.1 b hb).imp id (fun h => by
      have h' : V.heap.size ≤ b := h
      have := HVs.out; omega)
    have hcd5 : ∀ b, Cx b → ¬ D5 b := fun b hb hd => by
      rcases hD53 b hd with h | h
      · exact (HL.out.cx b hb).1 h
      · have := HCx.out b hb; omega
    have hs6 : w3.heap.size ≤ w6.heap.size := by
      have := HVs.out; have := HT5.out.2.2.size; have := HO6.out.size
      have h' : V.heap.size ≤ w5.heap.size := HT5.out.2.2.size
      omega
    have hO37 : Only (fun b => D b ∨ w3.heap.size ≤ b) w3 w7 :=
      ((only_mono (below_only HVB.out.drew) (fun b hb => hb)).trans2 (only_mono HT5.out.2.2 (fun b hb => .inl hb)) (fun b hb => .inl hb) |>.trans2 HO6.out (fun b hb => .inl (.inr (by rw [hb]; exact Nat.le_refl _)))).trans2 t3 (fun b hb => .inl (hD53 b hb))
    have HT7 := Lib.hid (And.intro t1 (And.intro (show ∀ b, D7 b → D b ∨ w3.heap.size ≤ b from fun b hb => (t2 b hb).elim (hD53 b) (fun h => .inr (Nat.le_trans hs6 h))) (And.intro hO37 (HAG.out.trans (t3.agree hcd5)))))
    obtain ⟨c0, -, -, -, f1, -⟩ := t1.cells
    clear HS6 ht d0 d1 d2 d3 d4 t1 t2 t3 hD53 hcd5 hO37 hs6
    have W9 := Lib.hid (two_new w7 (.cells #[.slice FA fn fc] 25) (.cells #[.int .i64 s.num, .int .i64 kx] 3))
    go_wp2_with fail
    obtain ⟨U, hU, hUB, hUs, hU0, hU1⟩ := W9.out
    rw [← hU]
    have hTU := HT7.out.1.below hUB
    have HTU := Lib.hid hTU
    have HUB := Lib.hid hUB
    have hD7 : ∀ b, w7.heap.size ≤ b → ¬ D7 b := fun b hb hd => by
      have := HT7.out.1.lt.2 b hd
      omega
    have hC7 : ∀ b, Cx b → ¬ D7 b := fun b hb hd => by
      rcases HT7.out.2.1 b hd with h | h
      · exact (HL.out.cx b hb).1 h
      · have := HCx.out b hb; omega
    have HM := make_nxt (w := U) hTU.2.1 (by have := HL.out.few; rw [List.length_set, mkA_len]; simp at *; omega) (by have := HL.out.fewF; rw [List.length_dropLast]; omega) (hh := ⟨none, 0, 0, some ⟨w7.heap.size, 0, none⟩, 1, 1, some ⟨w7.heap.size + 1, 0, none⟩, 2, 2⟩) (x := rootN (sepN x) s.num kx) (root_on hU0 hU1 (((HON.out.2.2.keep HT7.out.2.2.2).now.mono (fun b hb => hC7 b hb.1)).keep (below_agree hUB (fun b hb hl => hl))) (hD7 _ (Nat.le_refl _)) (hD7 _ (Nat.le_succ _))) (root_small (sep_small HL.out.ok) _ _) rfl
    clear hU W9 hUB hUs hU0 hU1 hTU c0 f1
    refine HM.mono ?_
    rintro e w9 ⟨rfl, ht⟩
    obtain ⟨D9, t1, t2, t3⟩ := trm_turn HTU.out ht
    obtain ⟨-, c1, -, -, f1, -⟩ := t1.cells
    have HT9 := Lib.hid (And.intro t1 (And.intro t2 t3))
    clear HM ht t1 t2 t3
    go_wp2
    refine bodyPost_ret (v := .tuple #[]) (by simp [results, Try.results36, go_sem]) rfl ⟨rfl, D9, ?_, fun b hb => ?_, ?_⟩
    · have t := trm_setroot HT9.out.1 (nxt (mkA L F (rightN x)).length F.dropLast)
      show TrM _ D9 tb g (mkA ((mkA L F (rightN x)).set s.num (some (leftN x kx))) F.dropLast (rootN (sepN x) s.num kx)) F.dropLast.dropLast (nxt ((mkA L F (rightN x)).set s.num (some (leftN x kx))).length F.dropLast) m many
      rw [List.length_set]
      exact t
    · have hs7 := HT7.out.2.2.1.size
      have hsB := HB3.out.size
      have hMw := HL.out.mw
      have hsU := HUB.out.size
      rcases HT9.out.2.1 b hb with h | h
      · exact (HT7.out.2.1 b h).imp id (fun h => by omega)
      · exact .inr (by omega)
    · have hsB := HB3.out.size
      have hMw := HL.out.mw
      have hNM := HL.out.nm
      refine ((((below_only HB3.out).trans (only_mono HT7.out.2.2.1 (fun b hb => hb.imp id (fun h => .inl (by omega))))).trans (below_only HUB.out)).trans (only_mono HT9.out.2.2 (fun b hb => (HT7.out.2.1 b hb).imp id (fun h => .inl (by omega))))).set _ _ (.inr (.inr (.inr rfl)))
end Go.Proofs.Ytdkppgmhhijkgaa

namespace Go.Proofs.Ytdkppgmhhijkgaa
open Go.RowKit
set_option linter.unusedVariables false
set_option maxRecDepth 100000

set_option maxHeartbeats 8000000 in
theorem lay_more {w : World} {D : Nat → Prop} {tb g : Nat} {L : List (Option Nd)} {F : List Nat} {root m many N M gr c : Nat} {xs : List Value} {hi : Nat} {s : Stp} {a : Stp} {up : List Stp} {x : Nd} {h : Nh} {Cx : Nat → Prop}
    (hl : LayIn w D tb g L F root m many N M gr c xs hi s (a :: up) x h Cx) (hf : fitsN m x = false)
    (hIH : ∀ {w' : World} {D' : Nat → Prop} {L' : List (Option Nd)} {F' : List Nat} {root' hi' : Nat} {xs' : List Value} {x' : Nd} {h' : Nh} {Cx' : Nat → Prop}, LayIn w' D' tb g L' F' root' m many N M gr c xs' hi' a up x' h' Cx' →
      Calls Try.prog 36 #[.pointer (some ⟨tb, 0, none⟩), .slice (some ⟨gr, 0, none⟩) (up.length + 1 : Nat) c, ndV h' x'] w' (LayOut w' D' tb g N M m many (layR m (a :: up) x' L' F' root'))) :
    Calls Try.prog 36 #[.pointer (some ⟨tb, 0, none⟩), .slice (some ⟨gr, 0, none⟩) (up.length + 1 + 1 : Nat) c, ndV h x] w (LayOut w D tb g N M m many (layR m (s :: (a :: up)) x L F root)) := by
  rw [layR_not hf]
  obtain ⟨kx, hkx⟩ : ∃ kx, nxt L.length F = kx := ⟨_, rfl⟩
  rw [hkx]
  have HKX := Lib.hid hkx
  clear hkx
  obtain ⟨A, n, cA, B, k, d, K, i, ee⟩ := h
  have hn : x.pairs.length = n := hl.reads.here.1.1
  have hk : x.keys.length = k := hl.reads.here.2.1.1
  have hfx := hf
  unfold fitsN at hf
  simp at hf
  obtain ⟨y, hy⟩ := hl.nums s (by simp)
  obtain ⟨hh, hhd⟩ := hl.heads.1
  have W0 := Lib.hid (box5 w (.bool x.leaf) (.slice A n cA) (.slice B k d) (.slice K i ee) (.int .i64 x.next) 72)
  have HL := Lib.hid hl
  have HY := Lib.hid hy
  have HH := Lib.hid hhd
  have HFX := Lib.hid hfx
  have hnf : ¬ (n ≤ m ∧ k ≤ m) := by omega
  clear hf hn hk hy hhd hl hfx
  go_enter Try.func36, Try.ntmps36
  go_wp2_with fail
  obtain ⟨W, hW, hWB, hWs, hWh⟩ := W0.out
  rw [← hW]
  clear hW W0
  refine (last_any (own_keep HL.out.row hWB) HH.out).mono ?_
  rintro e w1 ⟨rfl, hb1⟩
  have HB1 := Lib.hid (hWB.trans (hb1.mono hWB.size))
  have hs1 : w.heap.size < w1.heap.size := by have := hb1.size; omega
  have HX := Lib.hid ((hb1.block w.heap.size (by omega)).trans hWh)
  obtain ⟨b0, b1, b2, b3, b4, -⟩ := five HX.out
  have HT := Lib.hid (HL.out.tr.below HB1.out)
  have hfd := field_num s hh
  obtain ⟨c0, c1, c2, c3, -, -⟩ := HT.out.cells
  clear hb1 hWB hWs hWh
  have HQ : ∃ w2, TrM w2 D tb g L F root m many ∧ True := ⟨_, HT.out, trivial⟩
  clear HQ
  by_cases hnm : (n : Int) ≤ (m : Int)
  case' pos =>
    go_wp2_with fail
    have hnmI : (n : Int) ≤ (m : Int) := by omega
    have hnmN : n ≤ m := by omega
    have hdk : decide ((k : Int) ≤ (m : Int)) = false := by simp; omega
    have hdkN : decide (k ≤ m) = false := by simp; omega
    go_quiet (fail)
    clear hdk hdkN hnmI hnmN
  case' neg =>
    go_wp2_with fail
    have hdn : decide ((n : Int) ≤ (m : Int)) = false := by simp; omega
    have hdnN : decide (n ≤ m) = false := by simp; omega
    go_quiet (fail)
    clear hdn hdnN
  all_goals
    obtain ⟨w2, hw2, hT2, hB2, hX2⟩ : ∃ w2, w2 = w1.drewN nq ∧ TrM w2 D tb g L F root m many ∧ Below w.heap.size w w2 ∧ w2.heap[w.heap.size]? = some (.cells #[.bool x.leaf, .slice A n cA, .slice B k d, .slice K i ee, .int .i64 x.next] 72 (0, 0)) := ⟨_, rfl, HT.out.drewN nq, below_drewN HB1.out nq, HX.out⟩
    rw [← hw2]
    have HT2 := Lib.hid hT2
    have HB2 := Lib.hid hB2
    have HX2 := Lib.hid hX2
    have HBX := Lib.hid (HB2.out)
    clear hw2 b0 b1 b2 b3 b4 c0 c1 c2 c3 HT HB1 HX hs1
    obtain ⟨b0, b1, b2, b3, b4, -⟩ := five hX2
    clear hT2 hB2 hX2
    have hs2 : w.heap.size ≤ w2.heap.size := HB2.out.size
    have HV := halve_any (w := w2) (C := Cx) (fun b hb => Nat.lt_of_lt_of_le (HL.out.cx b hb).2.2 hs2) (HL.out.reads.keep (below_agree HB2.out (fun b hb _ => (HL.out.cx b hb).2.2))) HL.out.ok HL.out.m3 HFX.out
    go_wp2_with fail
    refine HV.mono ?_
    rintro e w3 ⟨h1, h2, FA, fn, fc, rfl, on1, on2, onf, hb3⟩
    have HON := Lib.hid (And.intro on1 (And.intro on2 onf))
    have HB3 := Lib.hid (HB2.out.trans (hb3.mono HB2.out.size))
    have HT3 := Lib.hid (HT2.out.below hb3)
    have W4 := Lib.hid (two_new w3 (.cells #[.bool (leftN x 0).leaf, .slice h1.A h1.n h1.c, .slice h1.B h1.m h1.d, .slice h1.K h1.k h1.e, .int .i64 (leftN x 0).next] 72) (.cells #[.bool (rightN x).leaf, .slice h2.A h2.n h2.c, .slice h2.B h2.m h2.d, .slice h2.K h2.k h2.e, .int .i64 (rightN x).next] 72))
    clear HV on1 on2 onf hb3 b0 b1 b2 b3 b4 HT2 HB2 HX2 HBX
    go_wp2_with fail
    obtain ⟨V, hV, hVB, hVs, hV0, hV1⟩ := W4.out
    rw [← hV]
    have hsV : w.heap.size ≤ w3.heap.size := HB3.out.size
    have HTV := Lib.hid (HT3.out.below hVB)
    have HBV := Lib.hid (HB3.out.trans (hVB.mono HB3.out.size))
    obtain ⟨d0, d1, d2, d3, d4, -⟩ := five hV1
    obtain ⟨c0, -, -, -, -, -⟩ := HTV.out.cells
    have HV0 := Lib.hid hV0
    have HVs := Lib.hid hVs
    clear hV W4 HT3 hV0 hV1
    have hCx : ∀ b, Cx b → b < w3.heap.size := fun b hb => Nat.lt_of_lt_of_le (HL.out.cx b hb).2.2 hsV
    have HCx := Lib.hid hCx
    have HV5 := make_nxt (w := V.drew) HTV.out.drew.2.1 (by have := HL.out.few; omega) (by have := HL.out.fewF; omega) (hh := h2) (x := rightN x) ((HON.out.2.1.keep (below_agree hVB.drew (fun b hb _ => hCx b hb))).now.mono (fun b hb => (HL.out.cx b hb.1).1)) (right_small HL.out.ok.1) HKX.out
    have HVB := Lib.hid hVB
    clear hVB hCx hVs
    go_still_tail 5, (by kernel_rfl)
    change wpList _ _ _ _ _ V.drew
    go_wp2_with fail
    refine HV5.mono ?_
    rintro e w5 ⟨rfl, ht⟩
    obtain ⟨D5, t1, t2, t3⟩ := trm_turn (w := V.drew) HTV.out.drew ht
    have HT5 := Lib.hid (And.intro t1 (And.intro t2 t3))
    have hD3 : ¬ D w3.heap.size := fun hd => by have := HL.out.tr.lt.2 _ hd; omega
    have q0 := (t3.block w3.heap.size (by show w3.heap.size < V.heap.size; have := HVs.out; omega) hD3).trans HV0.out
    rw [left_leaf] at q0
    have Q0 := Lib.hid q0
    clear HV5 ht t1 t2 t3 d0 d1 d2 d3 d4 c0
    obtain ⟨d0, d1, d2, d3, d4, f0, f1, f2, f3, f4⟩ := five q0
    clear q0
    obtain ⟨bl, hbl⟩ : ∃ bl, x.leaf = bl := ⟨_, rfl⟩
    have HBL := Lib.hid hbl
    rw [hbl] at d0
    clear hbl
    cases bl
    case' false =>
      go_wp2_with fail
      obtain ⟨w6, hw6, hX6, hO6⟩ : ∃ w6, w6 = w5 ∧ w6.heap[w3.heap.size]? = some (.cells #[.bool x.leaf, .slice h1.A h1.n h1.c, .slice h1.B h1.m h1.d, .slice h1.K h1.k h1.e, .int .i64 (leftN x kx).next] 72 (0, 0)) ∧ Only (· = w3.heap.size) w5 w6 := ⟨_, rfl, by
        have := Q0.out
        rw [left_next0 HBL.out] at this
        rw [left_next0 HBL.out]
        exact this, Only.refl _ _⟩
    case' true =>
      go_wp2_with fail
      obtain ⟨w6, hw6, hX6, hO6⟩ : ∃ w6, w6 = w5.setCell ⟨w3.heap.size, 4, none⟩ (.int .i64 kx) ∧ w6.heap[w3.heap.size]? = some (.cells #[.bool x.leaf, .slice h1.A h1.n h1.c, .slice h1.B h1.m h1.d, .slice h1.K h1.k h1.e, .int .i64 (leftN x kx).next] 72 (0, 0)) ∧ Only (· = w3.heap.size) w5 w6 := ⟨_, rfl, by
        rw [left_next HBL.out]
        exact set4 _ Q0.out, (Only.refl _ _).set _ _ (.inr rfl)⟩
  all_goals
    rw [← hw6]
    clear hw6 d0 d1 d2 d3 d4 f0 f1 f2 f3 f4
    have HX6 := Lib.hid hX6
    have HO6 := Lib.hid hO6
    obtain ⟨d0, d1, d2, d3, d4, -⟩ := five hX6
    have hD5 : ¬ D5 w3.heap.size := fun hd => by
      rcases HT5.out.2.1 _ hd with hd | hd
      · have := HL.out.tr.lt.2 _ hd; omega
      · have hd' : V.heap.size ≤ w3.heap.size := hd
        have := HVs.out; omega
    have HD5 := Lib.hid hD5
    have hT6 : TrM w6 D5 tb g (mkA L F (rightN x)) F.dropLast root m many := HT5.out.1.keep (hO6.agree (fun b hb e => by
      rcases hb with hb | rfl
      · exact hD5 (e ▸ hb)
      · have := HL.out.tr.lt.1; omega))
    have HT6 := Lib.hid hT6
    obtain ⟨c0, -, -, -, -, -⟩ := hT6.cells
    have hag5 : Agree Cx w3 w6 := ((below_agree HVB.out.drew (fun b hb _ => HCx.out b hb)).trans (HT5.out.2.2.agree (fun b hb => (HL.out.cx b hb).1))).trans (hO6.agree (fun b hb e => by have := HCx.out b hb; omega))
    have HAG := Lib.hid hag5
    have HS6 := set_node (w := w6.drew) HT6.out.drew.2.1 s.num (y := y) (mk_some HL.out.tr.2.1.free (rightN x) HY.out) (hh := h1) (x := leftN x kx) (left_reads (show NdR w6.drew h1 (leftN x 0) from (HON.out.1.keep hag5).here)) (left_small HL.out.ok.1 _)
    clear hX6 hO6 hD5 hT6 hag5
    have hll := left_leaf x kx
    rw [show ndV h1 (leftN x kx) = .agg #[.bool x.leaf, .slice h1.A h1.n h1.c, .slice h1.B h1.m h1.d, .slice h1.K h1.k h1.e, .int .i64 (leftN x kx).next] by rw [← hll]] at HS6
    clear hll
    generalize (leftN x kx).next = nx6 at d4 HS6
    go_still_tail 6, (by kernel_rfl)
    change wpList _ _ _ _ _ w6.drew
    go_wp2_with fail
    refine HS6.mono ?_
    rintro e w7 ⟨rfl, ht⟩
    obtain ⟨D7, t1, t2, t3⟩ := trm_turn (w := w6.drew) HT6.out.drew ht
    have t3 : Only D5 w6 w7 := ⟨t3.os, t3.tape, t3.output, t3.size, t3.block⟩
    have hD53 : ∀ b, D5 b → D b ∨ w3.heap.size ≤ b := fun b hb => (HT5.out.2.1 b hb).imp id (fun h => by
      have h' : V.heap.size ≤ b := h
      have := HVs.out; omega)
    have hcd5 : ∀ b, Cx b → ¬ D5 b := fun b hb hd => by
      rcases hD53 b hd with h | h
      · exact (HL.out.cx b hb).1 h
      · have := HCx.out b hb; omega
    have hs6 : w3.heap.size ≤ w6.heap.size := by
      have := HVs.out; have := HT5.out.2.2.size; have := HO6.out.size
      have h' : V.heap.size ≤ w5.heap.size := HT5.out.2.2.size
      omega
    have hO37 : Only (fun b => D b ∨ w3.heap.size ≤ b) w3 w7 :=
      ((only_mono (below_only HVB.out.drew) (fun b hb => hb)).trans2 (only_mono HT5.out.2.2 (fun b hb => .inl hb)) (fun b hb => .inl hb) |>.trans2 HO6.out (fun b hb => .inl (.inr (by rw [hb]; exact Nat.le_refl _)))).trans2 t3 (fun b hb => .inl (hD53 b hb))
    have HT7 := Lib.hid (And.intro t1 (And.intro (show ∀ b, D7 b → D b ∨ w3.heap.size ≤ b from fun b hb => (t2 b hb).elim (hD53 b) (fun h => .inr (Nat.le_trans hs6 h))) (And.intro hO37 (HAG.out.trans (t3.agree hcd5)))))
    obtain ⟨c0, -, -, -, f1, -⟩ := t1.cells
    clear HS6 ht d0 d1 d2 d3 d4 t1 t2 t3 hD53 hcd5 hO37 hs6
    obtain ⟨lo, hi', ha, n1, n2, n3, n4, n5, n6, n7⟩ := HL.out.nodes
    have hs3 : w.heap.size ≤ w3.heap.size := HB3.out.size
    have hMw := HL.out.mw
    have hhm := HL.out.him
    have hO7 : Only (fun b => D b ∨ w.heap.size ≤ b) w w7 := (below_only HB3.out).trans (only_mono HT7.out.2.2.1 (fun b hb => hb.imp id (fun h => Nat.le_trans hs3 h)))
    have hin7 : ∀ b, N ≤ b → b < M → ¬ (D b ∨ w.heap.size ≤ b) := fun b h1 h2 hd => by
      rcases hd with hd | hd
      · rcases HL.out.dn b hd with h | h <;> omega
      · omega
    have hrow7 : w7.ownsRow 0 74 7 (.slice (some ⟨gr, 0, none⟩) (up.length + 1 + 1) c) (up.length + 1 + 1) xs := own_agree HL.out.row (C := (· = gr)) (hO7.agree (fun b hb => hin7 b (by have := HL.out.gn; omega) (by have := HL.out.gn; omega))) (fun k hk => by injection hk with hk; exact hk.symm)
    have hcap := (own_caps hrow7).1
    have hcut := own_cut (m := up.length + 1) hrow7 (by omega)
    have hxl := hrow7.1
    have hheads : Heads (xs.take ((up.length + 1) * 7)) up.length a ha := n5.cells fun r hr => by rw [List.getElem?_take, if_pos (by omega)]
    have hpc : up.length + 1 ≤ c := by omega
    have hul : up.length ≤ 9000 := by have := HL.out.few; simp at this; omega
    have hw64 : wrap64 ((up.length : Int) + 1) = (up.length : Int) + 1 := (wrapEq _).symm.trans (IntWalk.i64_in _ (by omega))
    have HC0 := Lib.hid (And.intro n1 (And.intro n2 (And.intro n3 n4)))
    have HN := Lib.hid (And.intro n5 (And.intro n6 n7))
    have HO7 := Lib.hid hO7
    have HI7 := Lib.hid hin7
    have HROW := Lib.hid hcut
    have HHD := Lib.hid hheads
    have HXL := Lib.hid hxl
    clear n1 n2 n3 n4 n5 n6 n7 hO7 hin7 hrow7 hcap hcut hheads hxl
    go_wp2_with fail
    refine (last_any HROW.out HHD.out).mono ?_
    rintro e w8 ⟨rfl, hb8⟩
    have HB8 := Lib.hid hb8
    clear hb8
    have hO8 : Only (fun b => D b ∨ w.heap.size ≤ b) w w8 := HO7.out.trans (below_only HB8.out)
    have hs8 : w.heap.size ≤ w8.heap.size := hO8.size
    have hag : Agree (fun b => lo ≤ b ∧ b < hi') w w8 := hO8.agree (fun b hb => HI7.out b (by have := HC0.out.1; omega) (by have := HC0.out.2.2.1; omega))
    have hst := HL.out.ups a (by simp)
    have HWT := with_any (w := w8) (s := a) (h := ha) (C := fun b => lo ≤ b ∧ b < hi') (Cf := Cx) (HN.out.2.1.keep hag) (fun b hb => by have := HC0.out.2.2.1; omega) hst.2.1 hst.2.2.1 hst.2.2.2.1 hst.2.2.2.2 fc (x := sepN x)
      ((HON.out.2.2.keep HT7.out.2.2.2).keep (below_all HB8.out)) (fun b hb => ⟨fun h => by have := (HL.out.cx b hb).2.1; have := HC0.out.2.2.1; omega, by have := (HL.out.cx b hb).2.2; omega⟩) kx
    have HO8 := Lib.hid hO8
    clear hO8 hag hst
    go_wp2_with fail
    refine HWT.mono ?_
    rintro e w9 ⟨h9, rfl, on9, ho9⟩
    have HON9 := Lib.hid (And.intro on9 ho9)
    clear HWT on9 ho9
    go_wp2_with fail
    have hd7 : ∀ b, D7 b → D b ∨ M ≤ b := fun b hb => (HT7.out.2.1 b hb).imp id (fun h => by omega)
    have hdn7 : ∀ b, D7 b → b < N ∨ M ≤ b := fun b hb => (hd7 b hb).elim (HL.out.dn b) .inr
    have hc9 := HC0.out
    have hs9 : w8.heap.size ≤ w9.heap.size := HON9.out.2.size
    refine (hIH (w' := w9) (D' := D7) (L' := (mkA L F (rightN x)).set s.num (some (leftN x kx))) (F' := F.dropLast) (root' := root) (hi' := lo) (xs' := xs.take ((up.length + 1) * 7)) (x' := withN a (sepN x) kx) (h' := h9) (Cx' := fun b => ((lo ≤ b ∧ b < hi') ∨ Cx b ∨ w8.heap.size ≤ b) ∧ b < w9.heap.size) ⟨?_, hdn7, HL.out.tn, HL.out.nm, by omega, HL.out.gn, ?_, ⟨⟨ha, HHD.out⟩, ?_⟩, ?_, by omega, fun t ht => HL.out.ups t (by simp [ht]), fun t ht => ?_, HON9.out.1.now, fun b hb => ?_, with_ok (HL.out.ups a (by simp)) (sep_small HL.out.ok) _, HL.out.m3, HL.out.m16, ?_, by have := HL.out.fewF; rw [List.length_dropLast]; omega⟩).mono ?_
    · refine (HT7.out.1.below HB8.out).keep (HON9.out.2.agree fun b hb hc => ?_)
      rcases hb with hb | rfl
      · rcases hdn7 b hb with h | h <;> omega
      · have := HL.out.tn; omega
    · refine own_agree (own_keep HROW.out HB8.out) (C := (· = gr)) (HON9.out.2.agree fun b hb hc => ?_) (fun k hk => by injection hk with hk; exact hk.symm)
      omega
    · have hnx := (NodesR.heads HN.out.2.2)
      exact heads_cells hnx (fun i hi => by rw [List.getElem?_take, if_pos (by omega)])
    · refine (HN.out.2.2.keep (w' := w9) ((HO8.out.agree fun b hb => HI7.out b hb.1 (by omega)).trans (HON9.out.2.agree fun b hb hc => ?_))).cells (fun i hi => by rw [List.getElem?_take, if_pos (by omega)])
      omega
    · obtain ⟨y', hy'⟩ := HL.out.nums t (by simp at ht ⊢; exact .inr ht)
      by_cases e : t.num = s.num
      · exact ⟨_, by rw [e, lat_set_eq (by have := lat_lt HY.out; rw [mkA_len]; omega)]⟩
      · exact ⟨y', by rw [lat_set_ne e]; exact mk_some HL.out.tr.2.1.free _ hy'⟩
    · obtain ⟨hb1, hb2⟩ := hb
      rcases hb1 with hb1 | hb1 | hb1
      · refine ⟨fun hd => ?_, by omega, hb2⟩
        rcases hdn7 b hd with h | h <;> omega
      · have hcx := HL.out.cx b hb1
        refine ⟨fun hd => ?_, by omega, hb2⟩
        rcases HT7.out.2.1 b hd with h | h
        · exact hcx.1 h
        · omega
      · refine ⟨fun hd => ?_, by omega, hb2⟩
        have := HT7.out.1.lt.2 b hd
        have := HB8.out.size
        omega
    · have := HL.out.few
      rw [List.length_set, mkA_len]
      simp at this ⊢
      omega
    · rintro e w10 ⟨rfl, D10, t1, t2, t3⟩
      have HT10 := Lib.hid (And.intro t1 (And.intro t2 t3))
      have HD7 := Lib.hid hd7
      clear t1 t2 t3 hd7 hdn7 hc9
      go_wp2
      refine bodyPost_ret (v := .tuple #[]) (by simp [results, Try.results36, go_sem]) rfl ⟨rfl, D10, HT10.out.1, fun b hb => (HT10.out.2.1 b hb).elim (HD7.out b) .inr, ?_⟩
      have hNM := HL.out.nm
      have hn1 := HC0.out.1
      refine ((only_mono HO8.out (fun b hb => hb.imp id (fun h => .inl (by omega)))).trans (only_mono HON9.out.2 (fun b hb => .inr (.inl (by omega))))).trans (only_mono HT10.out.2.2 (fun b hb => ?_))
      rcases hb with hb | hb
      · exact (HD7.out b hb).imp id (fun h => .inl (by omega))
      · exact .inr hb
end Go.Proofs.Ytdkppgmhhijkgaa
