/- The contract of package prune's mend where a kid has too few. Condition: a sound tree's node, in blocks of its own. -/
import Derived.Test.YthbmchkbebneiaaG12
namespace Go.Proofs.Ythbmchkbebneiaa
open Go.RowKit
set_option linter.unusedVariables false
set_option maxRecDepth 100000

/-- What mend asks where a kid has too few. -/
structure FixIn (w : World) (D Cn : Nat → Prop) (tb g : Nat) (L : List (Option Nd)) (F : List Nat) (root m many i : Nat) (n : Nd) (hn : Nh) (kid sh : Nat) (xs : Nd) (at' low high : Nat) (x y : Nd) : Prop where
  base : MendIn w D Cn tb g L F root m many i n hn kid sh xs
  few8 : szNd xs < m / 2
  eat : at' = kid - 1
  atk : at' < n.keys.length
  klow : n.kids[at']? = some (low : Int)
  khigh : n.kids[at' + 1]? = some (high : Int)
  lx : lat L low = some x
  ly : lat L high = some y
  wx : x.leaf = true ∨ (x.leaf = false ∧ x.kids.length = x.keys.length + 1)
  wy : y.leaf = true ∨ (y.leaf = false ∧ y.kids.length = y.keys.length + 1)
  eq : x.leaf = y.leaf
  sx : szNd x ≤ 16
  sy : szNd y ≤ 16
  ll : low ≠ high
  il : i ≠ low
  ih : i ≠ high
  hi : ∃ z, lat L i = some z
  fewF : F.length ≤ 2000
  m3 : 3 ≤ m
  ks : ∀ j, j < n.keys.length → (kat n.keys j).length ≤ 1000
  np : n.pairs = []
  nx : n.next = 0

theorem key_cell {w : World} {h : Nh} {x : Nd} {C : Nat → Prop} (hn : NodeIn w C h x) {j : Nat} (hj : j < x.keys.length) :
    ∃ bk FA fn fc, h.B = some ⟨bk, 0, none⟩ ∧ C bk ∧ bk < w.heap.size ∧ w.cell? ⟨bk, j, none⟩ = some (.slice FA fn fc) ∧ On (fun b => C b ∧ bk ≠ b ∧ ∀ a, h.K = some a → a.block ≠ b) w (Byt · FA fn (kat x.keys j)) := by
  obtain ⟨ys, h3, h4⟩ := hn.keys
  have hm : x.keys.length = h.m := hn.reads.here.2.1.1
  obtain ⟨bk, hB, -, hbk⟩ := own_at h3 (by omega)
  obtain ⟨FA, fn, fc, e1, e2⟩ := h4.2 j hj
  refine ⟨bk, FA, fn, fc, hB, hn.inB _ hB, hbk, ?_, e2.mono (fun b hb => ⟨hb.1, hb.2.1 _ hB, hb.2.2⟩)⟩
  rw [hB] at h3
  rw [h3.cellAt j (by omega)]
  exact e1

theorem join_small {x y : Nd} {s : Ky} (hx : SmallN x) (hy : SmallN y) (he : x.leaf = y.leaf) (sx : szNd x ≤ 16) (sy : szNd y ≤ 16) (wx : x.leaf = true ∨ (x.leaf = false ∧ x.kids.length = x.keys.length + 1)) (wy : y.leaf = true ∨ (y.leaf = false ∧ y.kids.length = y.keys.length + 1)) (hs : s.length ≤ 1000) : SmallN (joinNd x s y) := by
  unfold szNd at sx sy
  unfold joinNd
  rcases wx with hl | ⟨hl, hk⟩
  · rw [if_pos hl] at sx
    rw [if_pos (he ▸ hl)] at sy
    rw [if_pos hl]
    exact ⟨by simp; omega, fun p hp => (List.mem_append.1 hp).elim (hx.2.1 p) (hy.2.1 p), by simp, by simp, by simp⟩
  · have hl' : y.leaf = false := he ▸ hl
    rw [if_neg (by simp [hl])] at sx
    rw [if_neg (by simp [hl'])] at sy
    rw [if_neg (by simp [hl])]
    rcases wy with h2 | ⟨h2, hk2⟩
    · rw [hl'] at h2; cases h2
    · refine ⟨by simp, (fun p hp => by cases hp), by simp; omega, fun j hj => ?_, by simp; omega⟩
      show (kat (x.keys ++ s :: y.keys) j).length ≤ 1000
      have hj : j < (x.keys ++ s :: y.keys).length := hj
      rw [kat_app]
      by_cases h1 : j < x.keys.length
      · rw [if_pos h1]; exact hx.2.2.2.1 j h1
      · rw [if_neg h1]
        rcases Nat.eq_zero_or_pos (j - x.keys.length) with h0 | h0
        · rw [h0]; exact hs
        · obtain ⟨t, ht⟩ : ∃ t, j - x.keys.length = t + 1 := ⟨j - x.keys.length - 1, by omega⟩
          rw [ht]
          exact hy.2.2.2.1 t (by simp at hj; omega)

theorem free_node {w : World} {D : Nat → Prop} {g : Nat} {L : List (Option Nd)} {F : List Nat} (h : Ar w D g L F) {k : Nat} {y : Nd} (hy : lat L k = some y) (hF : F.length ≤ 10000) :
    Calls Try.prog 73 #[.pointer (some ⟨g, 0, none⟩), .int .i64 k] w fun e w' => e = .returned .nilIface ∧ Turn w D g (L.set k none) (F ++ [k]) w' := by
  refine (free_yes h k hy hF).mono fun e w' ⟨h1, h2⟩ => ?_
  rw [(got_yes hy).1] at h1 h2
  rw [if_pos rfl] at h1 h2
  rw [if_pos rfl, Int.toNat_natCast] at h2
  exact ⟨by rw [h1]; rfl, h2⟩

/-- What joined left: the node in a box, its bytes apart from a few blocks. -/
def JndAt (w W7 : World) (Cn : Nat → Prop) (p13 p15 bk bi : Nat) (one : Nd) (s17 : Value) (wx : World) : Prop :=
  ∃ p17 h17, s17 = .pointer (some ⟨p17, 0, none⟩) ∧ Below W7.heap.size W7 wx ∧ Box wx p17 h17 one ∧ W7.heap.size ≤ p17 ∧
    On (fun b => (Cn b ∧ b ≠ bk ∧ b ≠ bi) ∨ (w.heap.size ≤ b ∧ b ≠ w.heap.size ∧ b ≠ p13 ∧ b ≠ p15 ∧ b ≠ p17 ∧ b < wx.heap.size)) wx (NdR · h17 one)
theorem joined_any {w : World} {C : Nat → Prop} {h g : Nh} {x y : Nd} {FA : Option Addr} {fn : Nat} (fc : Nat) {s : Ky} (hC : ∀ b, C b → b < w.heap.size) (hr : On C w (NdR · h x)) (hr' : On C w (NdR · g y)) (hf : On C w (Byt · FA fn s)) (he : x.leaf = y.leaf) (hx : szNd x ≤ 16) (hy : szNd y ≤ 16)
    (wx : x.leaf = true ∨ (x.leaf = false ∧ x.kids.length = x.keys.length + 1)) (wy : y.leaf = true ∨ (y.leaf = false ∧ y.kids.length = y.keys.length + 1)) :
    Calls Try.prog 86 #[ndV h x, .slice FA fn fc, ndV g y] w (Joined w C (joinNd x s y)) := by
  unfold szNd at hx hy
  rcases wx with hl | ⟨hl, hk⟩
  · rw [if_pos hl] at hx
    rw [if_pos (he ▸ hl)] at hy
    exact joined_leaf fc hC hr hr' hl (by omega) (by omega)
  · have hl' : y.leaf = false := he ▸ hl
    rw [if_neg (by simp [hl])] at hx
    rw [if_neg (by simp [hl'])] at hy
    rcases wy with h2 | ⟨h2, hk2⟩
    · rw [hl'] at h2; cases h2
    · exact joined_node fc hC hr hr' hf hl (by omega) (by omega) (by omega) (by omega)

theorem phalve_any {w : World} {C : Nat → Prop} {h : Nh} {x : Nd} (z : Int) (hC : ∀ b, C b → b < w.heap.size) (hr : On C w (NdR · h x)) (hw : x.leaf = true ∨ (x.leaf = false ∧ x.kids.length = x.keys.length + 1)) (h0 : 3 ≤ szNd x) (hn : szNd x ≤ 1000) :
    Calls Try.prog 89 #[ndV h x, .int .i64 z] w (PHalved w C x z) := by
  unfold szNd at h0 hn
  rcases hw with hl | ⟨hl, hk⟩
  · rw [if_pos hl] at h0 hn
    exact phalve_leaf z hC hr hl (by omega) hn
  · rw [if_neg (by simp [hl])] at h0 hn
    exact phalve_node z hC hr hl h0 hk hn
theorem join_whole {x y : Nd} {s : Ky} (he : x.leaf = y.leaf) (wx : x.leaf = true ∨ (x.leaf = false ∧ x.kids.length = x.keys.length + 1)) (wy : y.leaf = true ∨ (y.leaf = false ∧ y.kids.length = y.keys.length + 1)) :
    (joinNd x s y).leaf = true ∨ ((joinNd x s y).leaf = false ∧ (joinNd x s y).kids.length = (joinNd x s y).keys.length + 1) := by
  unfold joinNd
  rcases wx with hl | ⟨hl, hk⟩
  · rw [if_pos hl]; exact .inl rfl
  · rw [if_neg (by simp [hl])]
    rcases wy with h2 | ⟨h2, hk2⟩
    · rw [← he, hl] at h2; cases h2
    · exact .inr ⟨rfl, by simp; omega⟩
theorem join_size {x y : Nd} {s : Ky} (he : x.leaf = y.leaf) (sx : szNd x ≤ 16) (sy : szNd y ≤ 16) : szNd (joinNd x s y) ≤ 33 := by
  unfold szNd at sx sy
  unfold szNd joinNd
  cases hl : x.leaf
  · rw [if_neg (by simp [hl])] at sx
    rw [if_neg (by simp [← he, hl])] at sy
    simp; omega
  · rw [if_pos hl] at sx
    rw [if_pos (by simp [← he, hl])] at sy
    simp; omega
theorem kreads_set {C : Nat → Nat → Prop} {C' : Nat → Prop} {w : World} {ys : List Value} {L : List Ky} (h : KReads C w ys L) (i : Nat) (hC : ∀ t b, C t b → C' b) {A : Option Addr} {n : Nat} (c : Nat) {x : Ky} (hx : On C' w (Byt · A n x)) : KReads (fun _ => C') w (ys.set i (.slice A n c)) (L.set i x) := by
  refine ⟨by simp [h.1], fun j hj => ?_⟩
  rw [List.length_set] at hj
  by_cases h1 : i = j
  · subst h1
    refine ⟨A, n, c, by rw [List.getElem?_set_self (by rw [h.1]; exact hj)], ?_⟩
    have e : kat (L.set i x) i = x := by unfold kat; rw [List.getD_eq_getElem?_getD, List.getElem?_set_self hj]; rfl
    rw [e]; exact hx
  · obtain ⟨A, n, c, e1, e2⟩ := h.2 j hj
    refine ⟨A, n, c, by rw [List.getElem?_set_ne h1]; exact e1, ?_⟩
    have e : kat (L.set i x) j = kat L j := by unfold kat; rw [List.getD_eq_getElem?_getD, List.getD_eq_getElem?_getD, List.getElem?_set_ne h1]
    rw [e]; exact e2.mono (hC j)

theorem sep_small2 {x : Nd} (hs : SmallN x) (hw : x.leaf = true ∨ (x.leaf = false ∧ x.kids.length = x.keys.length + 1)) : (sepN x).length ≤ 1000 := by
  unfold sepN
  by_cases hl : x.leaf = true
  · rw [if_pos hl]
    rcases Nat.eq_zero_or_pos x.pairs.length with h0 | h0
    · rw [List.length_eq_zero_iff.1 h0]; simp [gt]
    · have := hs.2.1 _ (gt_mem (show x.pairs.length / 2 < x.pairs.length by omega))
      exact this.1
  · rw [if_neg hl]
    rcases Nat.eq_zero_or_pos x.keys.length with h0 | h0
    · rw [List.length_eq_zero_iff.1 h0]; simp [kat]
    · exact hs.2.2.2.1 _ (by omega)

/-- What mend leaves. -/
def Mended (w : World) (D Cn : Nat → Prop) (tb g root m many : Nat) (out : List (Option Nd) × List Nat) (e : Ending) (w' : World) : Prop :=
  e = .returned (.tuple #[]) ∧ ∃ D', TrM w' D' tb g out.1 out.2 root m many ∧ (∀ b, D' b → D b ∨ w.heap.size ≤ b) ∧ Only (fun b => D b ∨ Cn b) w w'

theorem kreads_cut {C : Nat → Nat → Prop} {C' : Nat → Prop} {w : World} {ys : List Value} {L : List Ky} (h : KReads C w ys L) (i : Nat) (hC : ∀ t b, C t b → C' b) : KReads (fun _ => C') w (ys.take i ++ ys.drop (i + 1)) (L.take i ++ L.drop (i + 1)) := by
  have hl := h.1
  refine ⟨by simp; omega, fun j hj => ?_⟩
  rw [List.length_append, List.length_take, List.length_drop] at hj
  rw [kat_app, List.length_take]
  by_cases h1 : j < min i L.length
  · rw [if_pos h1, kat_take _ (by rw [List.length_take]; exact h1), List.getElem?_append_left (by rw [List.length_take]; omega), List.getElem?_take, if_pos (by omega)]
    obtain ⟨A, n, c, e1, e2⟩ := h.2 j (by omega)
    exact ⟨A, n, c, e1, e2.mono (hC j)⟩
  · rw [if_neg h1, kat_drop, List.getElem?_append_right (by rw [List.length_take]; omega), List.length_take, List.getElem?_drop, hl]
    obtain ⟨A, n, c, e1, e2⟩ := h.2 (i + 1 + (j - min i L.length)) (by omega)
    exact ⟨A, n, c, e1, e2.mono (hC _)⟩
theorem prs_empty {w w' : World} {A : Option Addr} {n c : Nat} {L : List Pr} (h : Prs w A n c L) (hL : L = []) : Prs w' A n c [] := by
  subst hL
  obtain ⟨h1, h2, h3, h4, h5⟩ := h
  have : n = 0 := h1.symm
  exact ⟨h1, h2, h3, h4, fun hn => by omega⟩
theorem ins_cut {L : List Int} (i : Nat) : (L.map intV).take i ++ (L.map intV).drop (i + 1) = (L.take i ++ L.drop (i + 1)).map intV := by simp [List.map_take, List.map_drop]

theorem one_set {w : World} {b : Nat} {T : TypeId} {a0 a1 a2 a3 a4 : Value} (u : Value) (h : w.heap[b]? = some (.cells #[a0, a1, a2, a3, a4] T (0, 0))) :
    (∃ V, V = w.setCell ⟨b, 2, none⟩ u ∧ V.heap[b]? = some (.cells #[a0, a1, u, a3, a4] T (0, 0)) ∧ Only (· = b) w V) ∧ ∃ V, V = w.setCell ⟨b, 3, none⟩ u ∧ V.heap[b]? = some (.cells #[a0, a1, a2, u, a4] T (0, 0)) ∧ Only (· = b) w V :=
  ⟨⟨_, rfl, by simp [World.setCell, Array.getElem?_modify, h], (Only.refl (· = b) w).set ⟨b, 2, none⟩ u (.inr rfl)⟩, ⟨_, rfl, by simp [World.setCell, Array.getElem?_modify, h], (Only.refl (· = b) w).set ⟨b, 3, none⟩ u (.inr rfl)⟩⟩

set_option maxHeartbeats 16000000 in
theorem mend_fix {w : World} {D Cn : Nat → Prop} {tb g : Nat} {L : List (Option Nd)} {F : List Nat} {root m many i : Nat} {n : Nd} {hn : Nh} {kid sh : Nat} {xs : Nd} {at' low high : Nat} {x y : Nd} (h : FixIn w D Cn tb g L F root m many i n hn kid sh xs at' low high x y) :
    Calls Try.prog 72 #[.pointer (some ⟨tb, 0, none⟩), .int .i64 i, ndV hn n, .int .i64 kid] w (Mended w D Cn tb g root m many (fixO m L F i n at' low high (joinNd x (kat n.keys at') y))) := by
  obtain ⟨bi, hK, hCi, hbi, hci, hkk⟩ := iat_cell h.base.nin h.base.kid
  obtain ⟨bi', hK', -, -, hcl, hkl⟩ := iat_cell h.base.nin h.klow
  obtain ⟨bi'', hK'', -, -, hch, hkh⟩ := iat_cell h.base.nin h.khigh
  rw [hK] at hK' hK''
  injection hK' with hK'
  injection hK' with hK'
  injection hK'' with hK''
  injection hK'' with hK''
  subst hK'
  subst hK''
  have hkid : kid ≤ 16 := by have := h.base.kk; have := h.base.k16; have := (List.getElem?_eq_some_iff.1 h.base.kid).1; omega
  obtain ⟨bk, FA, fn, fc, hB, hCk, hbk, hck, honk⟩ := key_cell h.base.nin h.atk
  have hbki : bk ≠ bi := h.base.nin.apart _ _ hB hK
  obtain ⟨A, an, ac, B, bn, bc, K, kn, kc⟩ := hn
  simp only at hK hkk hkl hkh hB honk
  subst hK
  subst hB
  have honk' : On (fun b => Cn b ∧ b ≠ bk ∧ b ≠ bi) w (Byt · FA fn (kat n.keys at')) := honk.mono (fun b hb => ⟨hb.1, fun e => hb.2.1 e.symm, fun e => hb.2.2 _ rfl e.symm⟩)
  have HONK := Lib.hid (And.intro honk' (And.intro hck hbk))
  have HCN := Lib.hid (And.intro hCk hCi)
  have hbn : n.keys.length = bn := h.base.nin.reads.here.2.1.1
  have H := Lib.hid h
  have hat16 : at' ≤ 16 := by have := h.atk; have := h.base.k16; omega
  have hatn : at' < bn := by have := h.atk; omega
  have hmax : max ((kid : Int) - 1) 0 = (at' : Int) := by have := h.eat; omega
  have HCI := Lib.hid (And.intro hbi (And.intro hci (And.intro hcl hch)))
  have W0 := Lib.hid (box5 w (.bool n.leaf) (.slice A an ac) (.slice (some ⟨bk, 0, none⟩) bn bc) (.slice (some ⟨bi, 0, none⟩) kn kc) (.int .i64 n.next) 74)
  clear h hci hCi hcl hch hbn honk honk' hck hCk
  go_enter Try.func72, Try.ntmps72
  go_wp2_with fail
  obtain ⟨W, hW, hWB, hWs, hWh⟩ := W0.out
  rw [← hW]
  have HT := Lib.hid (H.out.base.tr.below hWB)
  have HBX := Lib.hid (show Box W w.heap.size ⟨A, an, ac, some ⟨bk, 0, none⟩, bn, bc, some ⟨bi, 0, none⟩, kn, kc⟩ n from hWh)
  have HWB := Lib.hid (And.intro hWB hWs)
  have hpl : w.heap.size < W.heap.size := by omega
  clear hW W0 hWB hWh hWs
  go_upto_region 1 with fail
  go_cut [8, 9] (fun s8 s9 wx => Got8 W xs s8 s9 wx)
  case first =>
    as_aux_lemma =>
      --A0
      obtain ⟨c0, -, -, -, -, -⟩ := HT.out.cells
      obtain ⟨-, -, -, b3, -, -⟩ := five HBX.out
      have hk1 : W.cell? ⟨bi, kid, none⟩ = some (.int .i64 sh) := (HWB.out.1.cell (p := ⟨bi, kid, none⟩) HCI.out.1).trans HCI.out.2.1
      have htl : tb < W.heap.size := HT.out.lt.1
      have hbl : bi < W.heap.size := by have := HCI.out.1; have := HWB.out.2; omega
      have hpl : w.heap.size < W.heap.size := by have := HWB.out.2; omega
      have HG : Hid (∀ V : World, Below W.heap.size W V → Calls Try.prog 38 #[.pointer (some ⟨g, 0, none⟩), .int .i64 sh] V (GotN V xs)) := Lib.hid fun V hV => get_node (HT.out.below hV).2.1 (by have := lat_lt H.out.base.sh; have := H.out.base.few; omega) H.out.base.sh
      have HK := Lib.hid (And.intro c0 (And.intro b3 hk1))
      go_region_law (first
        | (go_simp
           go_at_call 38
           refine (HG.out _ (by first | exact (Below.refl W.heap.size W).drew | exact ((Below.refl W.heap.size W).drew).alloc (Nat.le_refl _) _ | exact ((Below.refl W.heap.size W).alloc (Nat.le_refl _) _).drew)).mono ?_
           rintro e w2 ⟨h8, rfl, hin8, hb8⟩
           have hb2 : Below W.heap.size W w2 := by first | exact undrew hb8 | exact (((Below.refl W.heap.size W).drew).alloc (Nat.le_refl _) _).trans (hb8.mono (by simp)) | exact (((Below.refl W.heap.size W).alloc (Nat.le_refl _) _).drew).trans (hb8.mono (by simp))
           have c0 := (hb2.cell (p := ⟨tb, 0, none⟩) htl).trans HK.out.1
           have b3 := (hb2.cell (p := ⟨w.heap.size, 3, none⟩) hpl).trans HK.out.2.1
           have hk1 := (hb2.cell (p := ⟨bi, kid, none⟩) hbl).trans HK.out.2.2
           first | (have Z := Lib.hid ((hb8.block W.heap.size (by simp)).trans (heap_alloc_new W _)); obtain ⟨z0, z1, z2, z3, z4, y0, y1, y2, y3, y4⟩ := five Z.out) | skip
           have HB2 := Lib.hid (And.intro hb2 (And.intro hin8.reads hb8))
           clear hb2 hin8 hb8
           go_wp2_with fail))
      all_goals
        first
          | (obtain ⟨V, hV, hVB, hVs, hVh⟩ := box5 w2 (.bool xs.leaf) (.slice h8.A h8.n h8.c) (.slice h8.B h8.m h8.d) (.slice h8.K h8.k h8.e) (.int .i64 xs.next) 74
             rw [← hV]
             have HG8 := Lib.hid (show Got8 W xs (.pointer (some ⟨w2.heap.size, 0, none⟩)) (.bool true) V from ⟨_, h8, rfl, rfl, HB2.out.1.trans (hVB.mono HB2.out.1.size), hVh, HB2.out.1.size, sz_nh HB2.out.2.1.here⟩))
          | (obtain ⟨V, hV, hVh, hVO⟩ := five_set (.bool xs.leaf) (.slice h8.A h8.n h8.c) (.slice h8.B h8.m h8.d) (.slice h8.K h8.k h8.e) (.int .i64 xs.next) Z.out
             rw [← hV]
             have HG8 := Lib.hid (show Got8 W xs (.pointer (some ⟨W.heap.size, 0, none⟩)) (.bool true) V from ⟨_, h8, rfl, rfl, HB2.out.1.trans (hVO.below (fun b hb => by rw [hb]; exact Nat.le_refl _) HB2.out.1.size), hVh, Nat.le_refl _, sz_nh HB2.out.2.1.here⟩))
        clear hV
        go_wp2
        go_meet
        exact HG8.out
      --A1
  case rest =>
    obtain ⟨p8, h8, rfl, rfl, hb, hbx, hp8, hsz⟩ := hcut
    have HB := Lib.hid (And.intro hb (And.intro hbx (And.intro hp8 hsz)))
    have hbW := HWB.out.1.trans (hb.mono HWB.out.1.size)
    have HBW := Lib.hid hbW
    have HT2 := Lib.hid (H.out.base.tr.below hbW)
    have hb6 := HBX.out.below hb
    have HB6 := Lib.hid hb6
    obtain ⟨c0, -, c2, -, -, -⟩ := HT2.out.cells
    obtain ⟨d0, d1, d2, d3, d4, -⟩ := five hbx
    obtain ⟨-, -, k2, -, -, -⟩ := five hb6
    clear hb hbx hp8 hsz hbW hb6
    obtain ⟨sz, hsz'⟩ : ∃ a, a = szNd xs := ⟨_, rfl⟩
    obtain ⟨m2, hm2⟩ : ∃ a, a = m / 2 := ⟨_, rfl⟩
    have hw2 : IntKind.i64.wrap ((m : Int) / 2) = (m2 : Int) := by have := H.out.base.m16; rw [IntWalk.i64_in _ (by omega)]; omega
    have hge : ¬ ((m2 : Int) ≤ (sz : Int)) := by have := H.out.few8; omega
    have hged : decide ((m2 : Int) ≤ (sz : Int)) = false := by simp; omega
    have hgeN : decide (m2 ≤ sz) = false := by have := H.out.few8; simp; omega
    have heq : ((at' : Int) == (bn : Int)) = false := by simp; omega
    have heqN : ¬ ((at' : Int) = (bn : Int)) := by omega
    have heqM : ¬ (at' = bn) := by omega
    have HSZ : Hid (∀ v : World, Calls Try.prog 84 #[ndV h8 xs] v fun e w' => e = .returned (.int .i64 sz) ∧ Below v.heap.size v w') := Lib.hid fun v => (size_any (h := h8) (x := xs)).mono fun e w' hh => ⟨by rw [hh.1, HB.out.2.2.2, hsz'], hh.2⟩
    have htl := HT2.out.lt.1
    have hp8l := HB.out.2.1.lt
    have hp6l := HB6.out.lt
    have HK := Lib.hid (And.intro c2 (And.intro d0 (And.intro d1 (And.intro d2 (And.intro d3 (And.intro d4 k2))))))
    clear hsz' hm2
    go_upto_region 3 with fail
    go_region_held3 (fun w' => w'.cell? ⟨tb, 2, none⟩ = some (.int .i64 m) ∧ w'.cell? ⟨p8, 0, none⟩ = some (.bool xs.leaf) ∧ w'.cell? ⟨p8, 1, none⟩ = some (.slice h8.A h8.n h8.c) ∧ w'.cell? ⟨p8, 2, none⟩ = some (.slice h8.B h8.m h8.d) ∧ w'.cell? ⟨p8, 3, none⟩ = some (.slice h8.K h8.k h8.e) ∧ w'.cell? ⟨p8, 4, none⟩ = some (.int .i64 xs.next) ∧ w'.cell? ⟨w.heap.size, 2, none⟩ = some (.slice (some ⟨bk, 0, none⟩) bn bc)) (go_keep)
      ((go_at_call 84
        (with_reducible refine (HSZ.out _).mono ?_)
        rintro e w3 ⟨rfl, hb3⟩
        have hb3 := undrew hb3
        have c2 := (hb3.cell (p := ⟨tb, 2, none⟩) htl).trans HK.out.1
        have d0 := (hb3.cell (p := ⟨p8, 0, none⟩) hp8l).trans HK.out.2.1
        have d1 := (hb3.cell (p := ⟨p8, 1, none⟩) hp8l).trans HK.out.2.2.1
        have d2 := (hb3.cell (p := ⟨p8, 2, none⟩) hp8l).trans HK.out.2.2.2.1
        have d3 := (hb3.cell (p := ⟨p8, 3, none⟩) hp8l).trans HK.out.2.2.2.2.1
        have d4 := (hb3.cell (p := ⟨p8, 4, none⟩) hp8l).trans HK.out.2.2.2.2.2.1
        have k2 := (hb3.cell (p := ⟨w.heap.size, 2, none⟩) hp6l).trans HK.out.2.2.2.2.2.2
        have HB3 := Lib.hid hb3
        clear hb3))
    all_goals
      have hbw3 := HBW.out.trans (HB3.out.mono HBW.out.size)
      have HB3W := Lib.hid hbw3
      have HB63 := Lib.hid (HB6.out.below HB3.out)
      have HT3 := Lib.hid (H.out.base.tr.below hbw3)
      clear c0 c2 d0 d1 d2 d3 d4 k2 HK HSZ hbw3 HB HB6 HT2 HBX HT
      obtain ⟨-, -, -, k3, -, -⟩ := five HB63.out
      have kl : w3.cell? ⟨bi, at', none⟩ = some (.int .i64 low) := (HB3W.out.cell (p := ⟨bi, at', none⟩) HCI.out.1).trans HCI.out.2.2.1
      have kh : w3.cell? ⟨bi, at' + 1, none⟩ = some (.int .i64 high) := (HB3W.out.cell (p := ⟨bi, at' + 1, none⟩) HCI.out.1).trans HCI.out.2.2.2
      have hw1 : IntKind.i64.wrap ((at' : Int) + 1) = (at' : Int) + 1 := IntWalk.i64_in _ (by omega)
      have hb1 : (0 : Int) ≤ (at' : Int) + 1 := by omega
      have htn : ((at' : Int) + 1).toNat = at' + 1 := by omega
      have hix : (at' : Int) < (kn : Int) := by omega
      have hix1 : (at' : Int) + 1 < (kn : Int) := by omega
      clear hged hgeN hge heq heqN heqM hw2
      go_wp2_with fail
      go_quiet (fail)
      clear kl kh k3 hw1 hb1 htn hix hix1
      obtain ⟨w4, hw4, hB4⟩ : ∃ w4, w4 = w3.drewN nq ∧ Below w3.heap.size w3 w4 := ⟨_, rfl, below_drewN (Below.refl _ _) nq⟩
      rw [← hw4]
      have HB4 := Lib.hid (HB3W.out.trans (hB4.mono HB3W.out.size))
      have HB64 := Lib.hid (HB63.out.below hB4)
      have HT4 := Lib.hid (H.out.base.tr.below HB4.out)
      obtain ⟨c0, -, -, -, -, -⟩ := HT4.out.cells
      clear hw4 hB4
      have HG5 := get_node HT4.out.2.1 (by have := lat_lt H.out.lx; have := H.out.base.few; omega) H.out.lx
      go_wp2_with fail
      refine HG5.mono ?_
      rintro e w5 ⟨h13, rfl, hin13, hb5⟩
      have HIN13 := Lib.hid hin13
      have HB5 := Lib.hid hb5
      have W5 := Lib.hid (box5 w5 (.bool x.leaf) (.slice h13.A h13.n h13.c) (.slice h13.B h13.m h13.d) (.slice h13.K h13.k h13.e) (.int .i64 x.next) 74)
      clear HG5 hin13 hb5 c0
      have HG6 : Hid (∀ V : World, Below w.heap.size w V → Calls Try.prog 38 #[.pointer (some ⟨g, 0, none⟩), .int .i64 high] V (GotN V y)) := Lib.hid fun V hV => get_node (H.out.base.tr.below hV).2.1 (by have := lat_lt H.out.ly; have := H.out.base.few; omega) H.out.ly
      have c0 : w5.cell? ⟨tb, 0, none⟩ = some (.pointer (some ⟨g, 0, none⟩)) := (HT4.out.below HB5.out).cells.1
      have htl5 : tb < w5.heap.size := (HT4.out.below HB5.out).lt.1
      go_wp2_with fail
      obtain ⟨V5, hV5, hVB5, hVs5, hVh5⟩ := W5.out
      rw [← hV5]
      have HV5 := Lib.hid (HB4.out.trans ((HB5.out.mono HB4.out.size).trans (hVB5.mono (Nat.le_trans HB4.out.size HB5.out.size))))
      have HVB5 := Lib.hid (And.intro hVB5 hVs5)
      have HP13 := Lib.hid (show Box V5 w5.heap.size h13 x from hVh5)
      clear hV5 W5 hVB5 hVs5 hVh5 c0
      refine (HG6.out V5 HV5.out).mono ?_
      rintro e w6 ⟨h15, rfl, hin15, hb6⟩
      have HIN15 := Lib.hid hin15
      have HB6 := Lib.hid hb6
      have W6 := Lib.hid (box5 w6 (.bool y.leaf) (.slice h15.A h15.n h15.c) (.slice h15.B h15.m h15.d) (.slice h15.K h15.k h15.e) (.int .i64 y.next) 74)
      have HP136 := Lib.hid (HP13.out.below hb6)
      obtain ⟨d0, d1, d2, d3, d4, -⟩ := five HP136.out
      clear hin15 hb6 HG6
      go_upto_region 7 with fail
      obtain ⟨V6, hV6, hVB6, hVs6, hVh6⟩ := W6.out
      rw [← hV6]
      have hbV6 := HV5.out.trans ((HB6.out.mono HV5.out.size).trans (hVB6.mono (Nat.le_trans HV5.out.size HB6.out.size)))
      have HV6 := Lib.hid hbV6
      have HVB6 := Lib.hid (And.intro hVB6 hVs6)
      have HP15 := Lib.hid (show Box V6 w6.heap.size h15 y from hVh6)
      have HP137 := Lib.hid (HP136.out.below hVB6)
      have hnx := HIN13.out.reads.here
      have hny := HIN15.out.reads.here
      have HWX : WholeN h13 x := H.out.wx.imp id (fun hh => ⟨hh.1, by have := hnx.2.1.1; have := hnx.2.2.1; omega, by have := hnx.2.1.1; have := H.out.sx; unfold szNd at this; rw [hh.1] at this; simp at this; omega⟩)
      have HWY : WholeN h15 y := H.out.wy.imp id (fun hh => ⟨hh.1, by have := hny.2.1.1; have := hny.2.2.1; omega, by have := hny.2.1.1; have := H.out.sy; unfold szNd at this; rw [hh.1] at this; simp at this; omega⟩)
      have HAL := alike_any (w := V6) HWX HWY H.out.eq
      clear hV6 W6 hVB6 hVs6 hVh6 d0 d1 d2 d3 d4 hnx hny HWX HWY hbV6
      obtain ⟨d0, d1, d2, d3, d4, -⟩ := five HP137.out
      obtain ⟨e0, e1, e2, e3, e4, -⟩ := five HP15.out
      go_wp2_with fail
      refine HAL.mono ?_
      rintro e w7 ⟨rfl, hb7⟩
      have HB7 := Lib.hid hb7
      have HB7W := Lib.hid (HV6.out.trans (hb7.mono HV6.out.size))
      clear HAL hb7 d0 d1 d2 d3 d4 e0 e1 e2 e3 e4
      go_upto_region 8 with fail
      have hs4 := HB64.out.lt
      have hs5 := HB5.out.size
      have hs5' := HVB5.out.2
      have hs6 := HB6.out.size
      have hs6' := HVB6.out.2
      have hs7 := HB7.out.size
      have hb47 : Below w4.heap.size w4 w7 := HB5.out.trans ((HVB5.out.1.mono hs5).trans ((HB6.out.mono (by omega)).trans ((HVB6.out.1.mono (by omega)).trans (HB7.out.mono (by omega)))))
      have HB67 := Lib.hid (HB64.out.below hb47)
      clear hb47
      go_cut [17] (fun s17 wx => JndAt w w7 Cn w5.heap.size w6.heap.size bk bi (joinNd x (kat n.keys at') y) s17 wx)
      case first =>
        as_aux_lemma =>
          --A0
          have HJ : Hid (∀ V : World, Below w7.heap.size w7 V → Calls Try.prog 86 #[ndV h13 x, .slice FA fn fc, ndV h15 y] V (Joined V (fun b => (Cn b ∧ b ≠ bk ∧ b ≠ bi) ∨ (w4.heap.size ≤ b ∧ b < w5.heap.size) ∨ (V5.heap.size ≤ b ∧ b < w6.heap.size)) (joinNd x (kat n.keys at') y))) := Lib.hid fun V hV => by
            have hwV := HB7W.out.trans (hV.mono HB7W.out.size)
            have h5V : Below w5.heap.size w5 V := (HVB5.out.1.trans ((HB6.out.mono HVB5.out.1.size).trans ((HVB6.out.1.mono (by omega)).trans (HB7.out.mono (by omega))))).trans (hV.mono (by omega))
            have h6V : Below w6.heap.size w6 V := (HVB6.out.1.trans (HB7.out.mono (by omega))).trans (hV.mono (by omega))
            have hsV := hV.size
            refine joined_any fc (fun b hb => ?_) ((HIN13.out.reads.keep (below_agree h5V (fun b hb hl => hl))).mono (fun b hb => .inr (.inl hb))) ((HIN15.out.reads.keep (below_agree h6V (fun b hb hl => hl))).mono (fun b hb => .inr (.inr hb))) ((HONK.out.1.keep (below_agree hwV (fun b hb hl => hl))).mono (fun b hb => .inl hb)) H.out.eq H.out.sx H.out.sy H.out.wx H.out.wy
            rcases hb with hb | hb | hb
            · have := (H.out.base.cn b hb.1).2.2
              omega
            · omega
            · omega
          obtain ⟨d0, d1, d2, d3, d4, -⟩ := five (HP137.out.below HB7.out)
          obtain ⟨e0, e1, e2, e3, e4, -⟩ := five (HP15.out.below HB7.out)
          obtain ⟨-, -, k2, -, -, -⟩ := five HB67.out
          have hck7 : w7.cell? ⟨bk, at', none⟩ = some (.slice FA fn fc) := (HB7W.out.cell (p := ⟨bk, at', none⟩) HONK.out.2.2).trans HONK.out.2.1
          have hixk : (at' : Int) < (bn : Int) := by omega
          have hl13 : w5.heap.size < w7.heap.size := by omega
          have hl15 : w6.heap.size < w7.heap.size := by omega
          have hl6 : w.heap.size < w7.heap.size := by omega
          have hlk : bk < w7.heap.size := by have := HONK.out.2.2; omega
          have hne1 : ¬ (w5.heap.size = w7.heap.size) := by omega
          have hne2 : ¬ (w7.heap.size = w5.heap.size) := by omega
          have hne3 : ¬ (w6.heap.size = w7.heap.size) := by omega
          have hne4 : ¬ (w7.heap.size = w6.heap.size) := by omega
          have hne5 : ¬ (w.heap.size = w7.heap.size) := by omega
          have hne6 : ¬ (w7.heap.size = w.heap.size) := by omega
          have hne7 : ¬ (bk = w7.heap.size) := by omega
          have hne8 : ¬ (w7.heap.size = bk) := by omega
          have HA := Lib.hid (fun o => ((Below.refl w7.heap.size w7).alloc (Nat.le_refl _) o).drew)
          have HA0 := Lib.hid ((Below.refl w7.heap.size w7).drew)
          have HAS : Hid (∀ o : Obj, w7.heap.size < (w7.alloc o).drew.heap.size) := Lib.hid fun o => by show w7.heap.size < (w7.alloc o).heap.size; simp
          have HAH : Hid (∀ o : Obj, (w7.alloc o).drew.heap[w7.heap.size]? = some o) := Lib.hid fun o => heap_alloc_new w7 o
          have HKD := Lib.hid (And.intro d0 (And.intro d1 (And.intro d2 (And.intro d3 d4))))
          have HKE := Lib.hid (And.intro e0 (And.intro e1 (And.intro e2 (And.intro e3 e4))))
          have HKK := Lib.hid (And.intro k2 hck7)
          have HS56 := Lib.hid (And.intro hs5' hs6')
          clear hs5' hs6'
          go_region_held3 (fun w' => w'.cell? ⟨w5.heap.size, 0, none⟩ = some (.bool x.leaf) ∧ w'.cell? ⟨w5.heap.size, 1, none⟩ = some (.slice h13.A h13.n h13.c) ∧ w'.cell? ⟨w5.heap.size, 2, none⟩ = some (.slice h13.B h13.m h13.d) ∧ w'.cell? ⟨w5.heap.size, 3, none⟩ = some (.slice h13.K h13.k h13.e) ∧ w'.cell? ⟨w5.heap.size, 4, none⟩ = some (.int .i64 x.next) ∧
              w'.cell? ⟨w6.heap.size, 0, none⟩ = some (.bool y.leaf) ∧ w'.cell? ⟨w6.heap.size, 1, none⟩ = some (.slice h15.A h15.n h15.c) ∧ w'.cell? ⟨w6.heap.size, 2, none⟩ = some (.slice h15.B h15.m h15.d) ∧ w'.cell? ⟨w6.heap.size, 3, none⟩ = some (.slice h15.K h15.k h15.e) ∧ w'.cell? ⟨w6.heap.size, 4, none⟩ = some (.int .i64 y.next) ∧
              w'.cell? ⟨w.heap.size, 2, none⟩ = some (.slice (some ⟨bk, 0, none⟩) bn bc) ∧ w'.cell? ⟨bk, at', none⟩ = some (.slice FA fn fc)) (go_keep)
            ((go_at_call 86
              (with_reducible refine (HJ.out _ (by first | with_reducible exact HA0.out | with_reducible exact HA.out _)).mono ?_)
              rintro e w8 ⟨h17, rfl, hon8, hb8⟩
              have hb2 : Below w7.heap.size w7 w8 := by first | with_reducible exact HA0.out.trans (hb8.mono HA0.out.size) | with_reducible exact (HA.out _).trans (hb8.mono (HA.out _).size)
              try (have Z := Lib.hid ((hb8.block w7.heap.size (HAS.out _)).trans (HAH.out _)); obtain ⟨z0, z1, z2, z3, z4, y0, y1, y2, y3, y4⟩ := five Z.out)
              have d0 := (hb2.cell (p := ⟨w5.heap.size, 0, none⟩) hl13).trans HKD.out.1
              have d1 := (hb2.cell (p := ⟨w5.heap.size, 1, none⟩) hl13).trans HKD.out.2.1
              have d2 := (hb2.cell (p := ⟨w5.heap.size, 2, none⟩) hl13).trans HKD.out.2.2.1
              have d3 := (hb2.cell (p := ⟨w5.heap.size, 3, none⟩) hl13).trans HKD.out.2.2.2.1
              have d4 := (hb2.cell (p := ⟨w5.heap.size, 4, none⟩) hl13).trans HKD.out.2.2.2.2
              have e0 := (hb2.cell (p := ⟨w6.heap.size, 0, none⟩) hl15).trans HKE.out.1
              have e1 := (hb2.cell (p := ⟨w6.heap.size, 1, none⟩) hl15).trans HKE.out.2.1
              have e2 := (hb2.cell (p := ⟨w6.heap.size, 2, none⟩) hl15).trans HKE.out.2.2.1
              have e3 := (hb2.cell (p := ⟨w6.heap.size, 3, none⟩) hl15).trans HKE.out.2.2.2.1
              have e4 := (hb2.cell (p := ⟨w6.heap.size, 4, none⟩) hl15).trans HKE.out.2.2.2.2
              have k2 := (hb2.cell (p := ⟨w.heap.size, 2, none⟩) hl6).trans HKK.out.1
              have hck7 := (hb2.cell (p := ⟨bk, at', none⟩) hlk).trans HKK.out.2
              have HB8 := Lib.hid hb2
              have HON8 := Lib.hid hon8.now
              clear hb2 hon8 hb8))
          all_goals
            have hs8 := HB8.out.size
            have hs5' := HS56.out.1
            have hs6' := HS56.out.2
            generalize hone : joinNd x (kat n.keys at') y = one at *
            first
              | (obtain ⟨V, hV, hVB, hVs, hVh⟩ := box5 w8 (.bool one.leaf) (.slice h17.A h17.n h17.c) (.slice h17.B h17.m h17.d) (.slice h17.K h17.k h17.e) (.int .i64 one.next) 74
                 rw [← hV]
                 have HG17 := Lib.hid (show JndAt w w7 Cn w5.heap.size w6.heap.size bk bi one (.pointer (some ⟨w8.heap.size, 0, none⟩)) V from ⟨_, h17, rfl, HB8.out.trans (hVB.mono hs8), hVh, hs8, (HON8.out.keep (below_all hVB)).mono (fun b hb => by
                   obtain ⟨hb, hl⟩ := hb
                   rcases hb with (hb | hb | hb) | hb
                   · exact .inl hb
                   · exact .inr (by omega)
                   · exact .inr (by omega)
                   · exact .inr (by simp at hb; omega))⟩))
              | (obtain ⟨V, hV, hVh, hVO⟩ := five_set (.bool one.leaf) (.slice h17.A h17.n h17.c) (.slice h17.B h17.m h17.d) (.slice h17.K h17.k h17.e) (.int .i64 one.next) Z.out
                 rw [← hV]
                 have HG17 := Lib.hid (show JndAt w w7 Cn w5.heap.size w6.heap.size bk bi one (.pointer (some ⟨w7.heap.size, 0, none⟩)) V from ⟨_, h17, rfl, HB8.out.trans (hVO.below (fun b hb => by rw [hb]; exact Nat.le_refl _) hs8), hVh, Nat.le_refl _, by
                   have hsV := hVO.size
                   refine (HON8.out.keep (hVO.agree (fun b hb e => ?_))).mono (fun b hb => ?_)
                   · obtain ⟨hb, hl⟩ := hb
                     rcases hb with (hb | hb | hb) | hb
                     · have := (H.out.base.cn b hb.1).2.2; omega
                     · omega
                     · omega
                     · simp at hb; omega
                   · obtain ⟨hb, hl⟩ := hb
                     rcases hb with (hb | hb | hb) | hb
                     · exact .inl hb
                     · exact .inr (by omega)
                     · exact .inr (by omega)
                     · exact .inr (by simp at hb; omega)⟩))
            clear hV
            go_wp2
            go_meet
            exact HG17.out
          --A1
      case rest =>
        obtain ⟨p17, h17, rfl, hb8, hbx17, hp17, hon17⟩ := hcut
        have hbw8 := HB7W.out.trans (hb8.mono HB7W.out.size)
        have HB8W := Lib.hid hbw8
        have HB68 := Lib.hid (HB67.out.below hb8)
        have HP138 := Lib.hid ((HP137.out.below HB7.out).below hb8)
        have HP158 := Lib.hid ((HP15.out.below HB7.out).below hb8)
        have HT8 := Lib.hid (H.out.base.tr.below hbw8)
        have hl6 : w.heap.size < p17 := by omega
        have hl13 : w5.heap.size < p17 := by omega
        have hl15 : w6.heap.size < p17 := by omega
        have hl56 : w5.heap.size < w6.heap.size := by omega
        have hl05 : w.heap.size < w5.heap.size := by omega
        have HON17 := Lib.hid hon17
        obtain ⟨one, hone⟩ : ∃ one, one = joinNd x (kat n.keys at') y := ⟨_, rfl⟩
        rw [← hone] at hbx17 HON17
        have HONE := Lib.hid hone
        have HBX := Lib.hid hbx17
        obtain ⟨d0, d1, d2, d3, d4, -⟩ := five hbx17
        obtain ⟨-, -, c2, -, -, -⟩ := HT8.out.cells
        have hszn := sz_nh HON17.out.here
        obtain ⟨so, hso⟩ : ∃ a, a = szNd one := ⟨_, rfl⟩
        rw [← hso] at hszn
        have HSO := Lib.hid (And.intro hso hszn)
        have HSZ : Hid (∀ v : World, Calls Try.prog 84 #[ndV h17 one] v fun e w' => e = .returned (.int .i64 so) ∧ Below v.heap.size v w') := Lib.hid fun v => (size_any (h := h17) (x := one)).mono fun e w' hh => ⟨by rw [hh.1, HSO.out.2], hh.2⟩
        have htl8 := HT8.out.lt.1
        have hpl17 := hbx17.lt
        have HK := Lib.hid (And.intro c2 (And.intro d0 (And.intro d1 (And.intro d2 (And.intro d3 d4)))))
        clear hb8 hbx17 hp17 hon17 hbw8 hone hso hszn HIN13 HIN15 HB5 HVB5 HV5 HB6 HV6 HVB6 HB7 HB7W HP13 HP136 HP137 HP15 HB67 HB64 HT4 HB4 HB63 HB3W HT3 hs4 hs5 hs5' hs6 hs6' hs7
        go_upto_region 9 with fail
        go_region_held3 (fun w' => w'.cell? ⟨tb, 2, none⟩ = some (.int .i64 m) ∧ w'.cell? ⟨p17, 0, none⟩ = some (.bool one.leaf) ∧ w'.cell? ⟨p17, 1, none⟩ = some (.slice h17.A h17.n h17.c) ∧ w'.cell? ⟨p17, 2, none⟩ = some (.slice h17.B h17.m h17.d) ∧ w'.cell? ⟨p17, 3, none⟩ = some (.slice h17.K h17.k h17.e) ∧ w'.cell? ⟨p17, 4, none⟩ = some (.int .i64 one.next)) (go_keep)
          ((go_at_call 84
            (with_reducible refine (HSZ.out _).mono ?_)
            rintro e w9 ⟨rfl, hb9⟩
            have hb9 := undrew hb9
            have c2 := (hb9.cell (p := ⟨tb, 2, none⟩) htl8).trans HK.out.1
            have d0 := (hb9.cell (p := ⟨p17, 0, none⟩) hpl17).trans HK.out.2.1
            have d1 := (hb9.cell (p := ⟨p17, 1, none⟩) hpl17).trans HK.out.2.2.1
            have d2 := (hb9.cell (p := ⟨p17, 2, none⟩) hpl17).trans HK.out.2.2.2.1
            have d3 := (hb9.cell (p := ⟨p17, 3, none⟩) hpl17).trans HK.out.2.2.2.2.1
            have d4 := (hb9.cell (p := ⟨p17, 4, none⟩) hpl17).trans HK.out.2.2.2.2.2
            have HB9 := Lib.hid hb9
            clear hb9))
        clear c2 d0 d1 d2 d3 d4 HK
        have hbw9 := HB8W.out.trans (HB9.out.mono HB8W.out.size)
        have hl9 := HB9.out.size
        have HB9W := Lib.hid hbw9
        have HB69 := Lib.hid (HB68.out.below HB9.out)
        have HP139 := Lib.hid (HP138.out.below HB9.out)
        have HP159 := Lib.hid (HP158.out.below HB9.out)
        have HP179 := Lib.hid (HBX.out.below HB9.out)
        have HT9 := Lib.hid (H.out.base.tr.below hbw9)
        have HON9 := Lib.hid (HON17.out.keep (below_agree HB9.out (fun b hb hl => hl)))
        have hp17l : p17 < w9.heap.size := by omega
        clear HB68 HP138 HP158 HBX HT8 HON17 HB8W HB9 HSZ htl8 hpl17 hbw9 hl9
        by_cases hfit : so ≤ m
        · skip
          --A0
          have hfI : (so : Int) ≤ (m : Int) := by omega
          have HFIT := Lib.hid hfit
          obtain ⟨d0, d1, d2, d3, d4, -⟩ := five HP179.out
          obtain ⟨c0, -, c2, -, -, -⟩ := HT9.out.cells
          clear hfit
          go_upto_region 10 with fail
          clear hfI
          have HS10 := set_node (w := w9.drew) HT9.out.drew.2.1 low H.out.lx (hh := h17) (x := one) (HON9.out.keep (below_all (Below.refl w9.heap.size w9).drew)).here (by rw [HONE.out]; exact join_small (HT9.out.2.1.small H.out.lx) (HT9.out.2.1.small H.out.ly) H.out.eq H.out.sx H.out.sy H.out.wx H.out.wy (H.out.ks at' H.out.atk))
          go_still_tail 6, (by kernel_rfl)
          change wpList _ _ _ _ _ w9.drew
          go_wp2_with fail
          refine HS10.mono ?_
          rintro e w10 ⟨rfl, ht10⟩
          obtain ⟨D10, t1, t2, t3⟩ := trm_turn (w := w9.drew) HT9.out.drew ht10
          have HT10 := Lib.hid t1
          have HD10 := Lib.hid (show ∀ b, D10 b → D b ∨ w9.heap.size ≤ b from t2)
          have hO10 : Only D w9 w10 := ⟨t3.os, t3.tape, t3.output, t3.size, t3.block⟩
          have HO10 := Lib.hid hO10
          have hpD : ∀ b, w.heap.size ≤ b → ¬ D b := fun b hb hd => by have := H.out.base.tr.lt.2 b hd; omega
          have HPD := Lib.hid hpD
          have hsz9 := HB9W.out.size
          obtain ⟨c0, -, -, -, -, -⟩ := t1.cells
          clear HS10 ht10 t1 t2 t3 d0 d1 d2 d3 d4 c0 c2 hpD hO10
          have HF11 := free_node (k := high) HT10.out.2.1 (by rw [lat_set_ne (fun e => H.out.ll e.symm)]; exact H.out.ly) (by have := H.out.fewF; omega)
          obtain ⟨c0, -, -, -, -, -⟩ := HT10.out.cells
          go_wp2_with fail
          refine HF11.mono ?_
          rintro e w11 ⟨rfl, ht11⟩
          obtain ⟨D11, t1, t2, t3⟩ := trm_turn HT10.out ht11
          have hs10 := HO10.out.size
          have HT11 := Lib.hid (And.intro t1 (And.intro (show ∀ b, D11 b → D b ∨ w9.heap.size ≤ b from fun b hb => (t2 b hb).elim (HD10.out b) (fun h => .inr (by omega))) (show Only (fun b => D b ∨ w9.heap.size ≤ b) w9 w11 from (only_mono HO10.out (fun b hb => .inl hb)).trans (only_mono t3 (HD10.out)))))
          clear HF11 ht11 t1 t2 t3 c0 HT10 HD10 HO10 hs10
          have hag11 : ∀ b, b < w9.heap.size → ¬ D b → w11.heap[b]? = w9.heap[b]? := fun b hb hd => HT11.out.2.2.block b hb (fun h => h.elim hd (fun h => by omega))
          have HAG := Lib.hid hag11
          have hb6 : Box w11 w.heap.size ⟨A, an, ac, some ⟨bk, 0, none⟩, bn, bc, some ⟨bi, 0, none⟩, kn, kc⟩ n := HB69.out.at (hag11 _ HB69.out.lt (HPD.out _ (Nat.le_refl _)))
          have hnk := H.out.base.cn bk HCN.out.1
          have hni := H.out.base.cn bi HCN.out.2
          have hbk11 : w11.heap[bk]? = w.heap[bk]? := (hag11 bk (by omega) hnk.1).trans (HB9W.out.block bk hnk.2.2)
          have hbi11 : w11.heap[bi]? = w.heap[bi]? := (hag11 bi (by omega) hni.1).trans (HB9W.out.block bi hni.2.2)
          obtain ⟨ys, hky, hkr⟩ := H.out.base.nin.keys
          simp only at hky hkr
          have hs11 := HT11.out.2.2.size
          have hrow := own_agree hky (w' := w11) (C := (· = bk)) ⟨by omega, fun b hb hl => by rw [hb]; exact hbk11⟩ (fun k hk => by injection hk with hk; exact hk.symm)
          have hroi := own_agree H.out.base.nin.kids (w' := w11) (C := (· = bi)) ⟨by omega, fun b hb hl => by rw [hb]; exact hbi11⟩ (fun k hk => by injection hk with hk; exact hk.symm)
          have HD12 := delk_any (i := at') hrow (by have := H.out.base.k16; have := H.out.base.nin.reads.here.2.1.1; simp only at this; omega) hatn (kreads_one hkr)
          have e1 : ((at' + 1 : Nat) : Int) = (at' : Int) + 1 := by omega
          rw [e1] at HD12
          have HKR := Lib.hid hkr
          have HROI := Lib.hid hroi
          have HB6 := Lib.hid hb6
          obtain ⟨-, -, k2, k3, -, -, -, f2, f3, -⟩ := five hb6
          clear hag11 hb6 hnk hni hbk11 hbi11 hky hkr hs11 hrow hroi e1
          go_wp2_with fail
          refine HD12.mono ?_
          rintro e w12 ⟨rfl, hro12, hg12⟩
          have hO12 : Only (· = bk) w11 w12 := (Only.refl _ _).grown hg12 (fun k hk => by injection hk with hk; exact .inr hk.symm)
          have hb12 : Box w12 w.heap.size ⟨A, an, ac, some ⟨bk, 0, none⟩, bn, bc, some ⟨bi, 0, none⟩, kn, kc⟩ n := HB6.out.at (hO12.block _ HB6.out.lt (by omega))
          have HR12 := Lib.hid (And.intro hro12 hO12)
          have W13 := Lib.hid (one_set (.slice (some ⟨bk, 0, none⟩) (bn - 1) bc) hb12).1
          obtain ⟨-, -, k2', k3', -, -, -, f2', f3', -⟩ := five hb12
          have hw1 : IntKind.i64.wrap ((at' : Int) + 1) = (at' : Int) + 1 := IntWalk.i64_in _ (by omega)
          have hw2 : IntKind.i64.wrap ((at' : Int) + 2) = (at' : Int) + 2 := IntWalk.i64_in _ (by omega)
          clear HD12 hro12 hg12 hO12 hb12 k2 k3 f2 f3
          go_wp2_with fail
          obtain ⟨V13, hV13, hVh13, hVO13⟩ := W13.out
          rw [← hV13]
          have hroi13 := own_agree (own_agree HROI.out (w' := w12) (C := (· = bi)) (HR12.out.2.agree (fun b hb => by rw [hb]; omega)) (fun k hk => by injection hk with hk; exact hk.symm)) (w' := V13) (C := (· = bi)) (hVO13.agree (fun b hb => by rw [hb]; omega)) (fun k hk => by injection hk with hk; exact hk.symm)
          have hkn : n.kids.length = kn := H.out.base.nin.reads.here.2.2.1
          have hkn2 : kn = bn + 1 := by have := H.out.base.kk; have := H.out.base.nin.reads.here.2.1.1; simp only at this; omega
          have HD14 := deli_any (i := at' + 1) hroi13 (by have := H.out.base.k16; have := H.out.base.kk; omega) (by omega) (fun v hv => by obtain ⟨z, -, rfl⟩ := List.mem_map.1 hv; rfl)
          have e2 : ((at' + 1 : Nat) : Int) = (at' : Int) + 1 := by omega
          have e3 : ((at' + 1 + 1 : Nat) : Int) = (at' : Int) + 2 := by omega
          rw [e2, e3, ins_cut] at HD14
          have HR13 := Lib.hid (And.intro hVh13 hVO13)
          have HKN2 := Lib.hid hkn2
          clear hV13 hVh13 hVO13 hroi13 hkn hkn2 e2 e3 hw1 hw2 k2' k3' f2' f3' W13
          refine HD14.mono ?_
          rintro e w14 ⟨rfl, hro14, hg14⟩
          have hO14 : Only (· = bi) V13 w14 := (Only.refl _ _).grown hg14 (fun k hk => by injection hk with hk; exact .inr hk.symm)
          have hb14 := (hO14.block w.heap.size (Array.getElem?_eq_some_iff.1 HR13.out.1).1 (by omega)).trans HR13.out.1
          have HR14 := Lib.hid (And.intro hro14 hO14)
          have W15 := Lib.hid (one_set (.slice (some ⟨bi, 0, none⟩) (kn - 1) kc) hb14).2
          obtain ⟨-, -, -, k3, -, -, -, -, f3, -⟩ := five hb14
          clear HD14 hro14 hg14 hO14 hb14
          go_upto_region 17 with fail
          clear k3 f3
          obtain ⟨V15, hV15, hVh15, hVO15⟩ := W15.out
          rw [← hV15]
          have hO15 : Only (fun b => b = bk ∨ b = bi ∨ b = w.heap.size) w11 V15 := ((only_mono HR12.out.2 (fun b hb => .inl hb)).trans (only_mono HR13.out.2 (fun b hb => .inr (.inr hb)))).trans ((only_mono HR14.out.2 (fun b hb => .inr (.inl hb))).trans (only_mono hVO15 (fun b hb => .inr (.inr hb))))
          have hnk := H.out.base.cn bk HCN.out.1
          have hni := H.out.base.cn bi HCN.out.2
          have htbw := H.out.base.tr.lt.1
          have hT15 : TrM V15 D11 tb g ((L.set low (some one)).set high none) (F ++ [high]) root m many := HT11.out.1.keep (hO15.agree (fun b hb e => by
            rcases hb with hb | hb
            · rcases HT11.out.2.1 b hb with hd | hd
              · rcases e with e | e | e
                · exact hnk.1 (e ▸ hd)
                · exact hni.1 (e ▸ hd)
                · exact HPD.out b (by omega) hd
              · omega
            · have := hnk.2.1; have := hni.2.1; omega))
          have hwV : Agree (fun b => Cn b ∧ bk ≠ b ∧ bi ≠ b) w V15 := (below_agree HB9W.out (fun b hb hl => hl)).trans (((HT11.out.2.2.agree (fun b hb e => by
            rcases e with e | e
            · exact (H.out.base.cn b hb.1).1 e
            · have := (H.out.base.cn b hb.1).2.2; omega))).trans (hO15.agree (fun b hb e => by
            rcases e with e | e | e
            · exact hb.2.1 e.symm
            · exact hb.2.2 e.symm
            · have := (H.out.base.cn b hb.1).2.2; omega)))
          have hrk := own_agree (own_agree (own_agree HR12.out.1 (w' := V13) (C := (· = bk)) (HR13.out.2.agree (fun b hb => by rw [hb]; omega)) (fun k hk => by injection hk with hk; exact hk.symm)) (w' := w14) (C := (· = bk)) (HR14.out.2.agree (fun b hb => by rw [hb]; omega)) (fun k hk => by injection hk with hk; exact hk.symm)) (w' := V15) (C := (· = bk)) (hVO15.agree (fun b hb => by rw [hb]; omega)) (fun k hk => by injection hk with hk; exact hk.symm)
          have hri := own_agree HR14.out.1 (w' := V15) (C := (· = bi)) (hVO15.agree (fun b hb => by rw [hb]; omega)) (fun k hk => by injection hk with hk; exact hk.symm)
          have hnd15 : NdR V15 ⟨A, an, ac, some ⟨bk, 0, none⟩, bn - 1, bc, some ⟨bi, 0, none⟩, kn - 1, kc⟩ (cutN n at') := ⟨prs_empty H.out.base.nin.reads.here.1 H.out.np,
            (kys_on (C := fun _ => True) hrk (((kreads_cut HKR.out at' (C' := fun b => Cn b ∧ bk ≠ b ∧ bi ≠ b) (fun t b hb => ⟨hb.1, hb.2.1 _ rfl, hb.2.2 _ rfl⟩)).keep (fun t => hwV)).mono (fun t ht b hb => trivial)) (fun a e => trivial)).here,
            (ins_on (C := fun _ => True) hri (fun a e => trivial)).here⟩
          have hsm : SmallN (cutN n at') := by
            have q1 := H.out.base.k16
            have q2 := H.out.base.kk
            refine ⟨by simp [cutN], (fun p hp => by cases hp), by simp [cutN]; omega, fun j hj => ?_, by simp [cutN]; omega⟩
            have hj : j < (n.keys.take at' ++ n.keys.drop (at' + 1)).length := hj
            show (kat (n.keys.take at' ++ n.keys.drop (at' + 1)) j).length ≤ 1000
            rw [List.length_append, List.length_take, List.length_drop] at hj
            rw [kat_app, List.length_take]
            by_cases h1 : j < min at' n.keys.length
            · rw [if_pos h1, kat_take _ (by rw [List.length_take]; exact h1)]
              exact H.out.ks j (by omega)
            · rw [if_neg h1, kat_drop]
              exact H.out.ks _ (by omega)
          obtain ⟨zi, hzi⟩ := H.out.hi
          have HS16 := set_node (w := V15.drew) hT15.drew.2.1 i (by rw [lat_set_ne H.out.ih, lat_set_ne H.out.il]; exact hzi) (hnd15.below (Below.refl _ _).drew) hsm
          rw [H.out.base.lf, H.out.nx] at hVh15
          obtain ⟨c0, -, -, -, -, -⟩ := hT15.cells
          obtain ⟨d0, d1, d2, d3, d4, -⟩ := five hVh15
          have HT15 := Lib.hid (And.intro hT15 hO15)
          clear hzi hsm hnd15 hri hrk hwV hT15 hO15 hVh15 hVO15 hV15 W15
          go_still_tail 6, (by kernel_rfl)
          change wpList _ _ _ _ _ V15.drew
          go_wp2_with fail
          refine HS16.mono ?_
          rintro e w16 ⟨rfl, ht16⟩
          obtain ⟨D16, t1, t2, t3⟩ := trm_turn (w := V15.drew) HT15.out.1.drew ht16
          have HT16 := Lib.hid (show Mended w D Cn tb g root m many (fixO m L F i n at' low high (joinNd x (kat n.keys at') y)) (.returned (.tuple #[])) w16 from ⟨rfl, D16, by
              have ef : fixO m L F i n at' low high (joinNd x (kat n.keys at') y) = (((L.set low (some one)).set high none).set i (some (cutN n at')), F ++ [high]) := by
                rw [← HONE.out]
                unfold fixO
                rw [if_pos (by rw [← HSO.out.1]; exact HFIT.out)]
              rw [ef]; exact t1, fun b hb => by
              rcases t2 b hb with hb | hb
              · rcases HT11.out.2.1 b hb with hb | hb
                · exact .inl hb
                · exact .inr (by omega)
              · have h1 : V15.heap.size ≤ b := hb
                have := HT15.out.2.size
                have := HT11.out.2.2.size
                exact .inr (by omega),
              (((below_only HB9W.out).trans2 HT11.out.2.2 (fun b hb => hb.elim (fun h => .inl (.inl h)) (fun h => .inr (by omega)))).trans2 HT15.out.2 (fun b hb => by
                rcases hb with e | e | e
                · rw [e]; exact .inl (.inr HCN.out.1)
                · rw [e]; exact .inl (.inr HCN.out.2)
                · exact .inr (by omega))).trans2 (show Only D11 V15 w16 from ⟨t3.os, t3.tape, t3.output, t3.size, t3.block⟩) (fun b hb => by
                rcases HT11.out.2.1 b hb with hb | hb
                · exact .inl (.inl hb)
                · exact .inr (by omega))⟩)
          clear t1 t2 t3 ht16 HS16 c0 d0 d1 d2 d3 d4
          go_wp2
          exact bodyPost_ret (v := .tuple #[]) (by simp [results, Try.results72, go_sem]) rfl HT16.out
          --A1
        · have hfI : ¬ ((so : Int) ≤ (m : Int)) := by omega
          have HFIT := Lib.hid hfit
          have hCl : ∀ b, ((Cn b ∧ b ≠ bk ∧ b ≠ bi) ∨ (w.heap.size ≤ b ∧ b ≠ w.heap.size ∧ b ≠ w5.heap.size ∧ b ≠ w6.heap.size ∧ b ≠ p17 ∧ b < w9.heap.size)) → b < w9.heap.size := fun b hb => by
            have := HB9W.out.size
            rcases hb with hb | hb
            · have := (H.out.base.cn b hb.1).2.2; omega
            · omega
          have HH : Hid (∀ v, Below w9.heap.size w9 v → Calls Try.prog 89 #[ndV h17 one, .int .i64 high] v (PHalved v (fun b => (Cn b ∧ b ≠ bk ∧ b ≠ bi) ∨ (w.heap.size ≤ b ∧ b ≠ w.heap.size ∧ b ≠ w5.heap.size ∧ b ≠ w6.heap.size ∧ b ≠ p17 ∧ b < w9.heap.size)) one high)) := Lib.hid fun v hv => phalve_any high (fun b hb => Nat.lt_of_lt_of_le (hCl b hb) hv.size) ((HON9.out.now.mono (fun b hb => by
            obtain ⟨hb, hl⟩ := hb
            rcases hb with hb | hb
            · exact .inl hb
            · exact .inr (by omega))).keep (below_agree hv (fun b hb hl => hl))) (by rw [HONE.out]; exact join_whole H.out.eq H.out.wx H.out.wy) (by have := HSO.out.1; have := H.out.m3; omega) (by rw [HONE.out]; have := join_size (s := kat n.keys at') H.out.eq H.out.sx H.out.sy; omega)
          obtain ⟨d0, d1, d2, d3, d4, -⟩ := five HP179.out
          obtain ⟨-, -, k2, -, -, -⟩ := five HB69.out
          have hck9 : w9.cell? ⟨bk, at', none⟩ = some (.slice FA fn fc) := (HB9W.out.cell (p := ⟨bk, at', none⟩) HONK.out.2.2).trans HONK.out.2.1
          have hnkf : w9.frozen? ⟨bk, at', none⟩ = false := by
            obtain ⟨ys, hky, hkr⟩ := H.out.base.nin.keys
            exact (own_keep hky HB9W.out).frozenAt at'
          clear hfit
          go_upto_region 14 with fail
          clear hfI
          have q1 : ¬ (w5.heap.size = w.heap.size) := by omega
          have q2 : ¬ (w.heap.size = w5.heap.size) := by omega
          have q3 : ¬ (w6.heap.size = w.heap.size) := by omega
          have q4 : ¬ (w.heap.size = w6.heap.size) := by omega
          have q5 : ¬ (bk = w.heap.size) := by omega
          have q6 : ¬ (w.heap.size = bk) := by omega
          have q7 : ¬ (w5.heap.size = p17) := by omega
          have q8 : ¬ (p17 = w5.heap.size) := by omega
          have q9 : ¬ (w6.heap.size = p17) := by omega
          have q10 : ¬ (p17 = w6.heap.size) := by omega
          have q11 : ¬ (bk = p17) := by omega
          have q12 : ¬ (p17 = bk) := by omega
          have q13 : ¬ (w5.heap.size = w6.heap.size) := by omega
          have q14 : ¬ (w6.heap.size = w5.heap.size) := by omega
          have q15 : ¬ (bk = w5.heap.size) := by omega
          have q16 : ¬ (w5.heap.size = bk) := by omega
          have q17 : ¬ (bk = w6.heap.size) := by omega
          have q18 : ¬ (w6.heap.size = bk) := by omega
          have hixk : (at' : Int) < (bn : Int) := by omega
          have hl5 := HP139.out.lt
          have hl6' := HP159.out.lt
          have hl0 := HB69.out.lt
          have hlk : bk < w9.heap.size := by have := HB9W.out.size; omega
          have HK := Lib.hid (And.intro k2 (And.intro d0 (And.intro d1 (And.intro d2 (And.intro d3 d4)))))
          have HCK := Lib.hid (And.intro hck9 hnkf)
          clear hck9 hnkf
          go_region_held3 (fun w' => w'.cell? ⟨w.heap.size, 2, none⟩ = some (.slice (some ⟨bk, 0, none⟩) bn bc) ∧ w'.cell? ⟨p17, 0, none⟩ = some (.bool one.leaf) ∧ w'.cell? ⟨p17, 1, none⟩ = some (.slice h17.A h17.n h17.c) ∧ w'.cell? ⟨p17, 2, none⟩ = some (.slice h17.B h17.m h17.d) ∧ w'.cell? ⟨p17, 3, none⟩ = some (.slice h17.K h17.k h17.e) ∧ w'.cell? ⟨p17, 4, none⟩ = some (.int .i64 one.next)) (go_keep)
            ((go_at_call 89
              (with_reducible refine (HH.out _ (Below.refl _ _).drew).mono ?_)
              rintro e w10 ⟨hl, hr, GA, gn, gc, rfl, honl, honr, honb, hb10⟩
              have hb10 := undrew hb10
              have k2 := (hb10.cell (p := ⟨w.heap.size, 2, none⟩) hl0).trans HK.out.1
              have d0 := (hb10.cell (p := ⟨p17, 0, none⟩) hp17l).trans HK.out.2.1
              have d1 := (hb10.cell (p := ⟨p17, 1, none⟩) hp17l).trans HK.out.2.2.1
              have d2 := (hb10.cell (p := ⟨p17, 2, none⟩) hp17l).trans HK.out.2.2.2.1
              have d3 := (hb10.cell (p := ⟨p17, 3, none⟩) hp17l).trans HK.out.2.2.2.2.1
              have d4 := (hb10.cell (p := ⟨p17, 4, none⟩) hp17l).trans HK.out.2.2.2.2.2
              have HP13' := Lib.hid (HP139.out.below hb10)
              have HP15' := Lib.hid (HP159.out.below hb10)
              obtain ⟨z0, z1, z2, z3, z4, y0, y1, y2, y3, y4⟩ := five HP13'.out
              obtain ⟨u0, u1, u2, u3, u4, v0, v1, v2, v3, v4⟩ := five HP15'.out
              have hck := (hb10.cell (p := ⟨bk, at', none⟩) hlk).trans HCK.out.1
              have hfk : w10.frozen? ⟨bk, at', none⟩ = false := (hb10.frozen (p := ⟨bk, at', none⟩) hlk).trans HCK.out.2
              have HB10 := Lib.hid hb10
              have HON10 := Lib.hid (And.intro honl (And.intro honr honb))
              clear hb10 honl honr honb))
          all_goals
            clear k2 d0 d1 d2 d3 d4 z0 z1 z2 z3 z4 y0 y1 y2 y3 y4 u0 u1 u2 u3 u4 v0 v1 v2 v3 v4 hck hfk
            obtain ⟨V1, hV1, hV1h, hV1O⟩ := five_set (.bool (leftN one high).leaf) (.slice hl.A hl.n hl.c) (.slice hl.B hl.m hl.d) (.slice hl.K hl.k hl.e) (.int .i64 (leftN one high).next) HP13'.out
            rw [← hV1]
            obtain ⟨V2, hV2⟩ : ∃ V2, V2 = V1.setCell ⟨bk, at', none⟩ (.slice GA gn gc) := ⟨_, rfl⟩
            rw [← hV2]
            have hV2O : Only (· = bk) V1 V2 := by rw [hV2]; exact (Only.refl _ _).set _ _ (.inr rfl)
            have hs10 := HB10.out.size
            have hs11 := hV1O.size
            have hs12 := hV2O.size
            obtain ⟨V3, hV3, hV3h, hV3O⟩ := five_set (.bool (rightN one).leaf) (.slice hr.A hr.n hr.c) (.slice hr.B hr.m hr.d) (.slice hr.K hr.k hr.e) (.int .i64 (rightN one).next) ((hV2O.block w6.heap.size (by omega) q18).trans ((hV1O.block w6.heap.size (by omega) q14).trans HP15'.out))
            rw [← hV3]
            have hs13 := hV3O.size
            have hb13 : Box V3 w5.heap.size hl (leftN one high) := (hV3O.block w5.heap.size (by omega) q13).trans ((hV2O.block w5.heap.size (by omega) q16).trans hV1h)
            have hO3 : Only (fun b => b = w5.heap.size ∨ b = bk ∨ b = w6.heap.size) w10 V3 := ((only_mono hV1O (fun b hb => .inl hb)).trans (only_mono hV2O (fun b hb => .inr (.inl hb)))).trans (only_mono hV3O (fun b hb => .inr (.inr hb)))
            obtain ⟨ys, hky, hkr⟩ := H.out.base.nin.keys
            simp only at hky hkr
            have hrow1 := own_agree (own_keep (own_keep hky HB9W.out) HB10.out) (w' := V1) (C := (· = bk)) (hV1O.agree (fun b hb => by rw [hb]; exact q15)) (fun k hk => by injection hk with hk; exact hk.symm)
            have hrow2 := own_set hrow1 at' (.slice GA gn gc)
            rw [← hV2] at hrow2
            have hrow3 := own_agree hrow2 (w' := V3) (C := (· = bk)) (hV3O.agree (fun b hb => by rw [hb]; exact q17)) (fun k hk => by injection hk with hk; exact hk.symm)
            have hpD : ∀ b, w.heap.size ≤ b → ¬ D b := fun b hb hd => by have := H.out.base.tr.lt.2 b hd; omega
            have HPD := Lib.hid hpD
            have htbw := H.out.base.tr.lt.1
            have hnk := H.out.base.cn bk HCN.out.1
            have hni := H.out.base.cn bi HCN.out.2
            have HTV := Lib.hid (show TrM V3 D tb g L F root m many from (HT9.out.below HB10.out).keep (hO3.agree (fun b hb e => by
              rcases hb with hb | hb
              · rcases e with e | e | e
                · exact HPD.out b (by omega) hb
                · exact hnk.1 (e ▸ hb)
                · exact HPD.out b (by omega) hb
              · have := hnk.2.1; omega)))
            have hsm1 : SmallN one := by rw [HONE.out]; exact join_small (HT9.out.2.1.small H.out.lx) (HT9.out.2.1.small H.out.ly) H.out.eq H.out.sx H.out.sy H.out.wx H.out.wy (H.out.ks at' H.out.atk)
            have hCV : ∀ b, ((Cn b ∧ b ≠ bk ∧ b ≠ bi) ∨ (w.heap.size ≤ b ∧ b ≠ w.heap.size ∧ b ≠ w5.heap.size ∧ b ≠ w6.heap.size ∧ b ≠ p17 ∧ b < w9.heap.size)) → ¬ (b = w5.heap.size ∨ b = bk ∨ b = w6.heap.size) ∧ ¬ D b := fun b hb => by
              rcases hb with hb | hb
              · have := H.out.base.cn b hb.1
                exact ⟨by omega, this.1⟩
              · exact ⟨by omega, HPD.out b hb.1⟩
            have HONV := Lib.hid (And.intro (HON10.out.1.keep (hO3.agree (fun b hb => (hCV b hb).1))) (And.intro (HON10.out.2.1.keep (hO3.agree (fun b hb => (hCV b hb).1))) (HON10.out.2.2.keep (hO3.agree (fun b hb => (hCV b hb).1)))))
            have HROW3 := Lib.hid (And.intro hrow3 hkr)
            have HO3 := Lib.hid (And.intro hO3 (And.intro hb13 hV3h))
            have HCV := Lib.hid hCV
            have HSM := Lib.hid hsm1
            have hb6V : Box V3 w.heap.size ⟨A, an, ac, some ⟨bk, 0, none⟩, bn, bc, some ⟨bi, 0, none⟩, kn, kc⟩ n := (HB69.out.below HB10.out).at (hO3.block w.heap.size (by omega) (by omega))
            have HB6V := Lib.hid hb6V
            clear hrow1 hrow2 hrow3 hky hkr hO3 hb13 hV3h hCV hsm1 hV3O hV2O hV1O hV1h hV1 hV2 hV3 hb6V hpD HP13' HP15'
            have HS15 := set_node (w := V3.drew) HTV.out.drew.2.1 low H.out.lx (hh := hl) (x := leftN one high) (HONV.out.1.keep (below_all (Below.refl V3.heap.size V3).drew)).here (left_small HSM.out _)
            obtain ⟨c0, -, -, -, -, -⟩ := HTV.out.cells
            obtain ⟨d0, d1, d2, d3, d4, -⟩ := five HO3.out.2.1
            go_upto_region 15 with fail
            go_still_tail 6, (by kernel_rfl)
            change wpList _ _ _ _ _ V3.drew
            go_wp2_with fail
            refine HS15.mono ?_
            rintro e w12 ⟨rfl, ht12⟩
            obtain ⟨D12, t1, t2, t3⟩ := trm_turn (w := V3.drew) HTV.out.drew ht12
            have hO12 : Only D V3 w12 := ⟨t3.os, t3.tape, t3.output, t3.size, t3.block⟩
            have hs14 := hO12.size
            have hb15 : Box w12 w6.heap.size hr (rightN one) := (hO12.block _ (Array.getElem?_eq_some_iff.1 HO3.out.2.2).1 (HPD.out _ (by omega))).trans HO3.out.2.2
            have HT12 := Lib.hid (And.intro t1 (And.intro (show ∀ b, D12 b → D b ∨ V3.heap.size ≤ b from t2) (And.intro hO12 hb15)))
            clear HS15 ht12 t1 t2 t3 c0 d0 d1 d2 d3 d4 hO12 hb15
            have HS16 := set_node (w := w12.drew) HT12.out.1.drew.2.1 high (by rw [lat_set_ne (fun e => H.out.ll e.symm)]; exact H.out.ly) (hh := hr) (x := rightN one) ((HONV.out.2.1.keep (HT12.out.2.2.1.agree (fun b hb => (HCV.out b hb).2))).keep (below_all (Below.refl w12.heap.size w12).drew)).here (right_small HSM.out)
            obtain ⟨c0, -, -, -, -, -⟩ := HT12.out.1.cells
            obtain ⟨d0, d1, d2, d3, d4, -⟩ := five HT12.out.2.2.2
            go_upto_region 16 with fail
            go_still_tail 6, (by kernel_rfl)
            change wpList _ _ _ _ _ w12.drew
            go_wp2_with fail
            refine HS16.mono ?_
            rintro e w13 ⟨rfl, ht13⟩
            obtain ⟨D13, t1, t2, t3⟩ := trm_turn (w := w12.drew) HT12.out.1.drew ht13
            have hO13 : Only (fun b => D b ∨ V3.heap.size ≤ b) w12 w13 := only_mono (show Only D12 w12 w13 from ⟨t3.os, t3.tape, t3.output, t3.size, t3.block⟩) HT12.out.2.1
            have hO13V : Only (fun b => D b ∨ V3.heap.size ≤ b) V3 w13 := (only_mono HT12.out.2.2.1 (fun b hb => .inl hb)).trans hO13
            have hs15 := hO13V.size
            have hVw : ∀ b, b < V3.heap.size → ¬ D b → w13.heap[b]? = V3.heap[b]? := fun b hb hd => hO13V.block b hb (fun h => h.elim hd (fun h => by omega))
            have hb6 : Box w13 w.heap.size ⟨A, an, ac, some ⟨bk, 0, none⟩, bn, bc, some ⟨bi, 0, none⟩, kn, kc⟩ n := HB6V.out.at (hVw _ HB6V.out.lt (HPD.out _ (Nat.le_refl _)))
            have HT13 := Lib.hid (And.intro t1 (And.intro (show ∀ b, D13 b → D b ∨ V3.heap.size ≤ b from fun b hb => (t2 b hb).elim (HT12.out.2.1 b) (fun h => .inr (by have h1 : w12.heap.size ≤ b := h; omega))) (And.intro hO13V hb6)))
            clear HS16 ht13 t1 t2 t3 c0 d0 d1 d2 d3 d4 hO13 hO13V hb6
            have hbkV : bk < V3.heap.size := by omega
            have hbiV : bi < V3.heap.size := by omega
            have hrk := own_agree HROW3.out.1 (w' := w13) (C := (· = bk)) ⟨by omega, fun b hb hl => by rw [hb]; exact hVw bk hbkV hnk.1⟩ (fun k hk => by injection hk with hk; exact hk.symm)
            have hri0 : ∀ v, Agree (· = bi) w v → v.ownsRow 0 3 1 (.slice (some ⟨bi, 0, none⟩) kn kc) kn (n.kids.map intV) := fun v hv => own_agree H.out.base.nin.kids (w' := v) (C := (· = bi)) hv (fun k hk => by injection hk with hk; exact hk.symm)
            have hri := hri0 w13 ⟨by omega, fun b hb hl => by
              rw [hb]
              exact (hVw bi hbiV hni.1).trans ((HO3.out.1.block bi (by omega) (by omega)).trans ((HB10.out.block bi (Nat.lt_of_lt_of_le hni.2.2 HB9W.out.size)).trans (HB9W.out.block bi hni.2.2)))⟩
            have hwV : Agree (fun b => Cn b ∧ bk ≠ b ∧ bi ≠ b) w w13 := ⟨by omega, fun b hb hl => by
              have hc := H.out.base.cn b hb.1
              exact (hVw b (by omega) hc.1).trans ((HO3.out.1.block b (by omega) (fun e => by have := hb.2.1; omega)).trans ((HB10.out.block b (Nat.lt_of_lt_of_le hc.2.2 HB9W.out.size)).trans (HB9W.out.block b hc.2.2)))⟩
            have hsep := HONV.out.2.2.keep (w' := w13) ⟨by omega, fun b hb hl => hVw b hl (HCV.out b hb).2⟩
            have hnd : NdR w13 ⟨A, an, ac, some ⟨bk, 0, none⟩, bn, bc, some ⟨bi, 0, none⟩, kn, kc⟩ (seamN n at' (sepN one)) := ⟨prs_empty H.out.base.nin.reads.here.1 H.out.np,
              (kys_on (C := fun _ => True) hrk (kreads_set ((HROW3.out.2.mono (C' := fun t b => Cn b ∧ bk ≠ b ∧ bi ≠ b) (fun t ht b hb => ⟨hb.1, hb.2.1 _ rfl, hb.2.2 _ rfl⟩)).keep (fun t => hwV)) at' (fun t b hb => trivial) gc (hsep.mono (fun b hb => trivial))) (fun a e => trivial)).here,
              (ins_on (C := fun _ => True) hri (fun a e => trivial)).here⟩
            have hsepl : (sepN one).length ≤ 1000 := by
              refine sep_small2 HSM.out ?_ 
              rw [HONE.out]
              exact join_whole H.out.eq H.out.wx H.out.wy
            have hsm : SmallN (seamN n at' (sepN one)) := by
              have q1 := H.out.base.k16
              have q2 := H.out.base.kk
              refine ⟨by simp [seamN], (fun p hp => by cases hp), by simp [seamN]; omega, fun j hj => ?_, by simp [seamN]; omega⟩
              have hj : j < (n.keys.set at' (sepN one)).length := hj
              rw [List.length_set] at hj
              show (kat (n.keys.set at' (sepN one)) j).length ≤ 1000
              unfold kat
              rw [List.getD_eq_getElem?_getD]
              by_cases h1 : at' = j
              · subst h1
                rw [List.getElem?_set_self hj]
                exact hsepl
              · rw [List.getElem?_set_ne h1, ← List.getD_eq_getElem?_getD]
                exact H.out.ks j hj
            obtain ⟨zi, hzi⟩ := H.out.hi
            have HS17 := set_node (w := w13.drew) HT13.out.1.drew.2.1 i (by rw [lat_set_ne H.out.ih, lat_set_ne H.out.il]; exact hzi) (hnd.below (Below.refl _ _).drew) hsm
            have hb6 := HT13.out.2.2.2
            unfold Box at hb6
            rw [H.out.base.lf, H.out.nx] at hb6
            obtain ⟨c0, -, -, -, -, -⟩ := HT13.out.1.cells
            obtain ⟨d0, d1, d2, d3, d4, -⟩ := five hb6
            clear hb6 hrk hri hri0 hwV hsep hnd hsm hsepl hzi hVw
            go_upto_region 17 with fail
            go_still_tail 6, (by kernel_rfl)
            change wpList _ _ _ _ _ w13.drew
            go_wp2_with fail
            refine HS17.mono ?_
            rintro e w14 ⟨rfl, ht14⟩
            obtain ⟨D14, t1, t2, t3⟩ := trm_turn (w := w13.drew) HT13.out.1.drew ht14
            have HT14 := Lib.hid (show Mended w D Cn tb g root m many (fixO m L F i n at' low high (joinNd x (kat n.keys at') y)) (.returned (.tuple #[])) w14 from ⟨rfl, D14, by
                have ef : fixO m L F i n at' low high (joinNd x (kat n.keys at') y) = (((L.set low (some (leftN one high))).set high (some (rightN one))).set i (some (seamN n at' (sepN one))), F) := by
                  rw [← HONE.out]
                  unfold fixO
                  rw [if_neg (by rw [← HSO.out.1]; exact HFIT.out)]
                rw [ef]; exact t1, fun b hb => by
                rcases t2 b hb with hb | hb
                · rcases HT13.out.2.1 b hb with hb | hb
                  · exact .inl hb
                  · exact .inr (by omega)
                · have h1 : w13.heap.size ≤ b := hb
                  exact .inr (by omega),
                ((((below_only HB9W.out).trans2 (below_only (D := fun _ => False) HB10.out) (fun b hb => hb.elim)).trans2 HO3.out.1 (fun b hb => by
                  rcases hb with e | e | e
                  · exact .inr (by omega)
                  · rw [e]; exact .inl (.inr HCN.out.1)
                  · exact .inr (by omega))).trans2 HT13.out.2.2.1 (fun b hb => hb.elim (fun h => .inl (.inl h)) (fun h => .inr (by omega)))).trans2 (show Only D13 w13 w14 from ⟨t3.os, t3.tape, t3.output, t3.size, t3.block⟩) (fun b hb => by
                  rcases HT13.out.2.1 b hb with hb | hb
                  · exact .inl (.inl hb)
                  · exact .inr (by omega))⟩)
            clear t1 t2 t3 ht14 HS17 c0 d0 d1 d2 d3 d4
            go_wp2
            exact bodyPost_ret (v := .tuple #[]) (by simp [results, Try.results72, go_sem]) rfl HT14.out
end Go.Proofs.Ythbmchkbebneiaa
