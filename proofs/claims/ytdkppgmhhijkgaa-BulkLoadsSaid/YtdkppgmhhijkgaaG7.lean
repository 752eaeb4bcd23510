/- The contract of package row's Put once more: what it tells is new memory. Condition: as there. Contracts of package tree's lay whatever the way, and of New. No condition but lay's. The contract of package tree's Put: what may not be is an error, so is a new key where there are 1000; else the tree with the pair. Condition: keys and values of at most 1000 bytes. Contracts of package tree's Get, Height and Leaf. No condition. The contract of package tree's Pairs: all pairs, rising. No condition. Contracts of the document's own Sound, In and Get. Condition: what came in can be read. Contracts of package key's May, Sound, In, below, follows, and of the document's own May, Sound, In, Ranges: each tells one function of the bytes. Condition: what came in can be read. -/
import Derived.Test.YtdkppgmhhijkgaaG6
import Derived.Maps.AppendAt
namespace Go.Proofs.Ytdkppgmhhijkgaa
open Go.RowKit
set_option linter.unusedVariables false
set_option maxRecDepth 100000

def MadeN (w : World) (L : List Pr) (e : Ending) (w' : World) : Prop := ∃ A n c, e = .returned (.slice A n c) ∧ On (w.heap.size ≤ ·) w' (Prs · A n c L) ∧ Below w.heap.size w w'
def PuttedN (w : World) (L : List Pr) (b : Bool) (e : Ending) (w' : World) : Prop := ∃ A n c, e = .returned (.tuple #[.slice A n c, .bool b, .nilIface]) ∧ On (w.heap.size ≤ ·) w' (Prs · A n c L) ∧ Below w.heap.size w w'

set_option maxHeartbeats 2000000 in
theorem told_new {w : World} {b m : Nat} {A : Nat → Option Addr} {n c : Nat → Nat} {L : Nat → List Pr} (h : Pieces w b m A n c L) (hm : m ≤ 3) (hs : sumN n m ≤ 3000) (hsm : Small (catL L m)) :
    Calls Try.prog 56 #[.slice (some ⟨b, 0, none⟩) m m] w (MadeN w (catL L m)) := by
  have HC := concat_any h hm hs
  have HM := Lib.hid hsm
  clear h hm hs hsm
  generalize catL L m = M at HC HM
  go_enter Try.func56, Try.ntmps56
  go_wp2_with fail
  refine HC.mono ?_
  rintro e w1 ⟨v, k, xs, rfl, hown, hr, hb⟩
  clear HC
  rcases Nat.eq_zero_or_pos k with h0 | h0
  · obtain ⟨A1, c1, rfl, hp, _⟩ := own_prs hown (hr.below hb)
    have hp : On (w.heap.size ≤ ·) w1 (Prs · A1 0 c1 M) := fun v _ => ⟨by rw [hp.1, h0], Nat.zero_le _, hp.2.2.1, hp.2.2.2.1, fun h => absurd h (by omega)⟩
    have HP := Lib.hid hp
    have HB := Lib.hid hb
    clear hp hb hown hr
    subst h0
    go_wp2
    go_loopw [10] (fun i wr => i = .int .i64 0 ∧ wr = w1) (fun _ _ => 0)
    case atStart => exact ⟨rfl, rfl⟩
    case round =>
      obtain ⟨rfl, rfl⟩ := hrel
      go_wp2
      go_ret
      exact ⟨A1, 0, c1, rfl, HP.out, HB.out⟩
  · obtain ⟨g, cap, rfl, hg⟩ : ∃ g cap, v = .slice (some ⟨g, 0, none⟩) k cap ∧ w.heap.size ≤ g ∧ g < w1.heap.size ∧ k ≤ cap := by
      rcases hown.2 with ⟨_, rfl⟩ | ⟨g, cap, cur, rfl, hb1, hg, h1, _⟩
      · omega
      · exact ⟨g, cap, rfl, hb1, (Array.getElem?_eq_some_iff.1 hg).1, h1⟩
    have HI := Lib.hid (show PairsInv w w.heap.size (some ⟨g, 0, none⟩) k cap M 0 w1 from ⟨xs, hown, ⟨hr.1, fun j hj => by
      obtain ⟨A1, n1, c1, B1, m1, d1, e1, e2, y1, y2⟩ := hr.2 j hj
      have hC : ∀ b, b < w.heap.size → Cj (some ⟨g, 0, none⟩) w.heap.size 0 j b := fun b hb => ⟨fun a e => by injection e with e; subst e; show g ≠ b; have := hg.1; omega, fun h => absurd h (by omega)⟩
      exact ⟨A1, n1, c1, B1, m1, d1, e1, e2, ((byt_old y1).keep (below_all hb)).mono hC, ((byt_old y2).keep (below_all hb)).mono hC⟩⟩, hb, hb.size⟩)
    have hk : M.length = k := by have := hown.1; have := hr.1; omega
    have hkm : k ≤ maxLen := by
      rcases hown.2 with ⟨_, rfl⟩ | ⟨g, cap, cur, _, _, _, h1, h2, _⟩
      · omega
      · exact Nat.le_trans h1 h2
    unfold maxLen at hkm
    have HK := Lib.hid hk
    clear hown hr hb hg hk
    go_wp2
    go_loopw [10] (fun i wr => ∃ j : Nat, j ≤ k ∧ i = .int .i64 j ∧ PairsInv w w.heap.size (some ⟨g, 0, none⟩) k cap M j wr) (fun i _ => k - (intOf i).toNat)
    case atStart => exact ⟨0, Nat.zero_le _, rfl, HI.out⟩
    case round =>
      obtain ⟨j, hj, rfl, hI⟩ := hrel
      have HJ := Lib.hid hI
      obtain ⟨ys, hown, hr, hb, hNs⟩ := hI
      have hg1 : w.heap.size ≤ g := (hown.lt g rfl).1
      have hg2 : g < wr.heap.size := (hown.lt g rfl).2
      by_cases hlt : j < k
      · have hj' : j < M.length := by rw [HK.out]; exact hlt
        obtain ⟨A1, n1, c1, B1, m1, d1, e1, e2, y1, y2⟩ := hr.2 j hj'
        have k0 : wr.cell? ⟨g, j * 2, none⟩ = some (.slice A1 n1 c1) := (hown.cellAt _ (by omega)).trans e1
        have k1 : wr.cell? ⟨g, j * 2 + 1, none⟩ = some (.slice B1 m1 d1) := (hown.cellAt _ (by omega)).trans e2
        have hsm := HM.out _ (gt_mem hj')
        have hn1 : n1 ≤ 1000 := by rw [← y1.here.1]; exact hsm.1
        have hm1 : m1 ≤ 1000 := by rw [← y2.here.1]; exact hsm.2
        have HO := Lib.hid hown
        have HR := Lib.hid hr
        have HB := Lib.hid hb
        have Y1 := Lib.hid y1.here
        have Y2 := Lib.hid y2.here
        clear hown hr hb y1 y2 e1 e2 hsm
        have HW := Lib.hid (show ∃ W, W = wr.alloc (.cells #[.slice A1 n1 c1, .slice B1 m1 d1] 27) ∧ Below wr.heap.size wr W ∧ W.cell? ⟨wr.heap.size, 0, none⟩ = some (.slice A1 n1 c1) ∧ W.cell? ⟨wr.heap.size, 1, none⟩ = some (.slice B1 m1 d1) ∧ W.heap.size = wr.heap.size + 1 from
          ⟨_, rfl, (Below.refl _ _).alloc (Nat.le_refl _) _, box_0 _ _ _ _, box_1 _ _ _ _, by simp⟩)
        go_wp2
        obtain ⟨W, hW, hWB, hW0, hW1, hWs⟩ := HW.out
        rw [← hW]
        have HS1 := Lib.hid hWs
        have HBW := Lib.hid hWB
        have K0 := Lib.hid k0
        have K1 := Lib.hid k1
        clear hW HW hWB hWs k0 k1
        have D := Lib.hid (clone_any (w := W.drew) c1 (show Byt W A1 n1 (gt M j).1 from Y1.out.below HBW.out) hn1)
        have HC0 := Lib.hid hW0
        have HC1 := Lib.hid hW1
        have z1 : ¬ (g = wr.heap.size) := by omega
        have z2 : ¬ (wr.heap.size = g) := by omega
        go_region_held3 (fun w' => w'.cell? ⟨wr.heap.size, 0, none⟩ = some (.slice A1 n1 c1) ∧ w'.cell? ⟨wr.heap.size, 1, none⟩ = some (.slice B1 m1 d1)) (go_keep)
          (first
            | (go_at_call 71
               (with_reducible refine D.out.mono ?_)
               rintro e w3 ⟨A2, x2, rfl, p2, n2, hb3⟩
               have hb3 := undrew hb3
               have g0 := (hb3.cell (p := ⟨wr.heap.size, 0, none⟩) (by have := HS1.out; show wr.heap.size < W.heap.size; omega)).trans HC0.out
               have g1 := (hb3.cell (p := ⟨wr.heap.size, 1, none⟩) (by have := HS1.out; show wr.heap.size < W.heap.size; omega)).trans HC1.out
               have HB3 := Lib.hid (HBW.out.trans (hb3.mono HBW.out.size))
               have HX2 := Lib.hid (And.intro p2 n2)
               have HL3 := Lib.hid (Nat.lt_of_lt_of_le (show wr.heap.size < W.heap.size by have := HS1.out; omega) hb3.size)
               have E := Lib.hid (clone_any d1 (Y2.out.below HB3.out) hm1)
               clear p2 n2 hb3)
            | (go_at_call 71
               (with_reducible refine E.out.mono ?_)
               rintro e w4 ⟨B2, x3, rfl, p3, n3, hb4⟩
               have g0 := (hb4.cell (p := ⟨wr.heap.size, 0, none⟩) HL3.out).trans g0
               have g1 := (hb4.cell (p := ⟨wr.heap.size, 1, none⟩) HL3.out).trans g1
               have HB4 := Lib.hid (HB3.out.trans (hb4.mono HB3.out.size))
               have HX3 := Lib.hid (And.intro p3 (And.intro n3 hb4))
               have g4 := (HB4.out.cell (p := ⟨g, j * 2, none⟩) hg2).trans K0.out
               have g5 := (HB4.out.cell (p := ⟨g, j * 2 + 1, none⟩) hg2).trans K1.out
               have g2 := (own_keep HO.out HB4.out).frozenAt (j * 2)
               have g3 := (own_keep HO.out HB4.out).frozenAt (j * 2 + 1)
               clear p3 n3 hb4)
            )
        have HT := Lib.hid (pairs_round (j := j) HJ.out (show j < M.length from hj') hg1 hg2 (x2 := x2) (x3 := x3) HB3.out HX2.out.1 (New.mono HX2.out.2 (show g + 1 ≤ W.heap.size by have := HS1.out; omega)) HX3.out.2.2 HX3.out.1 (New.mono HX3.out.2.1 (show g + 1 ≤ w3.heap.size by have := HL3.out; omega)))
        clear g0 g1 g2 g3 g4 g5 D E HB3 HB4 HX2 HX3 HL3 HC0 HC1 HBW HS1 hW0 hW1 z1 z2 K0 K1
        go_wp2
        go_roundw
        case rel => exact ⟨j + 1, by omega, by go_num, HT.out⟩
        case measure => simp [intOf]; omega
      · obtain rfl : j = k := by omega
        have hp := prs_on (C := (w.heap.size ≤ ·)) hown (hr.mono (C' := fun _ b => w.heap.size ≤ b) (fun t ht b hc => hc.2 (by have := HK.out; omega))) (fun a e => by injection e with e; subst e; exact hg1)
        have HP := Lib.hid hp
        have HB := Lib.hid hb
        clear hp hb hown hr
        go_wp2
        go_ret
        exact ⟨_, j, _, rfl, HP.out, HB.out⟩
set_option maxHeartbeats 2000000 in
theorem put_new {w : World} {A C D : Option Addr} {n c o p : Nat} (q r : Nat) {L : List Pr} {k v : List UInt8} (h : Prs w A n c L) (h' : Byt w C o k) (h'' : Byt w D p v) (hs : Srt L) (hn : n ≤ 1000) (hm : Small L) (hf : fairB (k, v) = true) (ho : o ≤ 1000) (hp : p ≤ 1000) :
    Calls Try.prog 35 #[.slice A n c, .slice C o q, .slice D p r] w (PuttedN w (putL L k v) (!hasB L k)) := by
  have HY := rowmay_any q r h' h''
  rw [hf] at HY
  have HF := find_any q h h' hs hn
  have hsk : Small [(k, v)] := by
    intro x hx
    simp at hx
    subst hx
    exact ⟨by rw [h'.1]; exact ho, by rw [h''.1]; exact hp⟩
  have HSK := Lib.hid hsk
  have H := Lib.hid h
  have H' := Lib.hid h'
  have H'' := Lib.hid h''
  have HP := Lib.hid (pos_le L k)
  have HL := Lib.hid h.len
  have HD := Lib.hid (put_is hs k v)
  have HPE := Lib.hid (pos_end hs k)
  have HM := Lib.hid hm
  clear h h' h'' hs hm hf hsk
  go_enter Try.func35, Try.ntmps35
  go_wp2_with fail
  refine HY.mono ?_
  rintro e w' ⟨rfl, rfl⟩
  clear HY
  go_wp2_with fail
  refine HF.mono ?_
  rintro e w1 ⟨rfl, hb⟩
  have HB := Lib.hid hb
  have H1 := Lib.hid (H.out.below hb)
  have HO := Lib.hid (one_prs q r (H'.out.below hb) (H''.out.below hb) 27)
  clear HF hb H
  generalize pos L k = P at HP HD HPE
  have hPn : P ≤ n := by have h1 := HP.out; rw [HL.out] at h1; exact h1
  have hPc : P ≤ c := Nat.le_trans hPn H1.out.2.1
  have hX : (if c = P then A else A.map (fun x => x.add (P * 2))) = cutA A P c := rfl
  have H2 := Lib.hid (H1.out.from (k := P) hPn)
  cases hh : hasB L k
  · rw [hh] at HD
    have hd : putL L k v = L.take P ++ [(k, v)] ++ L.drop P := by rw [HD.out]; simp
    have HE := Lib.hid hd
    have HH := Lib.hid hh
    clear hd hh HPE HD
    have HT := told_new (pieces3 ((H1.out.upto hPn).alloc (.cells #[.slice C o q, .slice D p r] 27)) HO.out (H2.out.alloc (.cells #[.slice C o q, .slice D p r] 27)) 22) (by omega) (show sumN _ 3 ≤ 3000 by simp [sumN, pick3]; omega) (show Small (catL _ 3) from small_app (small_app (small_take HM.out P) HSK.out) (small_drop HM.out P))
    rw [show (w1.alloc (.cells #[.slice C o q, .slice D p r] 27)).heap.size = w1.heap.size + 1 by simp] at HT
    have HT := Lib.hid HT
    go_wp2_with fail
    refine HT.out.mono ?_
    rintro e w2 ⟨A2, n2, c2, rfl, hp, hb2⟩
    have HP2 := Lib.hid hp
    have HB2 := Lib.hid hb2
    clear hp hb2 hX
    go_wp2
    go_ret3
    refine ⟨A2, n2, c2, by rw [HH.out]; rfl, ?_, ((HB.out.alloc HB.out.size _).alloc (by have := HB.out.size; simp; omega) _).trans (HB2.out.mono (by have := HB.out.size; simp; omega))⟩
    rw [HE.out]
    exact HP2.out.mono (fun b hb => by have := HB.out.size; have hb' := hb; simp at hb'; omega)
  · rw [hh] at HD
    have hP1 : P < n := by
      have h2 := HPE.out
      rw [hh, HL.out] at h2
      rcases Nat.lt_or_ge P n with h3 | h3
      · exact h3
      · cases h2 (by omega)
    have hd : putL L k v = L.take P ++ [(k, v)] ++ (L.drop P).drop 1 := by rw [HD.out]; simp
    have HE := Lib.hid hd
    have HH := Lib.hid hh
    clear hd hh HPE HD
    have H3 := Lib.hid (H2.out.from (k := 1) (by omega))
    have hX2 : (if c - P = 1 then cutA A P c else (cutA A P c).map (fun x => (⟨x.block, x.off + 2, none⟩ : Addr))) = cutA (cutA A P c) 1 (c - P) := rfl
    have s1 : 1 ≤ n - P := by omega
    have HT := told_new (pieces3 ((H1.out.upto hPn).alloc (.cells #[.slice C o q, .slice D p r] 27)) HO.out (H3.out.alloc (.cells #[.slice C o q, .slice D p r] 27)) 22) (by omega) (show sumN _ 3 ≤ 3000 by simp [sumN, pick3]; omega) (show Small (catL _ 3) from small_app (small_app (small_take HM.out P) HSK.out) (small_drop (small_drop HM.out P) 1))
    rw [show (w1.alloc (.cells #[.slice C o q, .slice D p r] 27)).heap.size = w1.heap.size + 1 by simp] at HT
    have HT := Lib.hid HT
    go_wp2_with fail
    refine HT.out.mono ?_
    rintro e w2 ⟨A2, n2, c2, rfl, hp, hb2⟩
    have HP2 := Lib.hid hp
    have HB2 := Lib.hid hb2
    clear hp hb2 hX hX2 s1
    go_wp2
    go_ret3
    refine ⟨A2, n2, c2, by rw [HH.out]; rfl, ?_, ((HB.out.alloc HB.out.size _).alloc (by have := HB.out.size; simp; omega) _).trans (HB2.out.mono (by have := HB.out.size; simp; omega))⟩
    rw [HE.out]
    exact HP2.out.mono (fun b hb => by have := HB.out.size; have hb' := hb; simp at hb'; omega)
end Go.Proofs.Ytdkppgmhhijkgaa

namespace Go.Proofs.Ytdkppgmhhijkgaa
open Go.RowKit
set_option linter.unusedVariables false
set_option maxRecDepth 100000

theorem lay_any {tb g m many N M gr c : Nat} : ∀ (up : List Stp) {w : World} {D : Nat → Prop} {L : List (Option Nd)} {F : List Nat} {root : Nat} {xs : List Value} {hi : Nat} {s : Stp} {x : Nd} {h : Nh} {Cx : Nat → Prop},
    LayIn w D tb g L F root m many N M gr c xs hi s up x h Cx →
    Calls Try.prog 36 #[.pointer (some ⟨tb, 0, none⟩), .slice (some ⟨gr, 0, none⟩) (up.length + 1 : Nat) c, ndV h x] w (LayOut w D tb g N M m many (layR m (s :: up) x L F root))
  | [], w, D, L, F, root, xs, hi, s, x, h, Cx, hl => by
    cases hf : fitsN m x
    · exact lay_root hl hf
    · exact lay_fits hl hf
  | a :: up, w, D, L, F, root, xs, hi, s, x, h, Cx, hl => by
    cases hf : fitsN m x
    · exact lay_more hl hf fun h => lay_any up h
    · exact lay_fits hl hf

/-- A tree: its four cells at tb, its arena within the blocks that D names; the pairs P. -/
def Tre (w : World) (D : Nat → Prop) (tb m : Nat) (P : List Pr) : Prop :=
  ∃ g L F root d, ∃ t : Tr d, TrM w D tb g L F root m P.length ∧ GoodT L F m root d t ∧ flat d t = P ∧ P.length ≤ 1000
theorem Tre.keep {w w' : World} {D : Nat → Prop} {tb m : Nat} {P : List Pr} (h : Tre w D tb m P) (ha : Agree (fun b => D b ∨ b = tb) w w') : Tre w' D tb m P := by
  obtain ⟨g, L, F, root, d, t, h1, h2⟩ := h
  exact ⟨g, L, F, root, d, t, h1.keep ha, h2⟩
theorem Tre.below {w w' : World} {D : Nat → Prop} {tb m : Nat} {P : List Pr} (h : Tre w D tb m P) (hb : Below w.heap.size w w') : Tre w' D tb m P := h.keep (below_all hb)
theorem Tre.lt {w : World} {D : Nat → Prop} {tb m : Nat} {P : List Pr} (h : Tre w D tb m P) : tb < w.heap.size ∧ ∀ b, D b → b < w.heap.size := by
  obtain ⟨g, L, F, root, d, t, h1, h2⟩ := h
  exact h1.lt
theorem Tre.fit {w : World} {D : Nat → Prop} {tb m : Nat} {P : List Pr} (h : Tre w D tb m P) : Fit P := by
  obtain ⟨g, L, F, root, d, t, h1, h2, h3, h4⟩ := h
  rw [← h3]
  exact h2.ok.fit.1

set_option maxHeartbeats 1000000 in
theorem new_no (w : World) (m : Int) (hm : ¬ (3 ≤ m ∧ m ≤ 16)) :
    Calls Try.prog 23 #[.int .i64 m] w fun e w' => e = .returned (.tuple #[.pointer none, errV 1]) ∧ w = w' := by
  by_cases h3 : m < 3
  · go_enter Try.func23, Try.ntmps23
    go_wp2
    go_ret2
    exact ⟨rfl, rfl⟩
  · have h16 : 16 < m := by omega
    go_enter Try.func23, Try.ntmps23
    go_wp2
    go_ret2
    exact ⟨rfl, rfl⟩

set_option maxHeartbeats 2000000 in
theorem new_yes (w : World) (m : Nat) (h3 : 3 ≤ m) (h16 : m ≤ 16) :
    Calls Try.prog 23 #[.int .i64 m] w fun e w' => ∃ tb D, e = .returned (.tuple #[.pointer (some ⟨tb, 0, none⟩), .nilIface]) ∧ Tre w' D tb m [] ∧ w.heap.size ≤ tb ∧ (∀ b, D b → w.heap.size ≤ b) ∧ Below w.heap.size w w' := by
  have HN := new_any w
  have h3' : ¬ ((m : Int) < 3) := by omega
  have h16' : ¬ (16 < (m : Int)) := by omega
  go_enter Try.func23, Try.ntmps23
  go_wp2_with fail
  refine HN.mono ?_
  rintro e w1 ⟨rfl, ha, hs, hb⟩
  have HA := Lib.hid (And.intro ha (And.intro hs hb))
  have HM := make_new ha (by simp) (hh := ⟨none, 0, 0, none, 0, 0, none, 0, 0⟩) (x := ⟨true, [], [], [], -1⟩) ⟨prs_nil _, kys_nil _, ins_nil _⟩ ⟨by simp, (fun p hp => by cases hp), by simp, by simp, by simp⟩
  clear HN ha hs hb
  go_wp2_with fail
  refine HM.mono ?_
  rintro e w2 ⟨rfl, D, a1, a2, a3⟩
  have HD := Lib.hid (And.intro a1 (And.intro a2 a3))
  clear HM a1 a2 a3
  go_wp2
  go_ret2
  have hDlt := HD.out.1.lt
  have hDn : ∀ b, D b → w.heap.size ≤ b := fun b hb => by
    have := HA.out.2.1
    rcases HD.out.2.1 b hb with h | h <;> omega
  have hb2 : Below w.heap.size w w2 := HA.out.2.2.trans (HD.out.2.2.below (fun b hb => by show w.heap.size ≤ b; rw [hb]; exact Nat.le_refl _) (by have := HA.out.2.1; omega))
  refine ⟨w2.heap.size, D, rfl, ⟨w.heap.size, _, _, 0, 0, mkL 0 [] (-1), ⟨heap_alloc_new w2 _, HD.out.1.keep (agree_alloc _ _), fun hd => by have := hDlt _ hd; omega⟩, good_new h3 h16, rfl, by simp⟩, hb2.size, hDn, hb2.alloc hb2.size _⟩

/-- What way tells, by its end. -/
theorem way_end {L : List (Option Nd)} {F : List Nat} {m root d : Nat} {t : Tr d} (hg : GoodT L F m root d t) (k : Ky) : ∃ A C W, LeafAt L m k d t A C ∧ wayT k d t = W ++ [⟨(leafT k d t).1, leafN (leafT k d t), 0⟩] ∧ W.length = d := by
  obtain ⟨A, C, h⟩ := leaf_at hg.ok (inR_all k) hg.holds
  obtain ⟨W, h1, h2⟩ := h.way
  exact ⟨A, C, W, h, h1, h2⟩
/-- The stops of a way but the last. -/
theorem way_ok {L : List (Option Nd)} {m : Nat} (hm : m ≤ 16) {k : Ky} (hsm : ∀ i x, lat L i = some x → SmallN x) : ∀ {d : Nat} {b : Bool} {lo hi : Ky} {t : Tr d}, Ok m d b lo hi t → inR lo hi k → Holds L d t →
    (∀ s ∈ wayT k d t, lat L s.num = some s.nd) ∧ ∀ W e, wayT k d t = W ++ [e] → ∀ s ∈ W, StpOk s
  | 0, b, lo, hi, t, h, hk, hL => ⟨fun s hs => by
      simp only [wayT, List.mem_singleton] at hs
      subst hs
      exact hL, fun W e he s hs => by
      have : W = [] := by
        have := congrArg List.length he
        simpa [wayT] using this
      rw [this] at hs
      cases hs⟩
  | d + 1, b, lo, hi, t, h, hk, hL => by
    obtain ⟨k1, k2, t1, t2, c, l, hh, q, hget, hway, hleaf⟩ := way_kid h hk
    have hHc : Holds L d c := hL.2 c (by rw [q.ets]; simp)
    obtain ⟨i1, i2⟩ := way_ok hm hsm q.kid q.inr hHc
    have hs0 : StpOk ⟨(nn t).1, ndT (d + 1) t, kidx (nn t).2.1 k⟩ := by
      refine ⟨hsm _ _ hL.1, h.1, ?_, ?_, kidx_le _ _⟩
      · have := h.2.1
        show (nn t).2.1.length ≤ 100
        omega
      · show ((nn t).2.2.map _).length = (nn t).2.1.length + 1
        rw [List.length_map]
        exact h.2.2.2.len
    rw [hway]
    refine ⟨fun s hs => ?_, fun W e he s hs => ?_⟩
    · rcases List.mem_cons.1 hs with rfl | hs
      · exact hL.1
      · exact i1 s hs
    · cases W with
      | nil => cases hs
      | cons w0 W =>
        rw [List.cons_append] at he
        injection he with e1 e2
        rcases List.mem_cons.1 hs with rfl | hs
        · rw [← e1]; exact hs0
        · exact i2 W e e2 s hs
end Go.Proofs.Ytdkppgmhhijkgaa

namespace Go.Proofs.Ytdkppgmhhijkgaa
open Go.RowKit
set_option linter.unusedVariables false
set_option maxRecDepth 100000

/-- What the pairs are then; the error's number; is it new? -/
def putP (P : List Pr) (k v : Ky) : List Pr := if fairB (k, v) then if hasB P k then putL P k v else if P.length < 1000 then putL P k v else P else P
def putE (P : List Pr) (k v : Ky) : Int := if fairB (k, v) then if hasB P k then 0 else if P.length < 1000 then 0 else 5 else 1
def putF (P : List Pr) (k v : Ky) : Bool := fairB (k, v) && !hasB P k && decide (P.length < 1000)

/-- What Put leaves. -/
def PutOut (w : World) (D : Nat → Prop) (tb m : Nat) (P : List Pr) (k v : Ky) (e : Ending) (w' : World) : Prop :=
  e = .returned (.tuple #[.bool (putF P k v), errV (putE P k v)]) ∧ ∃ D', Tre w' D' tb m (putP P k v) ∧ (∀ b, D' b → D b ∨ w.heap.size ≤ b) ∧ Only (fun b => D b ∨ b = tb) w w'

theorem leaf_heads {w : World} {xs : List Value} {gr N hi : Nat} {s : Stp} {up : List Stp} (h : NodesR w xs gr N hi (s :: up)) : ∃ lo hi' hh, N ≤ lo ∧ lo ≤ hi' ∧ hi' ≤ hi ∧ Heads xs up.length s hh ∧ NodeIn w (fun b => lo ≤ b ∧ b < hi') hh s.nd ∧ NodesR w xs gr N lo up := by
  obtain ⟨lo, hi', hh, h1, h2, h3, h4, h5, h6, h7⟩ := h
  exact ⟨lo, hi', hh, h1, h2, h3, h5, h6, h7⟩

theorem fair_small {L : List Pr} {k v : Ky} (h : Small L) (hf : fairB (k, v) = true) : Small (putL L k v) := fun p hp => by
  rcases mem_put hp with hp | rfl
  · exact h p hp
  · unfold fairB mayB at hf
    simp at hf
    exact ⟨by show k.length ≤ 1000; omega, by show v.length ≤ 1000; omega⟩

theorem put_lay {w w1 w5 : World} {D : Nat → Prop} {tb g m c gr hi n' c' : Nat} {L : List (Option Nd)} {F : List Nat} {root d : Nat} {t : Tr d} {k v : Ky} {xs : List Value} {A' : Option Addr} (hT : TrM w D tb g L F root m (flat d t).length) (hT5 : TrM w5 D tb g L F root m (putL (flat d t) k v).length) (hG : GoodT L F m root d t)
    (hP : (flat d t).length ≤ 1000) (hP5 : (putL (flat d t) k v).length ≤ 1000) (hf : fairB (k, v) = true) {W : List Stp} (hw : wayT k d t = W ++ [⟨(leafT k d t).1, leafN (leafT k d t), 0⟩]) (hWd : W.length = d)
    (hb1 : Below w.heap.size w w1) (hrow : w1.ownsRow w.heap.size 74 7 (.slice (some ⟨gr, 0, none⟩) (d + 1) c) (d + 1) xs) (hn : NodesR w1 xs gr w.heap.size hi (⟨(leafT k d t).1, leafN (leafT k d t), 0⟩ :: W.reverse)) (hhi : hi ≤ w1.heap.size)
    (hag : Agree (fun b => w.heap.size ≤ b ∧ b < w1.heap.size) w1 w5) (hO : Only (fun b => D b ∨ b = tb) w w5) (hon : On (w1.heap.size ≤ ·) w5 (Prs · A' n' c' (putL (leafT k d t).2.1 k v))) :
    Calls Try.prog 36 #[.pointer (some ⟨tb, 0, none⟩), .slice (some ⟨gr, 0, none⟩) (d + 1 : Nat) c, .agg #[.bool true, .slice A' n' c', .slice none 0 0, .slice none 0 0, .int .i64 (leafT k d t).2.2]] w5 fun e w6 =>
      e = .returned (.tuple #[]) ∧ ∃ D', Tre w6 D' tb m (putL (flat d t) k v) ∧ (∀ b, D' b → D b ∨ w.heap.size ≤ b) ∧ Only (fun b => D b ∨ b = tb) w w6 := by
  obtain ⟨A, C, hl⟩ := leaf_at hG.ok (inR_all k) hG.holds
  obtain ⟨lo, hi', hh, n1, n2, n3, n4, n5, n6⟩ := leaf_heads hn
  have hgr := hrow.lt gr rfl
  have hlt := hT.lt
  have hs1 := hb1.size
  have hs5 := hag.1
  obtain ⟨f1, f2, f3⟩ := hG.few hP
  obtain ⟨y1, y2⟩ := way_ok hG.m16 (fun i x hx => hT.2.1.small hx) hG.ok (inR_all k) hG.holds (k := k)
  have hWr : W.reverse.length = d := by simp [hWd]
  have hin : LayIn w5 D tb g L F root m (putL (flat d t) k v).length w.heap.size w1.heap.size gr c xs lo ⟨(leafT k d t).1, leafN (leafT k d t), 0⟩ W.reverse ⟨true, putL (leafT k d t).2.1 k v, [], [], (leafT k d t).2.2⟩ ⟨A', n', c', none, 0, 0, none, 0, 0⟩ (fun b => w1.heap.size ≤ b ∧ b < w5.heap.size) := by
    refine ⟨hT5, fun b hb => .inl (hlt.2 b hb), hlt.1, hs1, hs5, hgr, ?_, ?_, ?_, by omega, fun a ha => y2 W _ hw a (by simpa using ha), fun a ha => ⟨a.nd, y1 a ?_⟩, ?_, fun b hb => ⟨fun hd => by have := hlt.2 b hd; omega, by omega, hb.2⟩, ?_, hG.m3, hG.m16, by simp [hWd]; omega, by have := hG.all; omega⟩
    · rw [hWr]
      exact own_agree (hrow.mono (Nat.zero_le _)) hag (fun k hk => by injection hk with hk; subst hk; exact hgr)
    · exact hn.heads
    · exact n6.keep (hag.mono fun b hb => by omega)
    · rw [hw]
      rcases List.mem_cons.1 ha with rfl | ha
      · simp
      · exact List.mem_append_left _ (by simpa using ha)
    · exact On.now (fun v hv => ⟨hon v hv, kys_nil v, ins_nil v⟩)
    · refine ⟨⟨?_, ?_, by simp, by simp, by simp⟩, fun _ => rfl, fun h => by cases h⟩
      · have := len_put (leafT k d t).2.1 k v
        have := hl.len
        have := hG.m16
        show (putL (leafT k d t).2.1 k v).length ≤ 1000
        omega
      · exact fair_small (small_fit hl.fit) hf
  have hC := lay_any W.reverse hin
  rw [hWr] at hC
  refine hC.mono fun e w6 ⟨he, D', t1, t2, t3⟩ => ⟨he, D', ?_, fun b hb => (t2 b hb).imp id (fun h => by omega), ?_⟩
  · obtain ⟨d', t', g1, g2⟩ := hG.put hf hP5
    rw [hw, List.reverse_append] at g1
    refine ⟨g, _, _, _, d', t', t1, g1, g2, hP5⟩
  · exact hO.trans2 t3 (fun b hb => by rcases hb with hb | hb | hb; exact .inl (.inl hb); exact .inr hb; exact .inl (.inr hb))

set_option maxHeartbeats 8000000 in
theorem tput_any {w : World} {D : Nat → Prop} {tb m : Nat} {P : List Pr} (h : Tre w D tb m P) {C V : Option Addr} {o p : Nat} (q r : Nat) {k v : Ky} (hk : Byt w C o k) (hv : Byt w V p v) (ho : o ≤ 1000) (hp : p ≤ 1000) :
    Calls Try.prog 18 #[.pointer (some ⟨tb, 0, none⟩), .slice C o q, .slice V p r] w (PutOut w D tb m P k v) := by
  have H := Lib.hid h
  obtain ⟨g, L, F, root, d, t, h1, h2, h3, h4⟩ := h
  subst h3
  obtain ⟨A, Cc, W, hl, hw, hWd⟩ := way_end h2 k
  obtain ⟨f1, f2, f3⟩ := h2.few h4
  have HY : Hid (Calls Try.prog 33 #[.pointer (some ⟨tb, 0, none⟩), .slice C o q] w fun e w1 => ∃ c gr hi xs, e = .returned (.slice (some ⟨gr, 0, none⟩) (d + 1) c) ∧ w1.ownsRow w.heap.size 74 7 (.slice (some ⟨gr, 0, none⟩) (d + 1) c) (d + 1) xs ∧ NodesR w1 xs gr w.heap.size hi (⟨(leafT k d t).1, leafN (leafT k d t), 0⟩ :: W.reverse) ∧ hi ≤ w1.heap.size ∧ Below w.heap.size w w1) := Lib.hid ((way_any h1 h2 (by omega) q hk).mono fun e w1 ⟨c, gr, hi, xs, e1, e2, e3, e4, e5⟩ => by
    have hlen : (wayT k d t).length = d + 1 := by rw [hw]; simp [hWd]
    have hrev : (wayT k d t).reverse = ⟨(leafT k d t).1, leafN (leafT k d t), 0⟩ :: W.reverse := by rw [hw]; simp
    rw [hlen] at e1 e2
    rw [hrev] at e3
    exact ⟨c, gr, hi, xs, e1, e2, e3, e4, e5⟩)
  have HT := Lib.hid h1
  have HG := Lib.hid h2
  have HL := Lib.hid hl
  have HW := Lib.hid (And.intro hw hWd)
  have HK := Lib.hid (And.intro hk hv)
  have HF := Lib.hid (And.intro f2 h4)
  clear h1 h2 hl hw hWd hk hv f1 f2 f3 h4
  go_enter Try.func18, Try.ntmps18
  go_wp2_with fail
  refine HY.out.mono ?_
  rintro e w1 ⟨c, gr, hi, xs, rfl, hrow, hnod, hhi, hb1⟩
  obtain ⟨lo, hi', hh, n1, n2, n3, n4, n5, n6⟩ := leaf_heads hnod
  rw [show W.reverse.length = d by rw [List.length_reverse, HW.out.2]] at n4
  have HLA := last_any hrow n4
  have HWY := Lib.hid (And.intro hrow (And.intro hnod (And.intro hhi hb1)))
  have HLN := Lib.hid n5
  have hfd := field_node ⟨(leafT k d t).1, leafN (leafT k d t), 0⟩ hh
  have hN := Lib.hid (And.intro n1 (And.intro n2 n3))
  clear HY hrow hnod hhi hb1 n1 n2 n3 n4 n5 n6
  go_wp2_with fail
  refine HLA.mono ?_
  rintro e w2 ⟨rfl, hb2⟩
  have HB2 := Lib.hid hb2
  have HW3 := Lib.hid (box5 w2 (.bool (leafN (leafT k d t)).leaf) (.slice hh.A hh.n hh.c) (.slice hh.B hh.m hh.d) (.slice hh.K hh.k hh.e) (.int .i64 (leafN (leafT k d t)).next) 72)
  clear HLA hb2
  go_wp2_with fail
  obtain ⟨W3, hW, hWB, hWs, hWh⟩ := HW3.out
  rw [← hW]
  have hWh : W3.heap[w2.heap.size]? = some (.cells #[.bool true, .slice hh.A hh.n hh.c, .slice hh.B hh.m hh.d, .slice hh.K hh.k hh.e, .int .i64 (leafT k d t).2.2] 72 (0, 0)) := hWh
  have hB13 : Below w1.heap.size w1 W3 := HB2.out.trans (hWB.mono HB2.out.size)
  have hB03 : Below w.heap.size w W3 := HWY.out.2.2.2.trans (hB13.mono HWY.out.2.2.2.size)
  have HB13 := Lib.hid hB13
  have HB03 := Lib.hid hB03
  have HX3 := Lib.hid (And.intro hWh hWs)
  have hrd := (HLN.out.reads.keep (below_agree hB13 (fun b hb hl => hl))).here
  have hlen : (leafT k d t).2.1.length = hh.n := hrd.1.1
  have hn17 : hh.n ≤ 1000 := by have := HL.out.len; have := HG.out.m16; omega
  clear hW HW3 hWB hWs hWh hB13
  have hpr := hrd.1
  have hNo := fun hf => put_no (A := hh.A) (n := hh.n) (c := hh.c) q r (HK.out.1.below hB03) (HK.out.2.below hB03) hf
  have hYes := fun hf => put_new (L := (leafT k d t).2.1) q r (show Prs W3 hh.A hh.n hh.c (leafT k d t).2.1 from hpr) (HK.out.1.below hB03) (HK.out.2.below hB03) HL.out.fit.1 hn17 (small_fit HL.out.fit) hf ho hp
  have HNo := Lib.hid hNo
  have HYes := Lib.hid hYes
  clear hNo hYes hpr hrd hlen hB03
  cases hf : fairB (k, v)
  · have HP := HNo.out hf
    have HFF := Lib.hid hf
    clear hf
    refine HP.mono ?_
    rintro e w4 ⟨rfl, rfl⟩
    clear HP
    go_wp2
    go_ret2
    refine ⟨?_, D, ?_, fun b hb => .inl hb, below_only HB03.out⟩
    · unfold putF putE
      rw [HFF.out]
      rfl
    · unfold putP
      rw [HFF.out]
      exact H.out.below HB03.out
  · have HP := HYes.out hf
    have HFF := Lib.hid hf
    obtain ⟨hhas, -⟩ := HL.out.has
    obtain ⟨M0, hM0⟩ : ∃ M0, M0 = (flat d t).length := ⟨_, rfl⟩
    have hM1 : M0 ≤ 1000 := by rw [hM0]; exact HF.out.2
    have HM := Lib.hid hM0
    have hlp := len_put_is H.out.fit.1 k v
    have HLP := Lib.hid (And.intro hhas hlp)
    cases hbk : hasB (leafT k d t).2.1 k
    · rw [hbk] at HP
      have HBK := Lib.hid hbk
      clear hf hhas hM0 hlp hbk HNo HYes
      refine HP.mono ?_
      rintro e w4 ⟨A', n', c', rfl, hon, hb4⟩
      have hB4 : Below w.heap.size w w4 := HB03.out.trans (hb4.mono HB03.out.size)
      have hT4 := HT.out.below hB4
      have hcc := five ((hb4.block w2.heap.size (by have := HX3.out.2; omega)).trans HX3.out.1)
      obtain ⟨d0, -, -, -, d4, -⟩ := hcc
      obtain ⟨c0, -, -, c3, -, f3⟩ := hT4.cells
      rw [← HM.out] at c3
      have HT4 := Lib.hid hT4
      have HB4 := Lib.hid (And.intro hb4 hB4)
      have HON := Lib.hid hon
      clear hT4 hb4 hB4 hon HP
      by_cases hfull : 1000 ≤ M0
      · have hfI : (1000 : Int) ≤ (M0 : Int) := by omega
        go_wp2
        go_ret2
        refine ⟨?_, D, ?_, fun b hb => .inl hb, below_only HB4.out.2⟩
        · unfold putF putE
          rw [HFF.out, HLP.out.1, HBK.out, ← HM.out]
          simp only [if_neg (show ¬ M0 < 1000 by omega)]
          simp [show ¬ M0 < 1000 by omega, errV]
        · unfold putP
          rw [HFF.out, HLP.out.1, HBK.out, ← HM.out]
          simp only [if_neg (show ¬ M0 < 1000 by omega)]
          exact H.out.below HB4.out.2
      · have hlt : M0 < 1000 := by omega
        have hlI : (M0 : Int) < 1000 := by omega
        have hw1 : IntKind.i64.wrap ((M0 : Int) + 1) = (M0 : Int) + 1 := IntWalk.i64_in _ (by omega)
        have hl5 : (putL (flat d t) k v).length = M0 + 1 := by rw [HLP.out.2, HLP.out.1, HBK.out, ← HM.out]; simp
        have HL5 := Lib.hid hl5
        have hT5 := trm_setmany HT4.out (M0 + 1)
        rw [← hl5] at hT5
        have hLAY := put_lay (w5 := w4.setCell ⟨tb, 3, none⟩ (.int .i64 ((putL (flat d t) k v).length : Nat))) HT.out hT5 HG.out HF.out.2 (by omega) HFF.out HW.out.1 HW.out.2 HWY.out.2.2.2 HWY.out.1 HWY.out.2.1 HWY.out.2.2.1
          (((below_all HB13.out).trans (below_all HB4.out.1)).trans (agree_set _ _ _ (fun hb => by have := HT.out.lt.1; have h1 : w.heap.size ≤ tb := hb.1; omega)))
          ((below_only HB4.out.2).set _ _ (.inr (.inr rfl)))
          ((HON.out.mono (fun b hb => Nat.le_trans HB13.out.size hb)).keep (agree_set _ _ _ (fun hb => by have := HT.out.lt.1; have := HWY.out.2.2.2.size; have h1 : w1.heap.size ≤ tb := hb; omega)))
        rw [hl5] at hLAY
        rw [show ((M0 + 1 : Nat) : Int) = (M0 : Int) + 1 from rfl] at hLAY
        have HLAY := Lib.hid hLAY
        clear hl5 hT5 hLAY
        go_wp2_with fail
        refine HLAY.out.mono ?_
        rintro e w6 ⟨rfl, D', t1, t2, t3⟩
        have HT6 := Lib.hid (And.intro t1 (And.intro t2 t3))
        clear t1 t2 t3 c0 c3 f3 d0 d4
        go_wp2
        go_ret2
        refine ⟨?_, D', ?_, HT6.out.2.1, HT6.out.2.2⟩
        · unfold putF putE
          rw [HFF.out, HLP.out.1, HBK.out, ← HM.out]
          simp [hlt, errV]
        · unfold putP
          rw [HFF.out, HLP.out.1, HBK.out, ← HM.out]
          simp only [hlt, if_true]
          exact HT6.out.1
    · rw [hbk] at HP
      have HBK := Lib.hid hbk
      clear hf hhas hM0 hlp hbk HNo HYes
      refine HP.mono ?_
      rintro e w4 ⟨A', n', c', rfl, hon, hb4⟩
      have hB4 : Below w.heap.size w w4 := HB03.out.trans (hb4.mono HB03.out.size)
      have hT4 := HT.out.below hB4
      have hcc := five ((hb4.block w2.heap.size (by have := HX3.out.2; omega)).trans HX3.out.1)
      obtain ⟨d0, -, -, -, d4, -⟩ := hcc
      obtain ⟨c0, -, -, c3, -, f3⟩ := hT4.cells
      rw [← HM.out] at c3
      have HB4 := Lib.hid (And.intro hb4 hB4)
      have hl5 : (putL (flat d t) k v).length = (flat d t).length := by rw [HLP.out.2, HLP.out.1, HBK.out]; simp
      have hT5 := hT4
      rw [← hl5] at hT5
      have HLAY := Lib.hid (put_lay (w5 := w4) HT.out hT5 HG.out HF.out.2 (by rw [hl5]; exact HF.out.2) HFF.out HW.out.1 HW.out.2 HWY.out.2.2.2 HWY.out.1 HWY.out.2.1 HWY.out.2.2.1
        ((below_all HB13.out).trans (below_all HB4.out.1)) (below_only HB4.out.2) (hon.mono (fun b hb => Nat.le_trans HB13.out.size hb)))
      clear hT4 hb4 hB4 hon HP hl5 hT5
      go_wp2_with fail
      refine HLAY.out.mono ?_
      rintro e w6 ⟨rfl, D', t1, t2, t3⟩
      have HT6 := Lib.hid (And.intro t1 (And.intro t2 t3))
      clear t1 t2 t3 c0 c3 f3 d0 d4
      go_wp2
      go_ret2
      refine ⟨?_, D', ?_, HT6.out.2.1, HT6.out.2.2⟩
      · unfold putF putE
        rw [HFF.out, HLP.out.1, HBK.out]
        rfl
      · unfold putP
        rw [HFF.out, HLP.out.1, HBK.out]
        exact HT6.out.1
end Go.Proofs.Ytdkppgmhhijkgaa

namespace Go.Proofs.Ytdkppgmhhijkgaa
open Go.RowKit
set_option linter.unusedVariables false
set_option maxRecDepth 100000

/-- A key's value, or nothing. -/
def valP (P : List Pr) (k : Ky) : Ky := if hasB P k then (gt P (pos P k)).2 else []
def GetOut (w : World) (P : List Pr) (k : Ky) (e : Ending) (w' : World) : Prop := ∃ A n c, e = .returned (.tuple #[.slice A n c, .bool (hasB P k)]) ∧ Byt w' A n (valP P k) ∧ Below w.heap.size w w'
theorem field_pairs (h : Nh) (x : Nd) (w : World) : (Instr.field 72 (ndV h x) 1).run Try.prog w = .ok (.slice h.A h.n h.c) w := by kernel_rfl

/-- What way leaves, by its end. -/
def WayEnd (w : World) (d : Nat) (s : Stp) (W : List Stp) (e : Ending) (w1 : World) : Prop :=
  ∃ c gr hi xs, e = .returned (.slice (some ⟨gr, 0, none⟩) (d + 1) c) ∧ w1.ownsRow w.heap.size 74 7 (.slice (some ⟨gr, 0, none⟩) (d + 1) c) (d + 1) xs ∧ NodesR w1 xs gr w.heap.size hi (s :: W.reverse) ∧ hi ≤ w1.heap.size ∧ Below w.heap.size w w1
theorem way_last {w : World} {D : Nat → Prop} {tb g : Nat} {L : List (Option Nd)} {F : List Nat} {root m many : Nat} (h : TrM w D tb g L F root m many) {d : Nat} {t : Tr d} (hg : GoodT L F m root d t) (hL2 : L.length ≤ 9000) {C : Option Addr} {o : Nat} (q : Nat) {k : Ky} (hk : Byt w C o k) :
    ∃ W, W.length = d ∧ Calls Try.prog 33 #[.pointer (some ⟨tb, 0, none⟩), .slice C o q] w (WayEnd w d ⟨(leafT k d t).1, leafN (leafT k d t), 0⟩ W) := by
  obtain ⟨A, Cc, W, hl, hw, hWd⟩ := way_end hg k
  refine ⟨W, hWd, (way_any h hg hL2 q hk).mono fun e w1 ⟨c, gr, hi, xs, e1, e2, e3, e4, e5⟩ => ?_⟩
  have hlen : (wayT k d t).length = d + 1 := by rw [hw]; simp [hWd]
  have hrev : (wayT k d t).reverse = ⟨(leafT k d t).1, leafN (leafT k d t), 0⟩ :: W.reverse := by rw [hw]; simp
  rw [hlen] at e1 e2
  rw [hrev] at e3
  exact ⟨c, gr, hi, xs, e1, e2, e3, e4, e5⟩

set_option maxHeartbeats 1000000 in
theorem leaf_any {w : World} {D : Nat → Prop} {tb g : Nat} {L : List (Option Nd)} {F : List Nat} {root m many : Nat} (h : TrM w D tb g L F root m many) {d : Nat} {t : Tr d} (hg : GoodT L F m root d t) (hL2 : L.length ≤ 9000) {C : Option Addr} {o : Nat} (q : Nat) {k : Ky} (hk : Byt w C o k) :
    Calls Try.prog 39 #[.pointer (some ⟨tb, 0, none⟩), .slice C o q] w fun e w' => e = .returned (.int .i64 (leafT k d t).1) ∧ Below w.heap.size w w' := by
  obtain ⟨W, hW, HY⟩ := way_last h hg hL2 q hk
  clear h hg hk
  have HW := Lib.hid hW
  clear hW
  go_enter Try.func39, Try.ntmps39
  go_wp2_with fail
  refine HY.mono ?_
  rintro e w1 ⟨c, gr, hi, xs, rfl, hrow, hnod, -, hb⟩
  obtain ⟨lo, hi', hh, n1, n2, n3, n4, n5, n6⟩ := leaf_heads hnod
  rw [show W.reverse.length = d by rw [List.length_reverse, HW.out]] at n4
  have HLA := last_any hrow n4
  have hfd := field_num ⟨(leafT k d t).1, leafN (leafT k d t), 0⟩ hh
  have HB := Lib.hid hb
  clear HY hrow hnod hb n1 n2 n3 n4 n5 n6
  go_wp2_with fail
  refine HLA.mono ?_
  rintro e w2 ⟨rfl, hb2⟩
  have HB2 := Lib.hid (HB.out.trans (hb2.mono HB.out.size))
  clear HLA hb2
  go_wp2
  go_ret
  exact ⟨rfl, HB2.out⟩

end Go.Proofs.Ytdkppgmhhijkgaa

namespace Go.Proofs.Ytdkppgmhhijkgaa
open Go.RowKit
set_option linter.unusedVariables false
set_option maxRecDepth 100000

theorem prs_pair_on {C : Nat → Prop} {w : World} {A : Option Addr} {n c : Nat} {L : List Pr} (h : On C w (Prs · A n c L)) {j : Nat} (hj : j < n) :
    ∃ b o A1 n1 c1 B1 m1 d1, A = some ⟨b, o, none⟩ ∧ w.cell? ⟨b, o + j * 2, none⟩ = some (.slice A1 n1 c1) ∧ w.cell? ⟨b, o + j * 2 + 1, none⟩ = some (.slice B1 m1 d1) ∧ On C w (Byt · A1 n1 (gt L j).1) ∧ On C w (Byt · B1 m1 (gt L j).2) := by
  obtain ⟨b, o, e, hb, A1, n1, c1, B1, m1, d1, k0, k1, y1, y2⟩ := h.here.at_ hj
  have hC : C b := block_in (C := C) (w := w) (b := b) (o := o + j * 2) fun w' ha => by
    obtain ⟨b', o', e', hb', A2, n2, c2, B2, m2, d2, q0, q1, z1, z2⟩ := (h w' ha).at_ hj
    rw [e] at e'
    injection e' with e'
    injection e' with e1 e2
    subst e1
    subst e2
    exact ⟨A2, n2, c2, q0⟩
  have key : ∀ w', Agree C w w' → Byt w' A1 n1 (gt L j).1 ∧ Byt w' B1 m1 (gt L j).2 := fun w' ha => by
    obtain ⟨b', o', e', hb', A2, n2, c2, B2, m2, d2, q0, q1, z1, z2⟩ := (h w' ha).at_ hj
    rw [e] at e'
    injection e' with e'
    injection e' with e1 e2
    subst e1
    subst e2
    rw [World.cell?_of_block (w := w) (a := ⟨b, o + j * 2, none⟩) (ha.2 b hC hb), k0] at q0
    rw [World.cell?_of_block (w := w) (a := ⟨b, o + j * 2 + 1, none⟩) (ha.2 b hC hb), k1] at q1
    injection q0 with q0
    injection q0 with q2 q3 q4
    injection q1 with q1
    injection q1 with q5 q6 q7
    rw [q2, q3, q5, q6]
    exact ⟨z1, z2⟩
  exact ⟨b, o, A1, n1, c1, B1, m1, d1, e, k0, k1, fun w' ha => (key w' ha).1, fun w' ha => (key w' ha).2⟩
theorem prs_reads_on {C : Nat → Prop} {w : World} {A : Option Addr} {n c : Nat} {L : List Pr} (h : On C w (Prs · A n c L)) :
    ∃ ys, ReadsC (fun _ => C) w ys L ∧ Reads w ys L ∧ ys.length = n * 2 ∧ ∀ a, A = some a → ∀ j u, ys[j]? = some u → w.cell? (a.add j) = some u := by
  obtain ⟨ys, h1, h2, h3⟩ := h.here.cells
  refine ⟨ys, ⟨h1.1, fun j hj => ?_⟩, h1, h2, h3⟩
  have hjn : j < n := by have := h.here.1; omega
  obtain ⟨b, o, A1, n1, c1, B1, m1, d1, e, k0, k1, y1, y2⟩ := prs_pair_on h hjn
  have g0 := h3 _ e (j * 2) _ (List.getElem?_eq_getElem (by omega))
  have g1 := h3 _ e (j * 2 + 1) _ (List.getElem?_eq_getElem (by omega))
  rw [add_lit] at g0 g1
  rw [k0] at g0
  rw [← Nat.add_assoc, k1] at g1
  injection g0 with g0
  injection g1 with g1
  exact ⟨A1, n1, c1, B1, m1, d1, by rw [List.getElem?_eq_getElem (by omega), g0], by rw [List.getElem?_eq_getElem (by omega), g1], y1, y2⟩

/-- append of pairs to a row of one's own; where it lies then. -/
theorem wpList_append_prs_at {w w0 : World} {ops : Array Oper} {rest : List Oper} {o : Oper} {a : Act} {Q : Exit → Act → World → Prop} (hgd : o.guard = none) (s x : Operand)
    (ho : o.op = .call { callee := .builtin .append, args := #[s, x], argTypes := #[22, 22] })
    (base : Nat) (v : Value) (n : Nat) (xs : List Value) (hs : a.eval s = v) (hown : w.ownsRow base 27 2 v n xs)
    (A : Option Addr) (m c : Nat) (L : List Pr) {C : Nat → Prop} (hx : a.eval x = .slice A m c) (hp : On C w0 (Prs · A m c L)) (hb : Below w0.heap.size w0 w) (h63 : n + m ≤ 9000) (hbase : base ≤ w.heap.size)
    (h : ∀ v' w' ys, ReadsC (fun _ => C) w0 ys L → w'.ownsRow base 27 2 v' (n + m) (xs ++ ys) → w.grownBy w' v.ownBlock → (v'.ownBlock = v.ownBlock ∨ v'.ownBlock = some w.heap.size) → wpList Try.prog ops Q rest (a.put o.dst v') w') :
    wpList Try.prog ops Q (o :: rest) a w := by
  obtain ⟨i0, hi, hz0, hz1, hz2⟩ := info_parts Try.infoPair
  obtain ⟨ys, hrc, hr, hl, hc⟩ := prs_reads_on hp
  cases A with
  | none =>
    have hph := hp.here
    obtain rfl : c = 0 := hph.2.2.2.1 rfl
    obtain rfl : m = 0 := Nat.le_zero.1 hph.2.1
    obtain rfl : ys = [] := List.eq_nil_of_length_eq_zero (by omega)
    refine wpList_append_own_none (w := w) hgd s x _ ho base 27 i0 2 Try.underlying22 hi v n xs hs hown hx ?_
    exact h v w [] hrc (by simpa using hown) (World.grownBy.refl _ _) (.inl rfl)
  | some ad =>
    refine wpList_append_own_at w hgd s x _ ho base 27 i0 (.agg #[.slice none 0 0, .slice none 0 0]) 2 48 Try.underlying22 hi hz0 hz1 hz2 rfl (by decide) v n xs hs hown ad m c ys hx hl (fun j u hu => ?_) hr.one (by unfold maxLen; omega) (by omega) hbase ?_
    · have hcell := hc ad rfl j u hu
      have hlt := World.block_lt_of_cell? w0 _ hcell
      exact (hb.cell hlt).trans hcell
    intro v' w' h1 h2 _ h3
    exact h v' w' ys hrc h1 h2 h3

/-- The next number behind some leaves. -/
def nextOf : List (Nat × List Pr × Int) → Int
  | [] => -1
  | x :: _ => x.1
theorem chn_next : ∀ (l done : List (Nat × List Pr × Int)) (x : Nat × List Pr × Int) (r : List (Nat × List Pr × Int)) (s : Int), Chn s (l.map fun x => (x.1, x.2.2)) (-1) → l = done ++ x :: r → x.2.2 = nextOf r
  | _, [], x, [], s, h, e => by
    subst e
    exact h.2
  | _, [], x, y :: r, s, h, e => by
    subst e
    exact h.2.1
  | _, z :: done, x, r, s, h, e => by
    subst e
    exact chn_next _ done x r _ h.2 rfl
def flatL (l : List (Nat × List Pr × Int)) : List Pr := (l.map fun x => x.2.1).flatten
theorem flatL_snoc (l : List (Nat × List Pr × Int)) (x : Nat × List Pr × Int) : flatL (l ++ [x]) = flatL l ++ x.2.1 := by simp [flatL]
theorem ReadsC.append {C : Nat → Prop} {w : World} {xs ys : List Value} {L M : List Pr} (h : ReadsC (fun _ => C) w xs L) (h' : ReadsC (fun _ => C) w ys M) : ReadsC (fun _ => C) w (xs ++ ys) (L ++ M) := by
  obtain ⟨h1, h2⟩ := h
  obtain ⟨h3, h4⟩ := h'
  refine ⟨by simp; omega, fun j hj => ?_⟩
  by_cases hl : j < L.length
  · obtain ⟨A, n, c, B, m, d, e1, e2, e3, e4⟩ := h2 j hl
    rw [List.getElem?_append_left (by omega), List.getElem?_append_left (by omega), gt_left hl]
    exact ⟨A, n, c, B, m, d, e1, e2, e3, e4⟩
  · obtain ⟨A, n, c, B, m, d, e1, e2, e3, e4⟩ := h4 (j - L.length) (by simp at hj; omega)
    rw [List.getElem?_append_right (by omega), List.getElem?_append_right (by omega), gt_right (by omega), show j * 2 - xs.length = (j - L.length) * 2 by omega, show j * 2 + 1 - xs.length = (j - L.length) * 2 + 1 by omega]
    exact ⟨A, n, c, B, m, d, e1, e2, e3, e4⟩

theorem ReadsC.now {C : Nat → Nat → Prop} {w : World} {xs : List Value} {L : List Pr} (h : ReadsC C w xs L) : ReadsC (fun t b => C t b ∧ b < w.heap.size) w xs L :=
  ⟨h.1, fun j hj => by
    obtain ⟨A, n, c, B, m, d, e1, e2, e3, e4⟩ := h.2 j hj
    exact ⟨A, n, c, B, m, d, e1, e2, e3.now, e4.now⟩⟩
/-- A list of pairs of one's own, that grows: its row, and its bytes elsewhere. -/
def Grows (w : World) (N : Nat) (v : Value) (n : Nat) (P : List Pr) : Prop := ∃ xs, w.ownsRow N 27 2 v n xs ∧ ReadsC (fun _ b => ∀ k, v.ownBlock = some k → b ≠ k) w xs P
theorem Grows.len {w : World} {N : Nat} {v : Value} {n : Nat} {P : List Pr} (h : Grows w N v n P) : P.length = n := by
  obtain ⟨xs, h1, h2⟩ := h
  have := h1.1
  have := h2.1
  omega
theorem Grows.prs {w : World} {N : Nat} {v : Value} {n : Nat} {P : List Pr} (h : Grows w N v n P) : ∃ A c, v = .slice A n c ∧ Prs w A n c P := by
  obtain ⟨xs, h1, h2⟩ := h
  obtain ⟨A, c, e, hp, _⟩ := own_prs h1 (L := P) ⟨h2.1, fun j hj => by
    obtain ⟨A, n, c, B, m, d, e1, e2, e3, e4⟩ := h2.2 j hj
    exact ⟨A, n, c, B, m, d, e1, e2, e3.here, e4.here⟩⟩
  exact ⟨A, c, e, hp⟩
theorem Grows.keep {w w' : World} {N : Nat} {v : Value} {n : Nat} {P : List Pr} (h : Grows w N v n P) (hb : Below w.heap.size w w') : Grows w' N v n P := by
  obtain ⟨xs, h1, h2⟩ := h
  exact ⟨xs, own_keep h1 hb, h2.keep fun _ => below_all hb⟩
theorem grows_nil (w : World) (N : Nat) : Grows w N (.slice none 0 0) 0 [] := ⟨[], World.ownsRow_nil _ _ _ _, rfl, fun j hj => by cases hj⟩
theorem own_lt {w : World} {N : Nat} {e s n : Nat} {v : Value} {xs : List Value} (h : w.ownsRow N e s v n xs) : ∀ k, v.ownBlock = some k → k < w.heap.size := fun k hk => (h.lt k hk).2
/-- .. after an append. -/
theorem Grows.more {w0 w w' : World} {N n m : Nat} {v v' : Value} {P M : List Pr} {xs ys : List Value} {C : Nat → Prop} (hown0 : w0.ownsRow N 27 2 v n xs) (hr : ReadsC (fun _ b => ∀ k, v.ownBlock = some k → b ≠ k) w0 xs P) (hb : Below w0.heap.size w0 w) (hC : ∀ b, C b → ∀ k, v.ownBlock = some k → b ≠ k)
    (hy : ReadsC (fun _ => C) w0 ys M) (h1 : w'.ownsRow N 27 2 v' (n + m) (xs ++ ys)) (hg : w.grownBy w' v.ownBlock) (hat : v'.ownBlock = v.ownBlock ∨ v'.ownBlock = some w.heap.size) : Grows w' N v' (n + m) (P ++ M) := by
  have hsz := hb.size
  have key : ∀ (xs : List Value) (L : List Pr), ReadsC (fun _ b => ∀ k, v.ownBlock = some k → b ≠ k) w0 xs L → ReadsC (fun _ b => ∀ k, v'.ownBlock = some k → b ≠ k) w' xs L := fun xs L h => by
    have h2 := (h.now.keep fun t => below_all hb).keep fun t => agree_grown hg (C := fun b => (∀ k, v.ownBlock = some k → b ≠ k) ∧ b < w0.heap.size) fun k hk hc => hc.1 k hk rfl
    refine h2.mono fun t ht b hb k hk => ?_
    rcases hat with e | e
    · exact hb.1 k (by rw [← e]; exact hk)
    · rw [e] at hk
      injection hk with hk
      have := hb.2
      omega
  exact ⟨_, h1, (key _ _ hr).append (key _ _ (hy.mono fun t ht b hb => hC b hb))⟩

theorem get_none {w : World} {D : Nat → Prop} {g : Nat} {L : List (Option Nd)} {F : List Nat} (h : Ar w D g L F) {i : Int} (hi : i < 0) :
    Calls Try.prog 41 #[.pointer (some ⟨g, 0, none⟩), .int .i64 i] w fun e w' => ∃ h x, e = .returned (.tuple #[ndV h x, .bool false]) ∧ Below w.heap.size w w' := by
  have hu : usedB L i = false := by unfold usedB; simp; omega
  refine (get_own h i (by omega)).mono fun e w' ⟨hh, h1, _, h3, _⟩ => ⟨hh, gotNd L i, by rw [h1, hu], h3⟩
/-- Where the loop has come to. -/
def PairsI (w : World) (all : List (Nat × List Pr × Int)) (l i j : Value) (wr : World) : Prop :=
  ∃ done rest n, all = done ++ rest ∧ j = .int .i64 (done.length : Nat) ∧ i = .int .i64 (nextOf rest) ∧ Grows wr w.heap.size l n (flatL done) ∧ Below w.heap.size w wr

set_option maxHeartbeats 4000000 in
theorem pairs_any {w : World} {D : Nat → Prop} {tb g : Nat} {L : List (Option Nd)} {F : List Nat} {root m many : Nat} (h : TrM w D tb g L F root m many) {d : Nat} {t : Tr d} (hg : GoodT L F m root d t) (hP : (flat d t).length ≤ 1000) :
    Calls Try.prog 21 #[.pointer (some ⟨tb, 0, none⟩)] w fun e w' => ∃ A n c, e = .returned (.slice A n c) ∧ Prs w' A n c (flat d t) ∧ Below w.heap.size w w' := by
  obtain ⟨f1, f2, f3⟩ := hg.few hP
  have HLf := leaf_any h hg (by omega) 0 (C := none) (o := 0) (k := []) ⟨rfl, fun h => absurd h (by omega)⟩
  obtain ⟨r0, hr0⟩ := leaf_first hg.ok
  obtain ⟨s0, hs0⟩ := hg.chn
  rw [lvp_lvs] at hs0
  have hfew := lvp_few d t
  replace hfew : (lvp d t).length ≤ L.length := by have := hg.all; omega
  have HT := Lib.hid h
  have HA := Lib.hid (And.intro (lvp_holds hg.holds) (And.intro hs0 (lvp_flat d t)))
  have HR := Lib.hid hr0
  have HF := Lib.hid (And.intro hfew hP)
  have HLT := Lib.hid hg.holds.lt
  clear h hg hr0 hs0 hfew
  go_enter Try.func21, Try.ntmps21
  go_wp2_with fail
  refine HLf.mono ?_
  rintro e w1 ⟨rfl, hb1⟩
  have HT1 := Lib.hid (HT.out.below hb1)
  have HB1 := Lib.hid hb1
  obtain ⟨c0, -, -, -, -, -⟩ := HT1.out.cells
  have HLen := len_any HT1.out.2.1
  clear HLf hb1
  go_wp2_with fail
  refine HLen.mono ?_
  rintro e w2 ⟨rfl, rfl⟩
  clear HLen c0
  go_wp2_with fail
  go_loopw [3, 4, 14] (fun l i j wr => PairsI w (lvp d t) l i j wr) (fun _ _ j _ => L.length + 1 - (intOf j).toNat)
  case atStart => exact ⟨[], lvp d t, 0, rfl, rfl, by rw [HR.out]; rfl, grows_nil _ _, HB1.out⟩
  case round =>
    obtain ⟨done, rest, n, hall, rfl, rfl, hgr, hb⟩ := hrel
    have HALL := Lib.hid hall
    have hdl : done.length + rest.length ≤ L.length := by
      have := HF.out.1
      rw [hall, List.length_append] at this
      exact this
    have hT := HT.out.below hb
    have HTr := Lib.hid hT
    have HG := Lib.hid hgr
    have HB := Lib.hid hb
    obtain ⟨c0, -, -, -, -, -⟩ := hT.cells
    have hL2 : L.length ≤ 2000 := f1
    clear hall hgr hb hT
    obtain ⟨A, c, rfl, hpr⟩ := HG.out.prs
    have HPR := Lib.hid hpr
    clear hpr
    cases rest with
    | nil =>
      have hend : flatL done = flat d t := by
        rw [HA.out.2.2, HALL.out, List.append_nil]
        rfl
      have HE := Lib.hid hend
      rw [show nextOf [] = -1 from rfl]
      clear hend
      by_cases hlt : done.length < L.length
      · have HGet := get_none HTr.out.2.1 (i := -1) (by omega)
        go_wp2_with fail
        refine HGet.mono ?_
        rintro e w3 ⟨h3, x3, rfl, hb3⟩
        have HB3 := Lib.hid hb3
        clear HGet hb3
        go_wp2
        go_ret
        have hbn := HB3.out.alloc HB3.out.size (.cells #[.bool x3.leaf, .slice h3.A h3.n h3.c, .slice h3.B h3.m h3.d, .slice h3.K h3.k h3.e, .int .i64 x3.next] 72)
        refine ⟨A, n, c, rfl, ?_, HB.out.trans (hbn.mono HB.out.size)⟩
        rw [← HE.out]
        exact HPR.out.below hbn
      · have hge : ¬ ((done.length : Int) < (L.length : Int)) := by omega
        go_wp2
        go_ret
        refine ⟨A, n, c, rfl, ?_, HB.out⟩
        rw [← HE.out]
        exact HPR.out
    | cons x r =>
      have hlt : done.length < L.length := by simp at hdl; omega
      have hx : lat L x.1 = some (leafN x) := HA.out.1 x (by rw [HALL.out]; simp)
      have hxl := lat_lt hx
      have HGet := get_node HTr.out.2.1 (by omega) hx
      have hnx := chn_next _ _ _ _ _ HA.out.2.1 HALL.out
      have HNX := Lib.hid hnx
      have hcnt : n + x.2.1.length ≤ 1000 := by
        have h1 := HF.out.2
        rw [HA.out.2.2, HALL.out] at h1
        have h2 := HG.out.len
        have h3 : ((done ++ x :: r).map fun x => x.2.1).flatten.length = (flatL done).length + (x.2.1.length + ((r.map fun x => x.2.1).flatten).length) := by simp [flatL]
        omega
      rw [show nextOf (x :: r) = (x.1 : Int) from rfl]
      clear hx hnx
      go_wp2_with fail
      refine HGet.mono ?_
      rintro e w3 ⟨hh, rfl, hin, hb3⟩
      have HIN := Lib.hid hin
      have HB3 := Lib.hid hb3
      have HW := Lib.hid (box5 w3 (.bool (leafN x).leaf) (.slice hh.A hh.n hh.c) (.slice hh.B hh.m hh.d) (.slice hh.K hh.k hh.e) (.int .i64 (leafN x).next) 72)
      obtain ⟨xs, ho, hrd⟩ := HG.out
      have HO3 := Lib.hid (own_keep ho hb3)
      have HRD := Lib.hid (hrd.keep (fun t => below_all hb3))
      have HOL := Lib.hid (own_lt ho)
      have HOW := Lib.hid ((own_keep ho hb3).alloc (.cells #[.bool (leafN x).leaf, .slice hh.A hh.n hh.c, .slice hh.B hh.m hh.d, .slice hh.K hh.k hh.e, .int .i64 (leafN x).next] 72))
      have hhn : x.2.1.length = hh.n := hin.reads.here.1.1
      have hsum : n + hh.n ≤ 9000 := by omega
      have hbase : w.heap.size ≤ (w3.alloc (.cells #[.bool (leafN x).leaf, .slice hh.A hh.n hh.c, .slice hh.B hh.m hh.d, .slice hh.K hh.k hh.e, .int .i64 (leafN x).next] 72)).heap.size := by
        have := HB.out.size; have := hb3.size; simp; omega
      clear HGet hin hb3 c0 ho hrd HG
      go_wp2_with (at_builtin; refine wpList_append_prs_at rfl _ _ rfl w.heap.size (.slice A n c) n xs rfl HOW.out hh.A hh.n hh.c x.2.1 (C := fun b => wr.heap.size ≤ b ∧ b < w3.heap.size) rfl (HIN.out.reads.imp fun v hv => hv.1) ((Below.refl _ _).alloc (Nat.le_refl _) _) hsum hbase ?_)
      intro v' w5 ys hys hown5 hgrow5 hat5
      have HG5 := Lib.hid (Grows.more (C := fun b => wr.heap.size ≤ b ∧ b < w3.heap.size) HO3.out HRD.out ((Below.refl _ _).alloc (Nat.le_refl _) _) (fun b hb k hk => by have := HOL.out k hk; have h1 : wr.heap.size ≤ b := hb.1; omega) hys hown5 hgrow5 (by rw [alloc_sz]; exact hat5))
      have HB5 := Lib.hid (((HB.out.trans (HB3.out.mono HB.out.size)).alloc (by have := HB.out.size; have := HB3.out.size; omega) (.cells #[.bool (leafN x).leaf, .slice hh.A hh.n hh.c, .slice hh.B hh.m hh.d, .slice hh.K hh.k hh.e, .int .i64 (leafN x).next] 72)).grown hgrow5 hbase (fun k hk => (HO3.out.lt k hk).1))
      have q5 := (hgrow5.block w3.heap.size (by simp) (fun e => by have := HOL.out _ e.symm; have := HB3.out.size; omega)).trans (heap_alloc_new w3 _)
      obtain ⟨-, -, -, -, d4, -⟩ := five q5
      clear hys hown5 hgrow5 hat5 q5 HO3 HRD HOL HOW HW hbase hsum
      go_wp2
      go_roundw
      case rel =>
        refine ⟨done ++ [x], r, n + hh.n, by rw [HALL.out]; simp, ?_, ?_, ?_, HB5.out⟩
        · rw [List.length_append]; rfl
        · rw [← HNX.out]; rfl
        · rw [flatL_snoc]; exact HG5.out
      case measure =>
        simp [intOf]
        omega
end Go.Proofs.Ytdkppgmhhijkgaa

namespace Go.Proofs.Ytdkppgmhhijkgaa
open Go.RowKit
set_option linter.unusedVariables false
set_option maxRecDepth 100000

def belowB (x k : List UInt8) : Bool := decide (k.length = 0) || ltB x k
def soundB (l k : List UInt8) : Bool := decide (l.length ≤ 16) && (decide (k.length ≤ 16) && belowB l k)
def inB (l k x : List UInt8) : Bool := !ltB x l && belowB x k
set_option maxHeartbeats 400000 in
theorem rsound_any {w : World} {A B : Option Addr} {n m : Nat} (c d : Nat) {l k : List UInt8} (h : Byt w A n l) (h' : Byt w B m k) (hn : n ≤ maxLen) (hm : m ≤ maxLen) :
    Calls Try.prog 61 #[.agg #[.slice A n c, .slice B m d]] w fun e w' => e = .returned (.bool (soundB l k)) ∧ Below w.heap.size w w' := by
  have H := Lib.hid (fun o => less_any c d (h.alloc o) (h'.alloc o) hn hm)
  unfold maxLen at hn hm
  have hr : soundB l k = (decide (n ≤ 16) && (decide (m ≤ 16) && (decide (m = 0) || ltB l k))) := by rw [← h.1, ← h'.1]; rfl
  have HR := Lib.hid hr
  clear hr h h'
  have h0 : m = 0 ∨ (((m : Int) == 0) = false ∧ 0 < m) := by
    by_cases h : m = 0
    · exact .inl h
    · exact .inr ⟨by simp; omega, by omega⟩
  by_cases h1 : n ≤ 16 <;> by_cases h2 : m ≤ 16 <;> rcases h0 with rfl | ⟨h0, h00⟩
  all_goals first | (exfalso; omega) | skip
  all_goals
    go_enter Try.func61, Try.ntmps61
    go_wp2_with (go_at_call 26; refine (H.out _).mono ?_; rintro e w' ⟨rfl, dd, rfl⟩)
    go_ret
    refine ⟨ret_bool ?_, ((Below.refl _ _).alloc (Nat.le_refl _) _).trans (Drawn.below ⟨dd, rfl⟩ _)⟩
    rw [HR.out]
    first | (simp [h1, h2]; done) | (simp [h1, h2]; omega)

set_option maxHeartbeats 400000 in
theorem rin_any {w : World} {A B C : Option Addr} {n m o : Nat} (c d q : Nat) {l k x : List UInt8} (h : Byt w A n l) (h' : Byt w B m k) (hx : Byt w C o x) (hn : n ≤ maxLen) (hm : m ≤ maxLen) (ho : o ≤ maxLen) :
    Calls Try.prog 74 #[.agg #[.slice A n c, .slice B m d], .slice C o q] w fun e w' => e = .returned (.bool (inB l k x)) ∧ Below w.heap.size w w' := by
  have H1 := Lib.hid (fun o => less_any q c (hx.alloc o) (h.alloc o) ho hn)
  have H2 := Lib.hid (fun o k => less_any q d ((hx.alloc o).drewN k) ((h'.alloc o).drewN k) ho hm)
  unfold maxLen at hn hm ho
  have hr : inB l k x = (!ltB x l && (decide (m = 0) || ltB x k)) := by rw [← h'.1]; rfl
  have HR := Lib.hid hr
  clear hr h h' hx
  have h0 : m = 0 ∨ (((m : Int) == 0) = false ∧ 0 < m) := by
    by_cases h : m = 0
    · exact .inl h
    · exact .inr ⟨by simp; omega, by omega⟩
  cases hl : ltB x l <;> rcases h0 with rfl | ⟨h0, h00⟩
  all_goals
    rw [hl] at HR H1
    clear hl
    go_enter Try.func74, Try.ntmps74
    go_wp2_with fail
    refine (H1.out _).mono ?_
    rintro e w' ⟨rfl, dd, rfl⟩
    go_wp2_with (go_at_call 26; refine (H2.out _ _).mono ?_; rintro e w' ⟨rfl, ee, rfl⟩)
    go_ret
    refine ⟨ret_bool ?_, ((Below.refl _ _).alloc (Nat.le_refl _) _).trans (Drawn.below ⟨dd + ee, rfl⟩ _)⟩
    rw [HR.out]
    first | (simp; done) | (simp; omega)

theorem snd_is {l h : Ky} (hs : sndR l h) : soundB l h = true := by
  obtain ⟨h1, h2, h3⟩ := hs
  unfold soundB belowB
  rcases h3 with rfl | h3
  · simp [h1]
  · simp [h1, h2, h3]
theorem in_is {l h k : Ky} (hs : inR l h k) : inB l h k = true := by
  obtain ⟨h1, h2⟩ := hs
  unfold inB belowB
  rcases h2 with rfl | h2
  · simp [h1]
  · simp [h1, h2]

end Go.Proofs.Ytdkppgmhhijkgaa

namespace Go.Proofs.Ytdkppgmhhijkgaa
open Go.RowKit
set_option linter.unusedVariables false
set_option maxRecDepth 100000

def followsB (k l : List UInt8) : Bool := decide (0 < k.length) && sameB k l

theorem ltB_self (l : List UInt8) : ltB l l = false := by
  unfold ltB
  rw [(cmpB_eq l l).2 rfl]
  rfl

end Go.Proofs.Ytdkppgmhhijkgaa
