/- The contract of package row's told: pairs as new memory; nothing that was there is changed. Condition: what came in can be read; no more than 3 pieces, no more than 3000 pairs, keys and values of at most 1000 bytes. -/
import Derived.Test.YtpicdokkdpbpdaaRd
namespace Go.Proofs.Ytpicdokkdpbpdaa
open Go.RowKit
set_option linter.unusedVariables false

/-- A slice of bytes that reads as a list, and does not lie in block g. -/
def BytF (g : Nat) (w : World) (A : Option Addr) (n : Nat) (l : List UInt8) : Prop := Byt w A n l ∧ ∀ a, 0 < n → A = some a → a.block ≠ g
theorem BytF.below {g : Nat} {w w' : World} {A : Option Addr} {n : Nat} {l : List UInt8} (h : BytF g w A n l) (hb : Below w.heap.size w w') : BytF g w' A n l := ⟨h.1.below hb, h.2⟩
theorem BytF.set {g : Nat} {w : World} {A : Option Addr} {n : Nat} {l : List UInt8} (h : BytF g w A n l) (k : Nat) (u : Value) : BytF g (w.setCell ⟨g, k, none⟩ u) A n l :=
  ⟨⟨h.1.1, fun h0 => by
    obtain ⟨a, e, hb, hj⟩ := h.1.2 h0
    exact ⟨a, e, by simpa [World.setCell] using hb, fun j hl => (World.cell?_setCell_other w ⟨g, k, none⟩ _ u (fun e' => h.2 a h0 e (by rw [← add_block a j, ← e']))).trans (hj j hl)⟩⟩, h.2⟩
theorem Byt.f {g : Nat} {w : World} {A : Option Addr} {n : Nat} {l : List UInt8} (h : Byt w A n l) (hg : w.heap.size ≤ g) : BytF g w A n l :=
  ⟨h, fun a h0 e => by
    obtain ⟨a', e', hb, _⟩ := h.2 h0
    rw [e] at e'
    injection e' with e'
    subst e'
    omega⟩
theorem Byt.new {g : Nat} {w : World} {A : Option Addr} {n : Nat} {l : List UInt8} (h : Byt w A n l) (hg : New (g + 1) A) : BytF g w A n l :=
  ⟨h, fun a h0 e => by have := hg a e; omega⟩

/-- Cells that read as pairs, none of whose bytes lie in block g. -/
def ReadsF (g : Nat) (w : World) (xs : List Value) (L : List Pr) : Prop :=
  xs.length = L.length * 2 ∧ ∀ j, j < L.length → ∃ A n c B m d, xs[j * 2]? = some (.slice A n c) ∧ xs[j * 2 + 1]? = some (.slice B m d) ∧ BytF g w A n (gt L j).1 ∧ BytF g w B m (gt L j).2
theorem ReadsF.reads {g : Nat} {w : World} {xs : List Value} {L : List Pr} (h : ReadsF g w xs L) : Reads w xs L :=
  ⟨h.1, fun j hj => by
    obtain ⟨A, n, c, B, m, d, e1, e2, e3, e4⟩ := h.2 j hj
    exact ⟨A, n, c, B, m, d, e1, e2, e3.1, e4.1⟩⟩
theorem Reads.f {g : Nat} {w : World} {xs : List Value} {L : List Pr} (h : Reads w xs L) (hg : w.heap.size ≤ g) : ReadsF g w xs L :=
  ⟨h.1, fun j hj => by
    obtain ⟨A, n, c, B, m, d, e1, e2, e3, e4⟩ := h.2 j hj
    exact ⟨A, n, c, B, m, d, e1, e2, e3.f hg, e4.f hg⟩⟩
theorem ReadsF.below {g : Nat} {w w' : World} {xs : List Value} {L : List Pr} (h : ReadsF g w xs L) (hb : Below w.heap.size w w') : ReadsF g w' xs L :=
  ⟨h.1, fun j hj => by
    obtain ⟨A, n, c, B, m, d, e1, e2, e3, e4⟩ := h.2 j hj
    exact ⟨A, n, c, B, m, d, e1, e2, e3.below hb, e4.below hb⟩⟩
theorem ReadsF.set {g : Nat} {w : World} {xs : List Value} {L : List Pr} (h : ReadsF g w xs L) (k : Nat) (u : Value) : ReadsF g (w.setCell ⟨g, k, none⟩ u) xs L :=
  ⟨h.1, fun j hj => by
    obtain ⟨A, n, c, B, m, d, e1, e2, e3, e4⟩ := h.2 j hj
    exact ⟨A, n, c, B, m, d, e1, e2, e3.set k u, e4.set k u⟩⟩
theorem ReadsF.put {g : Nat} {w : World} {xs : List Value} {L : List Pr} (h : ReadsF g w xs L) {j : Nat} (hj : j < L.length) {A B : Option Addr} {n m : Nat} (c d : Nat) (ha : BytF g w A n (gt L j).1) (hb : BytF g w B m (gt L j).2) :
    ReadsF g w ((xs.set (j * 2) (.slice A n c)).set (j * 2 + 1) (.slice B m d)) L := by
  have hl := h.1
  refine ⟨by simp [hl], fun i hi => ?_⟩
  by_cases e : i = j
  · subst e
    refine ⟨A, n, c, B, m, d, ?_, ?_, ha, hb⟩
    · rw [List.getElem?_set_ne (by omega), List.getElem?_set_self (by omega)]
    · rw [List.getElem?_set_self (by simp; omega)]
  · obtain ⟨A, n, c, B, m, d, e1, e2, e3, e4⟩ := h.2 i hi
    refine ⟨A, n, c, B, m, d, ?_, ?_, e3, e4⟩
    · rw [List.getElem?_set_ne (by omega), List.getElem?_set_ne (by omega), e1]
    · rw [List.getElem?_set_ne (by omega), List.getElem?_set_ne (by omega), e2]

/-- Where the loop that copies each pair has come to. -/
def ToldInv (w : World) (g n cap : Nat) (L : List Pr) (wr : World) : Prop :=
  ∃ xs, wr.ownsRow w.heap.size 43 2 (.slice (some ⟨g, 0, none⟩) n cap) n xs ∧ ReadsF g wr xs L ∧ Below w.heap.size w wr ∧ w.heap.size ≤ g ∧ g < wr.heap.size

theorem own_keep {w w' : World} {base e size n : Nat} {v : Value} {xs : List Value} (h : w.ownsRow base e size v n xs) (hb : Below w.heap.size w w') : w'.ownsRow base e size v n xs :=
  h.kept (row := none) ⟨hb.os, hb.tape, hb.output, hb.size, fun k hk _ => hb.block k hk⟩ (by cases hv : v.ownBlock <;> simp)
theorem box_0 (w : World) (x y : Value) (T : TypeId) : (w.alloc (.cells #[x, y] T)).cell? ⟨w.heap.size, 0, none⟩ = some x := by simp
theorem box_1 (w : World) (x y : Value) (T : TypeId) : (w.alloc (.cells #[x, y] T)).cell? ⟨w.heap.size, 1, none⟩ = some y := by simp

theorem undrew {B : Nat} {w w' : World} (h : Below B w.drew w') : Below B w w' := ⟨h.os, h.tape, h.output, h.size, h.block⟩

/-- What one round of that loop leaves. -/
theorem told_round {w wr w3 w4 : World} {g k cap j n1 m1 x2 x3 : Nat} {M : List Pr} {ys : List Value} {A2 B2 : Option Addr} (c1 d1 : Nat) (hj : j < M.length)
    (hown : wr.ownsRow w.heap.size 43 2 (.slice (some ⟨g, 0, none⟩) k cap) k ys) (hr : ReadsF g wr ys M) (hb : Below w.heap.size w wr) (hg1 : w.heap.size ≤ g) (hg2 : g < wr.heap.size)
    (hb3 : Below wr.heap.size wr w3) (p2 : Byt w3 A2 n1 (gt M j).1) (n2 : New (g + 1) A2) (hb4 : Below w3.heap.size w3 w4) (p3 : Byt w4 B2 m1 (gt M j).2) (n3 : New (g + 1) B2) :
    ToldInv w g k cap M ((w4.setCell ⟨g, j * 2, none⟩ (.slice A2 n1 x2)).setCell ⟨g, j * 2 + 1, none⟩ (.slice B2 m1 x3)) := by
  have hb34 : Below wr.heap.size wr w4 := hb3.trans (hb4.mono hb3.size)
  have o4 := own_keep hown hb34
  have r4 := hr.below hb34
  have r5 := (r4.set (j * 2) (.slice A2 n1 x2)).set (j * 2 + 1) (.slice B2 m1 x3)
  have q2 : BytF g _ A2 n1 (gt M j).1 := (((p2.below hb4).new n2).set (j * 2) (.slice A2 n1 x2)).set (j * 2 + 1) (.slice B2 m1 x3)
  have q3 : BytF g _ B2 m1 (gt M j).2 := ((p3.new n3).set (j * 2) (.slice A2 n1 x2)).set (j * 2 + 1) (.slice B2 m1 x3)
  refine ⟨_, ((o4.stored (j * 2) (.slice A2 n1 x2)).1.stored (j * 2 + 1) (.slice B2 m1 x3)).1, r5.put hj x2 x3 q2 q3, ?_, hg1, ?_⟩
  · exact ((hb.trans (hb34.mono hb.size)).setCell hg1 _).setCell hg1 _
  · have := hb34.size
    simp [World.setCell]
    omega

set_option maxHeartbeats 2000000 in
theorem told_any {w : World} {b m : Nat} {A : Nat → Option Addr} {n c : Nat → Nat} {L : Nat → List Pr} (h : Pieces w b m A n c L) (hm : m ≤ 3) (hs : sumN n m ≤ 3000) (hsm : Small (catL L m)) :
    Calls Try.prog 24 #[.slice (some ⟨b, 0, none⟩) m m] w (Made w (catL L m)) := by
  have HC := concat_any h hm hs
  have HM := Lib.hid hsm
  clear h hm hs hsm
  generalize catL L m = M at HC HM
  go_enter Try.func24, Try.ntmps24
  go_wp2_with fail
  refine HC.mono ?_
  rintro e w1 ⟨v, k, xs, rfl, hown, hr, hb⟩
  clear HC
  rcases Nat.eq_zero_or_pos k with h0 | h0
  · obtain ⟨A1, c1, rfl, hp, _⟩ := own_prs hown (hr.below hb)
    have HP := Lib.hid hp
    have HB := Lib.hid hb
    clear hp hb hown hr
    subst h0
    go_wp2
    go_loopw [10] (fun i wr => i = .int .i64 0 ∧ wr = w1) (fun _ _ => 0)
    case atStart => exact ⟨rfl, rfl⟩
    case round =>
      obtain ⟨rfl, rfl⟩ := hrel
      go_wp2
      go_ret
      exact ⟨A1, 0, c1, rfl, HP.out, HB.out⟩
  · obtain ⟨g, cap, rfl, hg⟩ : ∃ g cap, v = .slice (some ⟨g, 0, none⟩) k cap ∧ w.heap.size ≤ g ∧ g < w1.heap.size ∧ k ≤ cap := by
      rcases hown.2 with ⟨_, rfl⟩ | ⟨g, cap, cur, rfl, hb1, hg, h1, _⟩
      · omega
      · exact ⟨g, cap, rfl, hb1, (Array.getElem?_eq_some_iff.1 hg).1, h1⟩
    have HI := Lib.hid (show ToldInv w g k cap M w1 from ⟨xs, hown, (hr.f hg.1).below hb, hb, hg.1, hg.2.1⟩)
    have hk : M.length = k := by have := hown.1; have := hr.1; omega
    have hkm : k ≤ maxLen := by
      rcases hown.2 with ⟨_, rfl⟩ | ⟨g, cap, cur, _, _, _, h1, h2, _⟩
      · omega
      · exact Nat.le_trans h1 h2
    unfold maxLen at hkm
    have HK := Lib.hid hk
    clear hown hr hb hg hk
    go_wp2
    go_loopw [10] (fun i wr => ∃ j : Nat, j ≤ k ∧ i = .int .i64 j ∧ ToldInv w g k cap M wr) (fun i _ => k - (intOf i).toNat)
    case atStart => exact ⟨0, Nat.zero_le _, rfl, HI.out⟩
    case round =>
      obtain ⟨j, hj, rfl, ys, hown, hr, hb, hg1, hg2⟩ := hrel
      by_cases hlt : j < k
      · have hj' : j < M.length := by rw [HK.out]; exact hlt
        obtain ⟨A1, n1, c1, B1, m1, d1, e1, e2, y1, y2⟩ := hr.2 j hj'
        have k0 : wr.cell? ⟨g, j * 2, none⟩ = some (.slice A1 n1 c1) := (hown.cellAt _ (by omega)).trans e1
        have k1 : wr.cell? ⟨g, j * 2 + 1, none⟩ = some (.slice B1 m1 d1) := (hown.cellAt _ (by omega)).trans e2
        have hsm := HM.out _ (gt_mem hj')
        have hn1 : n1 ≤ 1000 := by rw [← y1.1.1]; exact hsm.1
        have hm1 : m1 ≤ 1000 := by rw [← y2.1.1]; exact hsm.2
        have HO := Lib.hid hown
        have HR := Lib.hid hr
        have HB := Lib.hid hb
        have Y1 := Lib.hid y1
        have Y2 := Lib.hid y2
        clear hown hr hb y1 y2 e1 e2 hsm
        have HW := Lib.hid (show ∃ W, W = wr.alloc (.cells #[.slice A1 n1 c1, .slice B1 m1 d1] 43) ∧ Below wr.heap.size wr W ∧ W.cell? ⟨wr.heap.size, 0, none⟩ = some (.slice A1 n1 c1) ∧ W.cell? ⟨wr.heap.size, 1, none⟩ = some (.slice B1 m1 d1) ∧ W.heap.size = wr.heap.size + 1 from
          ⟨_, rfl, (Below.refl _ _).alloc (Nat.le_refl _) _, box_0 _ _ _ _, box_1 _ _ _ _, by simp⟩)
        go_wp2
        obtain ⟨W, hW, hWB, hW0, hW1, hWs⟩ := HW.out
        rw [← hW]
        have HS1 := Lib.hid hWs
        have HBW := Lib.hid hWB
        have K0 := Lib.hid k0
        have K1 := Lib.hid k1
        clear hW HW hWB hWs k0 k1
        have D := Lib.hid (clone_any (w := W.drew) c1 (Y1.out.below HBW.out).1 hn1)
        have HC0 := Lib.hid hW0
        have HC1 := Lib.hid hW1
        have z1 : ¬ (g = wr.heap.size) := by omega
        have z2 : ¬ (wr.heap.size = g) := by omega
        go_region_held3 (fun w' => w'.cell? ⟨wr.heap.size, 0, none⟩ = some (.slice A1 n1 c1) ∧ w'.cell? ⟨wr.heap.size, 1, none⟩ = some (.slice B1 m1 d1)) (go_keep)
          (first
            | (go_at_call 29
               (with_reducible refine D.out.mono ?_)
               rintro e w3 ⟨A2, x2, rfl, p2, n2, hb3⟩
               have hb3 := undrew hb3
               have g0 := (hb3.cell (p := ⟨wr.heap.size, 0, none⟩) (by have := HS1.out; show wr.heap.size < W.heap.size; omega)).trans HC0.out
               have g1 := (hb3.cell (p := ⟨wr.heap.size, 1, none⟩) (by have := HS1.out; show wr.heap.size < W.heap.size; omega)).trans HC1.out
               have HB3 := Lib.hid (HBW.out.trans (hb3.mono HBW.out.size))
               have HX2 := Lib.hid (And.intro p2 n2)
               have HL3 := Lib.hid (Nat.lt_of_lt_of_le (show wr.heap.size < W.heap.size by have := HS1.out; omega) hb3.size)
               have E := Lib.hid (clone_any d1 (Y2.out.below HB3.out).1 hm1)
               clear p2 n2 hb3)
            | (go_at_call 29
               (with_reducible refine E.out.mono ?_)
               rintro e w4 ⟨B2, x3, rfl, p3, n3, hb4⟩
               have g0 := (hb4.cell (p := ⟨wr.heap.size, 0, none⟩) HL3.out).trans g0
               have g1 := (hb4.cell (p := ⟨wr.heap.size, 1, none⟩) HL3.out).trans g1
               have HB4 := Lib.hid (HB3.out.trans (hb4.mono HB3.out.size))
               have HX3 := Lib.hid (And.intro p3 (And.intro n3 hb4))
               have g4 := (HB4.out.cell (p := ⟨g, j * 2, none⟩) hg2).trans K0.out
               have g5 := (HB4.out.cell (p := ⟨g, j * 2 + 1, none⟩) hg2).trans K1.out
               have g2 := (own_keep HO.out HB4.out).frozenAt (j * 2)
               have g3 := (own_keep HO.out HB4.out).frozenAt (j * 2 + 1)
               clear p3 n3 hb4)
            )
        have HT := Lib.hid (told_round (j := j) c1 d1 (show j < M.length from hj') HO.out HR.out HB.out hg1 hg2 (x2 := x2) (x3 := x3) HB3.out HX2.out.1 (New.mono HX2.out.2 (show g + 1 ≤ W.heap.size by have := HS1.out; omega)) HX3.out.2.2 HX3.out.1 (New.mono HX3.out.2.1 (show g + 1 ≤ w3.heap.size by have := HL3.out; omega)))
        clear g0 g1 g2 g3 g4 g5 D E HB3 HB4 HX2 HX3 HL3 HC0 HC1 HBW HS1 hW0 hW1 z1 z2 K0 K1
        go_wp2
        go_roundw
        case rel => exact ⟨j + 1, by omega, by go_num, HT.out⟩
        case measure => simp [intOf]; omega
      · obtain rfl : j = k := by omega
        obtain ⟨A2, c2, e2, hp, _⟩ := own_prs hown (hr.reads)
        injection e2 with e3 e4 e5
        subst e3
        subst e5
        have HP := Lib.hid hp
        have HB := Lib.hid hb
        clear hp hb hown hr e4
        go_wp2
        go_ret
        exact ⟨_, j, _, rfl, HP.out, HB.out⟩
end Go.Proofs.Ytpicdokkdpbpdaa
