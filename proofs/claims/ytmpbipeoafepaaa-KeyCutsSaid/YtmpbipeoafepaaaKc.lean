/- The contract of package key's Cut: what it tells, in new memory; nothing that was there is changed. Condition: slices of at most 1000 bytes that can be read. -/
import Derived.Test.YtmpbipeoafepaaaKs
namespace Go.Proofs.Ytmpbipeoafepaaa
open Go.RowKit
set_option linter.unusedVariables false

/-- The number of Cut's error. -/
def cutK (l k x : List UInt8) : Int := if soundB l k && mayB x then (if inB l k x && !sameB x l then 0 else 6) else 1

/-- What Cut leaves. -/
def Cutted (w : World) (kk : Int) (l k x : List UInt8) (e : Ending) (w' : World) : Prop :=
  ∃ A n c B m d A' n' c' B' m' d', e = .returned (.tuple #[.agg #[.slice A n c, .slice B m d], .agg #[.slice A' n' c', .slice B' m' d'], errV kk]) ∧
    (kk = 0 → (Byt w' A n l ∧ Byt w' B m x) ∧ Byt w' A' n' x ∧ Byt w' B' m' k) ∧ Below w.heap.size w w'

/-- Cut's end where it tells an error. -/
theorem cut_err {w w1 : World} {x0 y0 : Value} (t : Tri w w1 x0 y0 (.slice none 0 0) (.slice none 0 0) (.slice none 0 0) (.slice none 0 0)) :
    Below w.heap.size w ((((w1.setCell ⟨w.heap.size + 1, 0, none⟩ (.slice none 0 0)).setCell ⟨w.heap.size + 1, 1, none⟩ (.slice none 0 0)).setCell ⟨w.heap.size + 1 + 1, 0, none⟩ (.slice none 0 0)).setCell ⟨w.heap.size + 1 + 1, 1, none⟩ (.slice none 0 0)) :=
  (((t.bel.setCell (by simp) _).setCell (by simp) _).setCell (by simp; omega) _).setCell (by simp; omega) _

/-- Four stores into the two blocks of the results. -/
theorem four {w w4 : World} {A : Option Addr} {n : Nat} {l : List UInt8} (h : Byt w4 A n l) (hn : New (w.heap.size + 1 + 1 + 1) A) {u1 u2 u3 u4 : Value} :
    Byt ((((w4.setCell ⟨w.heap.size + 1, 0, none⟩ u1).setCell ⟨w.heap.size + 1, 1, none⟩ u2).setCell ⟨w.heap.size + 1 + 1, 0, none⟩ u3).setCell ⟨w.heap.size + 1 + 1, 1, none⟩ u4) A n l := by
  have f1 : ∀ a, A = some a → a.block ≠ w.heap.size + 1 := fun a e => by have := hn a e; omega
  have f2 : ∀ a, A = some a → a.block ≠ w.heap.size + 1 + 1 := fun a e => by have := hn a e; omega
  exact (((h.far _ f1 _).far _ f1 _).far _ f2 _).far _ f2 _

theorem undrew {B : Nat} {w w' : World} (h : Below B w.drew w') : Below B w w' := ⟨h.os, h.tape, h.output, h.size, h.block⟩

set_option maxHeartbeats 2000000 in
theorem cut_any {w : World} {A B C : Option Addr} {n m o : Nat} (c d q : Nat) {l k x : List UInt8} (h1 : Byt w A n l) (h2 : Byt w B m k) (h3 : Byt w C o x) (hn : n ≤ 1000) (hm : m ≤ 1000) (ho : o ≤ 1000) :
    Calls Try.prog 9 #[.agg #[.slice A n c, .slice B m d], .slice C o q] w (Cutted w (cutK l k x) l k x) := by
  have H1 := Lib.hid h1
  have H2 := Lib.hid h2
  have H3 := Lib.hid h3
  clear h1 h2 h3
  have T0 := Tri.start w (.slice A n c) (.slice B m d) (.slice none 0 0) (.slice none 0 0) (.slice none 0 0) (.slice none 0 0)
  have hmax : 1000 ≤ maxLen := by unfold maxLen; omega
  have S1 := Lib.hid (sound_any c d (H1.out.below T0.bel) (H2.out.below T0.bel) (by omega) (by omega))
  have M := Lib.hid (fun (w1 : World) (hb : Below w.heap.size w w1) => may_any q (H3.out.below hb) (show o ≤ maxLen by omega))
  have T0 := Lib.hid T0
  clear hmax
  go_enter Try.func9, Try.ntmps9
  go_wp2_with fail
  cases hs1 : soundB l k
  · have J := Lib.hid (show cutK l k x = 1 by simp [cutK, hs1])
    rw [hs1] at S1
    clear hs1
    refine S1.out.mono ?_
    rintro e w1 ⟨rfl, hb1⟩
    have T1 := T0.out.below hb1
    have c0 := T1.b1.c0
    have c1 := T1.b1.c1
    have f1 := T1.b1.fz
    have c2 := T1.b2.c0
    have c3 := T1.b2.c1
    have f2 := T1.b2.fz
    have T1 := Lib.hid T1
    clear hb1
    go_wp2
    exact bodyPost_ret (v := .tuple #[.agg #[.slice none 0 0, .slice none 0 0], .agg #[.slice none 0 0, .slice none 0 0], .iface 41 (.int .i64 1)]) (by simp [results, Try.results9, go_sem, c0, c1, c2, c3]) rfl ⟨none, 0, 0, none, 0, 0, none, 0, 0, none, 0, 0, by rw [J.out]; rfl, (fun h => by rw [J.out] at h; cases h), cut_err T1.out⟩
  · rw [hs1] at S1
    have HS1 := Lib.hid hs1
    clear hs1
    refine S1.out.mono ?_
    rintro e w1 ⟨rfl, hb1⟩
    have T1 := T0.out.below hb1
    clear T0 S1 hb1
    have M1 := Lib.hid (M.out _ T1.bel)
    have T1 := Lib.hid T1
    clear M
    go_wp2_with fail
    cases hs2 : mayB x
    · have J := Lib.hid (show cutK l k x = 1 by simp [cutK, hs2])
      rw [hs2] at M1
      clear hs2
      refine M1.out.mono ?_
      rintro e w1 ⟨rfl, rfl⟩
      have c0 := T1.out.b1.c0
      have c1 := T1.out.b1.c1
      have f1 := T1.out.b1.fz
      have c2 := T1.out.b2.c0
      have c3 := T1.out.b2.c1
      have f2 := T1.out.b2.fz
      go_wp2
      exact bodyPost_ret (v := .tuple #[.agg #[.slice none 0 0, .slice none 0 0], .agg #[.slice none 0 0, .slice none 0 0], .iface 41 (.int .i64 1)]) (by simp [results, Try.results9, go_sem, c0, c1, c2, c3]) rfl ⟨none, 0, 0, none, 0, 0, none, 0, 0, none, 0, 0, by rw [J.out]; rfl, (fun h => by rw [J.out] at h; cases h), cut_err T1.out⟩
    · rw [hs2] at M1
      have HS2 := Lib.hid hs2
      clear hs2
      refine M1.out.mono ?_
      rintro e w1 ⟨rfl, rfl⟩
      clear M1
      have S3 := Lib.hid (in_any c d q (H1.out.below T1.out.bel) (H2.out.below T1.out.bel) (H3.out.below T1.out.bel))
      have c0 := T1.out.b0.c0
      have c1 := T1.out.b0.c1
      go_wp2_with fail
      clear c0 c1
      cases hs3 : inB l k x
      · have J := Lib.hid (show cutK l k x = 6 by simp [cutK, HS1.out, HS2.out, hs3])
        rw [hs3] at S3
        clear hs3
        refine S3.out.mono ?_
        rintro e w2 ⟨rfl, hb2⟩
        have T2 := T1.out.below hb2
        have c0 := T2.b1.c0
        have c1 := T2.b1.c1
        have f1 := T2.b1.fz
        have c2 := T2.b2.c0
        have c3 := T2.b2.c1
        have f2 := T2.b2.fz
        have T2 := Lib.hid T2
        clear hb2
        go_wp2
        exact bodyPost_ret (v := .tuple #[.agg #[.slice none 0 0, .slice none 0 0], .agg #[.slice none 0 0, .slice none 0 0], .iface 41 (.int .i64 6)]) (by simp [results, Try.results9, go_sem, c0, c1, c2, c3]) rfl ⟨none, 0, 0, none, 0, 0, none, 0, 0, none, 0, 0, by rw [J.out]; rfl, (fun h => by rw [J.out] at h; cases h), cut_err T2.out⟩
      · rw [hs3] at S3
        have HS3 := Lib.hid hs3
        clear hs3
        refine S3.out.mono ?_
        rintro e w2 ⟨rfl, hb2⟩
        have T2 := T1.out.below hb2
        clear T1 S3 hb2
        have S4 := Lib.hid (compare_any q c (H3.out.below T2.bel) (H1.out.below T2.bel))
        have c0 := T2.b0.c0
        have c1 := T2.b0.c1
        have T2 := Lib.hid T2
        go_wp2_with fail
        clear c0 c1
        refine S4.out.mono ?_
        rintro e w2 ⟨rfl, rfl⟩
        clear S4
        have hz := cmp_zero x l
        cases hs4 : sameB x l
        · have J := Lib.hid (show cutK l k x = 0 by simp [cutK, HS1.out, HS2.out, HS3.out, hs4])
          rw [hs4] at hz
          clear hs4
          have c0 := T2.out.b0.c0
          have c1 := T2.out.b0.c1
          go_wp2_with fail
          have z1 : ¬ (w.heap.size = w.heap.size + 1 + 1) := by omega
          have z2 : ¬ (w.heap.size + 1 + 1 = w.heap.size) := by omega
          have D := Lib.hid (span_any (w := w2.drew) c q (show Byt w2 A n l from H1.out.below T2.out.bel) (show Byt w2 C o x from H3.out.below T2.out.bel) hn ho)
          go_region_held3 (fun w' => w'.cell? ⟨w.heap.size, 0, none⟩ = some (.slice A n c) ∧ w'.cell? ⟨w.heap.size, 1, none⟩ = some (.slice B m d)) (go_keep)
            (first
              | (go_at_call 19
                 (with_reducible refine D.out.mono ?_)
                 rintro e w3 ⟨A1, x1, B1, y1, rfl, ⟨p1, n1⟩, ⟨p2, n2⟩, hb3⟩
                 have T3 := T2.out.below (undrew hb3)
                 have n3 : New (w.heap.size + 1 + 1 + 1) A1 := n1.mono T2.out.b2.lt
                 have n4 : New (w.heap.size + 1 + 1 + 1) B1 := n2.mono T2.out.b2.lt
                 have g0 := T3.b0.c0
                 have g1 := T3.b0.c1
                 have g2 := T3.b1.c0
                 have g3 := T3.b1.c1
                 have g4 := T3.b2.c0
                 have g5 := T3.b2.c1
                 have g6 := T3.b1.fz
                 have g7 := T3.b2.fz
                 have E1 := Lib.hid (span_any q d (H3.out.below T3.bel) (H2.out.below T3.bel) ho hm)
                 have T3 := Lib.hid T3
                 have Q := Lib.hid (show (Byt _ A1 _ _ ∧ Byt _ B1 _ _) ∧ (New _ A1 ∧ New _ B1) from ⟨⟨p1, p2⟩, n3, n4⟩)
                 clear p1 p2 n1 n2 n3 n4 hb3)
              | (go_at_call 19
                 (with_reducible refine E1.out.mono ?_)
                 rintro e w4 ⟨A2, x2, B2, y2, rfl, ⟨p1, n1⟩, ⟨p2, n2⟩, hb4⟩
                 have T4 := T3.out.below hb4
                 have g0 := T4.b0.c0
                 have g1 := T4.b0.c1
                 have g2 := T4.b1.c0
                 have g3 := T4.b1.c1
                 have g4 := T4.b2.c0
                 have g5 := T4.b2.c1
                 have g6 := T4.b1.fz
                 have g7 := T4.b2.fz
                 have R := Lib.hid (show (Byt _ A2 _ _ ∧ Byt _ B2 _ _) ∧ (New _ A2 ∧ New _ B2) ∧ _ ∧ _ from ⟨⟨p1, p2⟩, ⟨n1, n2⟩, hb4, T4⟩)
                 clear p1 p2 n1 n2 hb4 T4)
              )
          clear D z1 z2 c0 c1
          go_wp2
          refine bodyPost_ret (v := .tuple #[.agg #[.slice A1 n x1, .slice B1 o y1], .agg #[.slice A2 o x2, .slice B2 m y2], .nilIface]) (by simp [results, Try.results9, go_sem, g2, g3, g4, g5]) rfl ⟨A1, n, x1, B1, o, y1, A2, o, x2, B2, m, y2, by rw [J.out]; rfl, fun _ => ?_, ?_⟩
          · obtain ⟨⟨p1, p2⟩, n1, n2⟩ := Q.out
            obtain ⟨⟨p3, p4⟩, ⟨n3, n4⟩, hb4, t4⟩ := R.out
            have hl := T3.out.b2.lt
            have n3 : New (w.heap.size + 1 + 1 + 1) A2 := n3.mono hl
            have n4 : New (w.heap.size + 1 + 1 + 1) B2 := n4.mono hl
            exact ⟨⟨four (p1.below hb4) n1, four (p2.below hb4) n2⟩, four p3 n3, four p4 n4⟩
          · exact (((R.out.2.2.2.bel.setCell (by simp) _).setCell (by simp) _).setCell (by simp; omega) _).setCell (by simp; omega) _
        · have J := Lib.hid (show cutK l k x = 6 by simp [cutK, HS1.out, HS2.out, HS3.out, hs4])
          rw [hs4] at hz
          clear hs4
          have c0 := T2.out.b1.c0
          have c1 := T2.out.b1.c1
          have f1 := T2.out.b1.fz
          have c2 := T2.out.b2.c0
          have c3 := T2.out.b2.c1
          have f2 := T2.out.b2.fz
          go_wp2
          exact bodyPost_ret (v := .tuple #[.agg #[.slice none 0 0, .slice none 0 0], .agg #[.slice none 0 0, .slice none 0 0], .iface 41 (.int .i64 6)]) (by simp [results, Try.results9, go_sem, c0, c1, c2, c3]) rfl ⟨none, 0, 0, none, 0, 0, none, 0, 0, none, 0, 0, by rw [J.out]; rfl, (fun h => by rw [J.out] at h; cases h), cut_err T2.out⟩
end Go.Proofs.Ytmpbipeoafepaaa
