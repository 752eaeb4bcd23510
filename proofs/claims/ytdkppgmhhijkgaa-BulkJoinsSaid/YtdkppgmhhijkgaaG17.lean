/- BulkJoins, whatever came in. Condition: what came in can be read. -/
import Derived.Test.YtdkppgmhhijkgaaG14
namespace Go.Proofs.Ytdkppgmhhijkgaa
open Go.RowKit
set_option linter.unusedVariables false
set_option maxRecDepth 100000

set_option maxHeartbeats 4000000 in
/-- Where nothing is asked: no such trees. -/
theorem joins_nil {w : World} {A B : Option Addr} {n c n' c' : Nat} (m m' : Int) {L M : List Pr} (h : Prs w A n c L) (h' : Prs w B n' c' M) (hl : ¬ (3 ≤ m ∧ m ≤ 16) ∨ ((3 ≤ m ∧ m ≤ 16) ∧ ¬ (3 ≤ m' ∧ m' ≤ 16))) :
    Calls Try.prog 5 #[.int .i64 m, .int .i64 m', .slice A n c, .slice B n' c'] w fun e w' => e = .returned (.bool true) ∧ Below w.heap.size w w' := by
  have HUP := up_any w
  have H := Lib.hid h
  have H' := Lib.hid h'
  clear h h'
  rcases hl with hm | ⟨⟨h3, h16⟩, hm⟩
  · have HMN := Lib.hid (fun w => made_no (w := w) (A := A) (n := n) (c := c) m hm)
    have HMY : Hid (∀ w1, Below w.heap.size w w1 → Calls Try.prog 13 #[.int .i64 m', .slice B n' c'] w1 fun e w' => ∃ v, e = .returned (.pointer v) ∧ Below w1.heap.size w1 w') := Lib.hid fun w1 hb => by
      by_cases hm' : 3 ≤ m' ∧ m' ≤ 16
      · obtain ⟨m1, rfl⟩ : ∃ m1 : Nat, m' = (m1 : Int) := ⟨m'.toNat, by omega⟩
        exact (made_yes (H'.out.below hb) (by omega) (by omega)).mono fun e w' ⟨tb, h1, h2, h3⟩ => ⟨_, h1, h3⟩
      · exact (made_no m' hm').mono fun e w' ⟨h1, h2⟩ => ⟨_, h1, h2 ▸ Below.refl _ _⟩
    clear hm
    go_enter Try.func5, Try.ntmps5
    go_wp2_with fail
    refine HUP.mono ?_
    rintro e w1 ⟨rfl, hb1⟩
    have HFX := few_any 150 (H.out.below hb1)
    have HFY := few_any 150 (H'.out.below hb1)
    have HB1 := Lib.hid hb1
    generalize fewB L 150 = fb at HFX
    generalize fewB M 150 = fc at HFY
    clear HUP hb1
    go_wp2_with fail
    refine HFX.mono ?_
    rintro e w2 ⟨rfl, rfl⟩
    go_wp2_with fail
    refine HFY.mono ?_
    rintro e w2 ⟨rfl, rfl⟩
    clear HFX HFY
    go_wp2_with fail
    refine (HMN.out _).mono ?_
    rintro e w2 ⟨rfl, rfl⟩
    go_wp2_with fail
    refine (HMY.out _ HB1.out).mono ?_
    rintro e w2 ⟨v, rfl, hb2⟩
    have HB2 := Lib.hid (below_on HB1.out hb2)
    clear hb2
    go_wp2
    go_ret
    exact ⟨rfl, HB2.out⟩
  · obtain ⟨m1, rfl⟩ : ∃ m1 : Nat, m = (m1 : Int) := ⟨m.toNat, by omega⟩
    have HMY := Lib.hid (fun w1 (hb : Below w.heap.size w w1) => made_yes (w := w1) (H.out.below hb) (show 3 ≤ m1 by omega) (by omega))
    have HMN := Lib.hid (fun w => made_no (w := w) (A := B) (n := n') (c := c') m' hm)
    clear hm h3 h16
    go_enter Try.func5, Try.ntmps5
    go_wp2_with fail
    refine HUP.mono ?_
    rintro e w1 ⟨rfl, hb1⟩
    have HFX := few_any 150 (H.out.below hb1)
    have HFY := few_any 150 (H'.out.below hb1)
    have HB1 := Lib.hid hb1
    generalize fewB L 150 = fb at HFX
    generalize fewB M 150 = fc at HFY
    clear HUP hb1
    go_wp2_with fail
    refine HFX.mono ?_
    rintro e w2 ⟨rfl, rfl⟩
    go_wp2_with fail
    refine HFY.mono ?_
    rintro e w2 ⟨rfl, rfl⟩
    clear HFX HFY
    go_wp2_with fail
    refine (HMY.out _ HB1.out).mono ?_
    rintro e w2 ⟨tb, rfl, -, hb2⟩
    have HB2 := Lib.hid (below_on HB1.out hb2)
    clear hb2
    go_wp2_with fail
    refine (HMN.out _).mono ?_
    rintro e w3 ⟨rfl, rfl⟩
    go_wp2
    go_ret
    exact ⟨rfl, HB2.out⟩

set_option maxHeartbeats 4000000 in
/-- Where nothing is asked: too many pairs. -/
theorem joins_few {w : World} {A B : Option Addr} {n c n' c' m m' : Nat} {L M : List Pr} (h : Prs w A n c L) (h' : Prs w B n' c' M) (h3 : 3 ≤ m) (h16 : m ≤ 16) (k3 : 3 ≤ m') (k16 : m' ≤ 16) (hl : fewB L 150 = false ∨ (fewB L 150 = true ∧ fewB M 150 = false)) :
    Calls Try.prog 5 #[.int .i64 m, .int .i64 m', .slice A n c, .slice B n' c'] w fun e w' => e = .returned (.bool true) ∧ Below w.heap.size w w' := by
  have HUP := up_any w
  have H := Lib.hid h
  have H' := Lib.hid h'
  have HMY := Lib.hid (fun w1 (hb : Below w.heap.size w w1) => made_yes (w := w1) (H.out.below hb) h3 h16)
  have HMZ := Lib.hid (fun w1 (hb : Below w.heap.size w w1) => made_yes (w := w1) (H'.out.below hb) k3 k16)
  have HFX := Lib.hid (fun w1 (hb : Below w.heap.size w w1) => few_any (w := w1) 150 (H.out.below hb))
  have HFY := Lib.hid (fun w1 (hb : Below w.heap.size w w1) => few_any (w := w1) 150 (H'.out.below hb))
  clear h h' h3 h16 k3 k16
  rcases hl with hf | ⟨hf, hg⟩
  case' inl =>
    rw [hf] at HFX
    generalize fewB M 150 = fm at HFY
    clear hf
  case' inr =>
    rw [hf] at HFX
    rw [hg] at HFY
    clear hf hg
  all_goals
    go_enter Try.func5, Try.ntmps5
    go_wp2_with fail
    refine HUP.mono ?_
    rintro e w1 ⟨rfl, hb1⟩
    have HB1 := Lib.hid hb1
    clear HUP hb1
    go_wp2_with fail
    refine (HFX.out _ HB1.out).mono ?_
    rintro e w2 ⟨rfl, rfl⟩
    go_wp2_with fail
    refine (HFY.out _ HB1.out).mono ?_
    rintro e w2 ⟨rfl, rfl⟩
    clear HFX HFY
    go_wp2_with fail
    refine (HMY.out _ HB1.out).mono ?_
    rintro e w2 ⟨tb, rfl, -, hb2⟩
    have HB2 := Lib.hid (below_on HB1.out hb2)
    clear hb2
    go_wp2_with fail
    refine (HMZ.out _ HB2.out).mono ?_
    rintro e w3 ⟨tc, rfl, -, hb3⟩
    have HB3 := Lib.hid (below_on HB2.out hb3)
    clear hb3
    go_wp2
    go_ret
    exact ⟨rfl, HB3.out⟩

set_option maxHeartbeats 16000000 in
theorem joins_made {w : World} {A B : Option Addr} {n c n' c' m m' : Nat} {L M : List Pr} (h : Prs w A n c L) (h' : Prs w B n' c' M) (h3 : 3 ≤ m) (h16 : m ≤ 16) (k3 : 3 ≤ m') (k16 : m' ≤ 16) (hf : fewB L 150 = true) (hg : fewB M 150 = true) :
    Calls Try.prog 5 #[.int .i64 m, .int .i64 m', .slice A n c, .slice B n' c'] w fun e w' => e = .returned (.bool true) ∧ Below w.heap.size w w' := by
  have HUP := up_any w
  have he1 := eql_err 1 1
  have he6 := eql_err 6 6
  have hn : L.length ≤ 150 := (few_small hf).2
  have hn' : M.length ≤ 150 := (few_small hg).2
  have H := Lib.hid h
  have H' := Lib.hid h'
  have HF := Lib.hid (And.intro hf hg)
  have HM := Lib.hid (And.intro h3 h16)
  have HM' := Lib.hid (And.intro k3 k16)
  clear h h' hf hg h3 h16 k3 k16
  go_enter Try.func5, Try.ntmps5
  go_wp2_with fail
  refine HUP.mono ?_
  rintro e w1 ⟨rfl, hb1⟩
  have HFX := few_any 150 (H.out.below hb1)
  have HFY := few_any 150 (H'.out.below hb1)
  rw [HF.out.1] at HFX
  rw [HF.out.2] at HFY
  have HB1 := Lib.hid hb1
  clear HUP hb1
  go_wp2_with fail
  refine HFX.mono ?_
  rintro e w2 ⟨rfl, rfl⟩
  go_wp2_with fail
  refine HFY.mono ?_
  rintro e w2 ⟨rfl, rfl⟩
  have HN := made_yes (H.out.below HB1.out) HM.out.1 HM.out.2
  rw [made_is (by omega)] at HN
  clear HFX HFY
  go_wp2_with fail
  refine HN.mono ?_
  rintro e w2 ⟨ta, rfl, hta, hb2⟩
  have HTA := Lib.hid hta
  have HB2 := Lib.hid (below_on HB1.out hb2)
  have HN' := made_yes (H'.out.below HB2.out) HM'.out.1 HM'.out.2
  rw [made_is (by omega)] at HN'
  clear HN hta hb2
  go_wp2_with fail
  refine HN'.mono ?_
  rintro e w3 ⟨tc, rfl, htc, hb3⟩
  have HTA3 := Lib.hid (HTA.out.below hb3)
  have HTC3 := Lib.hid htc
  have HB3 := Lib.hid (below_on HB2.out hb3)
  have HR1 := Lib.hid (rrow_any (H.out.below HB3.out) (few_small HF.out.1).1 (by have := H.out.len; omega))
  clear HN' htc hb3 HTA
  go_wp2_with fail
  refine HR1.out.mono ?_
  rintro e w4 ⟨A4, n4, c4, rfl, hp4, hb4⟩
  have HTA4 := Lib.hid (HTA3.out.below hb4)
  have HTC4 := Lib.hid (HTC3.out.below hb4)
  have HP4 := Lib.hid hp4
  have HB4 := Lib.hid (below_on HB3.out hb4)
  have HR2 := Lib.hid (rrow_any (H'.out.below HB4.out) (few_small HF.out.2).1 (by have := H'.out.len; omega))
  clear HR1 hp4 hb4 HTA3 HTC3
  go_wp2_with fail
  refine HR2.out.mono ?_
  rintro e w5 ⟨A5, n5, c5, rfl, hp5, hb5⟩
  have HTA5 := Lib.hid (HTA4.out.below hb5)
  have HTC5 := Lib.hid (HTC4.out.below hb5)
  have HPX := Lib.hid (HP4.out.below hb5)
  have HPY := Lib.hid hp5
  have HB5 := Lib.hid (below_on HB4.out hb5)
  have rx := row_fit L L.length (Nat.le_refl _)
  have ry := row_fit M M.length (Nat.le_refl _)
  rw [List.take_length] at rx ry
  have hxl : n4 ≤ 150 := by have := HPX.out.len; omega
  have hyl : n5 ≤ 150 := by have := HPY.out.len; omega
  have HRX := Lib.hid (And.intro rx.1 ry.1)
  clear HR2 hp5 hb5 HTA4 HTC4 HP4 rx ry
  generalize rowL L = x at HTA5 HPX HRX
  generalize rowL M = y at HTC5 HPY HRX
  by_cases hmm : m = m'
  · subst hmm
    have hne : ((m : Int) != (m : Int)) = false := by simp
    have hXY : (x ++ y).length ≤ 1000 := by have h1 := HPX.out.len; have h2 := HPY.out.len; rw [List.length_append]; omega
    have HSM := Lib.hid (show Small (x ++ y) from small_app (fit_small HRX.out.1) (fit_small HRX.out.2))
    cases hi : isB (x ++ y)
    · obtain ⟨-, D1, t1, -⟩ := HTA5.out
      obtain ⟨-, D2, t2, -⟩ := HTC5.out
      have HJ := Lib.hid (join_range t1 t2 hi)
      clear t1 t2
      rw [errV_some (k := 6) (by decide)] at HJ
      have HI := Lib.hid hi
      clear hi
      go_wp2_with fail
      refine HJ.out.mono ?_
      rintro e w6 ⟨rfl, hb6⟩
      have HX6 := Lib.hid (HPX.out.below hb6)
      have HY6 := Lib.hid (HPY.out.below hb6)
      have HB6 := Lib.hid (below_on HB5.out hb6)
      have O1 : (w6.alloc (.cells #[] 27)).ownsRow w6.heap.size 27 2 (.slice (some ⟨w6.heap.size, 0, none⟩) 0 0) 0 [] := World.ownsRow_made w6 #[] 0 (Nat.le_refl _) (Nat.zero_le _) rfl
      have O1 := Lib.hid O1
      have B1 := Lib.hid (show Below w6.heap.size w6 (w6.alloc (.cells #[] 27)) from (Below.refl _ _).alloc (Nat.le_refl _) _)
      clear HJ hb6
      go_wp2_with (at_builtin; refine wpList_append_prs rfl _ _ rfl w6.heap.size _ 0 [] rfl O1.out A4 n4 c4 x rfl HX6.out B1.out (by omega) B1.out.size ?_)
      intro v1 w7 ys1 hr1 hown1 hg1
      have B2 := Lib.hid (own_below B1.out O1.out hg1)
      have R1 := Lib.hid hr1
      have O2 := Lib.hid hown1
      clear hr1 hown1 hg1 B1 O1
      go_wp2_with (at_builtin; refine wpList_append_prs rfl _ _ rfl w6.heap.size v1 n4 ys1 rfl O2.out A5 n5 c5 y rfl HY6.out B2.out (by omega) B2.out.size ?_)
      intro v2 w8 ys2 hr2 hown2 hg2
      have B3 := Lib.hid (own_below B2.out O2.out hg2)
      have R2 := Lib.hid (R1.out.append hr2)
      obtain ⟨A8, c8, rfl, hp8, _⟩ := own_prs hown2 (R2.out.below B3.out)
      have HIS := ris_any (w := w8) (L := x ++ y) hp8 HSM.out
      rw [HI.out] at HIS
      have HB8 := Lib.hid (HB6.out.trans (B3.out.mono HB6.out.size))
      clear hr2 hown2 hg2 hp8 B2 O2 R1
      go_wp2_with fail
      refine HIS.mono ?_
      rintro e w9 ⟨rfl, hd9⟩
      have HB9 := Lib.hid (HB8.out.trans (hd9.below _))
      clear HIS hd9
      go_wp2
      go_ret
      exact ⟨rfl, HB9.out⟩
    · obtain ⟨-, D1, t1, -⟩ := HTA5.out
      obtain ⟨-, D2, t2, -⟩ := HTC5.out
      have HJ := Lib.hid (join_yes t1 t2 hi hXY)
      clear t1 t2
      have HI := Lib.hid hi
      clear hi
      go_wp2_with fail
      refine HJ.out.mono ?_
      rintro e w6 ⟨tj, Dj, rfl, htj, hb6⟩
      have HTJ := Lib.hid htj
      have HX6 := Lib.hid (HPX.out.below hb6)
      have HY6 := Lib.hid (HPY.out.below hb6)
      have HB6 := Lib.hid (below_on HB5.out hb6)
      have O1 : (w6.alloc (.cells #[] 27)).ownsRow w6.heap.size 27 2 (.slice (some ⟨w6.heap.size, 0, none⟩) 0 0) 0 [] := World.ownsRow_made w6 #[] 0 (Nat.le_refl _) (Nat.zero_le _) rfl
      have O1 := Lib.hid O1
      have B1 := Lib.hid (show Below w6.heap.size w6 (w6.alloc (.cells #[] 27)) from (Below.refl _ _).alloc (Nat.le_refl _) _)
      clear HJ hb6 htj
      go_wp2_with (at_builtin; refine wpList_append_prs rfl _ _ rfl w6.heap.size _ 0 [] rfl O1.out A4 n4 c4 x rfl HX6.out B1.out (by omega) B1.out.size ?_)
      intro v1 w7 ys1 hr1 hown1 hg1
      have B2 := Lib.hid (own_below B1.out O1.out hg1)
      have R1 := Lib.hid hr1
      have O2 := Lib.hid hown1
      clear hr1 hown1 hg1 B1 O1
      go_wp2_with (at_builtin; refine wpList_append_prs rfl _ _ rfl w6.heap.size v1 n4 ys1 rfl O2.out A5 n5 c5 y rfl HY6.out B2.out (by omega) B2.out.size ?_)
      intro v2 w8 ys2 hr2 hown2 hg2
      have B3 := Lib.hid (own_below B2.out O2.out hg2)
      have R2 := Lib.hid (R1.out.append hr2)
      obtain ⟨A8, c8, rfl, hp8, _⟩ := own_prs hown2 (R2.out.below B3.out)
      have HP8 := Lib.hid (show Prs w8 A8 _ c8 (x ++ y) from hp8)
      have HIS := ris_any HP8.out HSM.out
      rw [HI.out] at HIS
      have HB8 := Lib.hid (HB6.out.trans (B3.out.mono HB6.out.size))
      have HTJ8 := Lib.hid (HTJ.out.below B3.out)
      clear hr2 hown2 hg2 hp8 B2 O2 R1
      go_wp2_with fail
      refine HIS.mono ?_
      rintro e w9 ⟨rfl, hd9⟩
      have HB9 := Lib.hid (HB8.out.trans (hd9.below _))
      have HH := Lib.hid (has_yes (HTJ8.out.below (hd9.below _)).b (hd9.prs HP8.out))
      clear HIS hd9
      go_wp2_with fail
      refine HH.out.mono ?_
      rintro e w10 ⟨rfl, hb10⟩
      have HB10 := Lib.hid (below_on HB9.out hb10)
      clear hb10
      go_wp2
      go_ret
      exact ⟨rfl, HB10.out⟩
  · have hne : ((m : Int) != (m' : Int)) = true := by simp; omega
    obtain ⟨-, D1, t1, -⟩ := HTA5.out
    obtain ⟨-, D2, t2, -⟩ := HTC5.out
    have HJ := Lib.hid (join_order t1 t2 hmm)
    clear t1 t2
    rw [errV_some (k := 1) (by decide)] at HJ
    go_wp2_with fail
    refine HJ.out.mono ?_
    rintro e w6 ⟨rfl, hd6⟩
    have HB6 := Lib.hid (below_on HB5.out (hd6.below _))
    clear HJ hd6
    go_wp2
    go_ret
    exact ⟨rfl, HB6.out⟩

theorem joins_any {w : World} {A B : Option Addr} {n c n' c' : Nat} (m m' : Int) {L M : List Pr} (h : Prs w A n c L) (h' : Prs w B n' c' M) :
    Calls Try.prog 5 #[.int .i64 m, .int .i64 m', .slice A n c, .slice B n' c'] w fun e w' => e = .returned (.bool true) ∧ Below w.heap.size w w' := by
  by_cases hm : 3 ≤ m ∧ m ≤ 16
  · by_cases hm' : 3 ≤ m' ∧ m' ≤ 16
    · obtain ⟨k, rfl⟩ : ∃ k : Nat, m = (k : Int) := ⟨m.toNat, by omega⟩
      obtain ⟨k', rfl⟩ : ∃ k' : Nat, m' = (k' : Int) := ⟨m'.toNat, by omega⟩
      cases hf : fewB L 150
      · exact joins_few h h' (by omega) (by omega) (by omega) (by omega) (.inl hf)
      · cases hg : fewB M 150
        · exact joins_few h h' (by omega) (by omega) (by omega) (by omega) (.inr ⟨hf, hg⟩)
        · exact joins_made h h' (by omega) (by omega) (by omega) (by omega) hf hg
    · exact joins_nil m m' h h' (.inr ⟨hm, hm'⟩)
  · exact joins_nil m m' h h' (.inl hm)
end Go.Proofs.Ytdkppgmhhijkgaa
