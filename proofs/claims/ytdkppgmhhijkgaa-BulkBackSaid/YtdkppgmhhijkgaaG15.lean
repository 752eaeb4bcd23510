/- BulkBack where a tree is made: the walk. Condition: at most 200 short pairs; the order may be. BulkBack, whatever came in. Condition: what came in can be read. -/
import Derived.Test.YtdkppgmhhijkgaaG14
namespace Go.Proofs.Ytdkppgmhhijkgaa
open Go.RowKit
set_option linter.unusedVariables false
set_option maxRecDepth 100000

theorem below_all_of {w a b : World} (h : Below w.heap.size w a) (hb : Below a.heap.size a b) : Below w.heap.size w b := h.trans (hb.mono h.size)

set_option maxHeartbeats 8000000 in
theorem back_made {w : World} {A C : Option Addr} {n c m o : Nat} (q : Nat) {L : List Pr} {k : Ky} (h : Prs w A n c L) (hk : Byt w C o k) (h3 : 3 ≤ m) (h16 : m ≤ 16) (hf : fewB L 200 = true) (hmk : mayB k = true) :
    Calls Try.prog 6 #[.int .i64 m, .slice A n c, .slice C o q] w fun e w' => e = .returned (.bool true) ∧ Below w.heap.size w w' := by
  have HUP := up_any w
  have H := Lib.hid h
  have HK := Lib.hid hk
  have HF := Lib.hid hf
  clear h hk hf
  go_enter Try.func6, Try.ntmps6
  go_wp2_with fail
  refine HUP.mono ?_
  rintro e w1 ⟨rfl, hb1⟩
  have HFX := few_any 200 (H.out.below hb1)
  rw [HF.out] at HFX
  have HB1 := Lib.hid hb1
  clear HUP hb1
  go_wp2_with fail
  refine HFX.mono ?_
  rintro e w2 ⟨rfl, rfl⟩
  have HMD := made_yes (H.out.below HB1.out) h3 h16
  clear HFX
  go_wp2_with fail
  refine HMD.mono ?_
  rintro e w2 ⟨tb, rfl, ht, hb2⟩
  have HB2 := Lib.hid (below_on HB1.out hb2)
  obtain ⟨P, hP⟩ : ∃ P, P = madeL L := ⟨_, rfl⟩
  rw [← hP] at ht
  obtain ⟨D, ht⟩ : ∃ D, TreD w1.heap.size D w2 tb m P := by
    obtain ⟨h0, D, h1, h2⟩ := ht
    exact ⟨D, h0, h1, h2⟩
  have HT := Lib.hid ht
  have HCU := cut_yes ht.tre q (HK.out.below HB2.out) hmk
  clear hP ht hb2 HMD
  go_wp2_with fail
  refine HCU.mono ?_
  rintro e w3 ⟨ta, tc, N, Da, Dc, rfl, hta, hN1, hN2, htc, hb3⟩
  have HB3 := Lib.hid (below_on HB2.out hb3)
  have HTA := Lib.hid hta
  have HTC := Lib.hid htc
  have HT3 := Lib.hid (HT.out.below hb3)
  have hcat : P.take (pos P k) ++ P.drop (pos P k) = P := List.take_append_drop _ _
  have hPl := HT.out.tre.order.2.2.2.1
  have HJ := join_yes hta.tre htc.tre (by rw [hcat]; exact HT.out.tre.fit.is) (by rw [hcat]; exact hPl)
  rw [hcat] at HJ
  have HJ := Lib.hid HJ
  clear HCU hta hN1 hN2 htc hb3 hcat
  go_wp2_with fail
  refine HJ.out.mono ?_
  rintro e w4 ⟨tj, Dj, rfl, htj, hb4⟩
  have HB4 := Lib.hid (below_on HB3.out hb4)
  have HTJ := Lib.hid htj
  have HTA4 := Lib.hid (HTA.out.below hb4)
  have HTC4 := Lib.hid (HTC.out.below hb4)
  have HT4 := Lib.hid (HT3.out.below hb4)
  have HPA := Lib.hid (cpairs HT4.out.tre)
  clear htj hb4 HJ
  go_wp2_with fail
  refine HPA.out.mono ?_
  rintro e w5 ⟨A5, n5, c5, rfl, hp5, hb5⟩
  have HLO := Lib.hid (load_yes hp5 h3 h16 HT.out.tre.fit.is hPl)
  have HB5 := Lib.hid (below_on HB4.out hb5)
  have HTA5 := Lib.hid (HTA4.out.below hb5)
  have HTC5 := Lib.hid (HTC4.out.below hb5)
  have HT5 := Lib.hid (HT4.out.below hb5)
  have HTJ5 := Lib.hid (HTJ.out.below hb5)
  clear hp5 hb5 HPA
  go_wp2_with fail
  refine HLO.out.mono ?_
  rintro e w6 ⟨tl, Dl, rfl, htl, hb6⟩
  have HB6 := Lib.hid (below_on HB5.out hb6)
  have HTA6 := Lib.hid (HTA5.out.below hb6)
  have HTC6 := Lib.hid (HTC5.out.below hb6)
  have HT6 := Lib.hid (HT5.out.below hb6)
  have HTJ6 := Lib.hid (HTJ5.out.below hb6)
  have HTL6 := Lib.hid htl
  clear htl hb6 HLO
  obtain ⟨na, hna⟩ : ∃ na, na = (P.take (pos P k)).length := ⟨_, rfl⟩
  obtain ⟨nc, hnc⟩ : ∃ nc, nc = (P.drop (pos P k)).length := ⟨_, rfl⟩
  obtain ⟨np, hnp⟩ : ∃ np, np = P.length := ⟨_, rfl⟩
  have ma6 : w6.cell? ⟨ta, 3, none⟩ = some (.int .i64 (na : Nat)) := by rw [hna]; exact HTA6.out.b.many.1
  have mb6 : w6.cell? ⟨tc, 3, none⟩ = some (.int .i64 (nc : Nat)) := by rw [hnc]; exact HTC6.out.b.many.1
  have mc6 : w6.cell? ⟨tb, 3, none⟩ = some (.int .i64 (np : Nat)) := by rw [hnp]; exact HT6.out.b.many.1
  have md6 : w6.cell? ⟨tj, 3, none⟩ = some (.int .i64 (np : Nat)) := by rw [hnp]; exact HTJ6.out.b.many.1
  have hsum : na + nc = np := by
    have := congrArg List.length (List.take_append_drop (pos P k) P)
    rw [List.length_append, ← hna, ← hnc, ← hnp] at this
    exact this
  have hnp2 : np ≤ 1000 := by omega
  have HLT := Lib.hid (And.intro HTA6.out.tre.lt.1 (And.intro HTC6.out.tre.lt.1 (And.intro HT6.out.tre.lt.1 HTJ6.out.tre.lt.1)))
  have hw : wrap64 ((na : Int) + (nc : Int)) = (np : Int) := by
    rw [show (na : Int) + (nc : Int) = (np : Int) by omega]
    exact IntWalk.wrap64_in _ (by omega)
  have hw' : IntKind.i64.wrap ((na : Int) + (nc : Int)) = (np : Int) := by
    rw [show (na : Int) + (nc : Int) = (np : Int) by omega]
    exact IntWalk.i64_in _ (by omega)
  have hq1 : ((na : Int) + (nc : Int) == (np : Int)) = true := by simp; omega
  have hq2 : ((np : Int) == (np : Int)) = true := by simp
  have HSUM := Lib.hid hsum
  clear hsum
  have HBD := Lib.hid ((Below.refl w6.heap.size w6).drew)
  have HPJ := Lib.hid (cpairs (w := w6.drew) (HTJ6.out.below HBD.out).tre)
  clear hna hnc hnp hPl
  have MC := Lib.hid (And.intro ma6 (And.intro mb6 (And.intro mc6 md6)))
  go_wp2
  go_region_held3 (fun w' => w'.cell? ⟨ta, 3, none⟩ = some (.int .i64 (na : Nat)) ∧ w'.cell? ⟨tc, 3, none⟩ = some (.int .i64 (nc : Nat)) ∧ w'.cell? ⟨tb, 3, none⟩ = some (.int .i64 (np : Nat)) ∧ w'.cell? ⟨tj, 3, none⟩ = some (.int .i64 (np : Nat))) (go_keep)
    (first
      | (go_at_call 21
         (with_reducible refine HPJ.out.mono ?_)
         rintro e w7 ⟨A7, n7, c7, rfl, hp7, hb7⟩
         have hx7 : Below w6.heap.size w6 w7 := undrew hb7
         have ma7 := (hx7.cell (p := ⟨ta, 3, none⟩) HLT.out.1).trans MC.out.1
         have mb7 := (hx7.cell (p := ⟨tc, 3, none⟩) HLT.out.2.1).trans MC.out.2.1
         have mc7 := (hx7.cell (p := ⟨tb, 3, none⟩) HLT.out.2.2.1).trans MC.out.2.2.1
         have md7 := (hx7.cell (p := ⟨tj, 3, none⟩) HLT.out.2.2.2).trans MC.out.2.2.2
         have HX7 := Lib.hid hx7
         have HP7 := Lib.hid hp7
         have HPT7 := Lib.hid (cpairs (HT6.out.below hx7).tre)
         clear hp7 hb7 hx7 HPJ)
      | (go_at_call 21
         (with_reducible refine HPT7.out.mono ?_)
         rintro e w8 ⟨A8, n8, c8, rfl, hp8, hb8⟩
         have hx8 : Below w6.heap.size w6 w8 := below_on HX7.out hb8
         have ma8 := (hx8.cell (p := ⟨ta, 3, none⟩) HLT.out.1).trans MC.out.1
         have mb8 := (hx8.cell (p := ⟨tc, 3, none⟩) HLT.out.2.1).trans MC.out.2.1
         have mc8 := (hx8.cell (p := ⟨tb, 3, none⟩) HLT.out.2.2.1).trans MC.out.2.2.1
         have md8 := (hx8.cell (p := ⟨tj, 3, none⟩) HLT.out.2.2.2).trans MC.out.2.2.2
         have HX8 := Lib.hid hx8
         have HC8 := Lib.hid (pairs_same (HP7.out.below hb8) hp8)
         clear hp8 hb8 hx8 HPT7)
      | (go_at_call 20
         (with_reducible refine HC8.out.mono ?_)
         rintro e w9 ⟨rfl, hd9⟩
         have hx9 : Below w6.heap.size w6 w9 := below_on HX8.out (hd9.below _)
         have ma9 := (hx9.cell (p := ⟨ta, 3, none⟩) HLT.out.1).trans MC.out.1
         have mb9 := (hx9.cell (p := ⟨tc, 3, none⟩) HLT.out.2.1).trans MC.out.2.1
         have mc9 := (hx9.cell (p := ⟨tb, 3, none⟩) HLT.out.2.2.1).trans MC.out.2.2.1
         have md9 := (hx9.cell (p := ⟨tj, 3, none⟩) HLT.out.2.2.2).trans MC.out.2.2.2
         have HX9 := Lib.hid hx9
         have HPL9 := Lib.hid (cpairs (HTL6.out.below hx9).tre)
         clear hd9 hx9 HC8)
      | (go_at_call 21
         (with_reducible refine HPL9.out.mono ?_)
         rintro e w10 ⟨A10, n10, c10, rfl, hp10, hb10⟩
         have hx10 : Below w6.heap.size w6 w10 := below_on HX9.out hb10
         have ma10 := (hx10.cell (p := ⟨ta, 3, none⟩) HLT.out.1).trans MC.out.1
         have mb10 := (hx10.cell (p := ⟨tc, 3, none⟩) HLT.out.2.1).trans MC.out.2.1
         have mc10 := (hx10.cell (p := ⟨tb, 3, none⟩) HLT.out.2.2.1).trans MC.out.2.2.1
         have md10 := (hx10.cell (p := ⟨tj, 3, none⟩) HLT.out.2.2.2).trans MC.out.2.2.2
         have HX10 := Lib.hid hx10
         have HP10 := Lib.hid hp10
         have HPT10 := Lib.hid (cpairs (HT6.out.below hx10).tre)
         clear hp10 hb10 hx10 HPL9)
      | (go_at_call 21
         (with_reducible refine HPT10.out.mono ?_)
         rintro e w11 ⟨A11, n11, c11, rfl, hp11, hb11⟩
         have hx11 : Below w6.heap.size w6 w11 := below_on HX10.out hb11
         have ma11 := (hx11.cell (p := ⟨ta, 3, none⟩) HLT.out.1).trans MC.out.1
         have mb11 := (hx11.cell (p := ⟨tc, 3, none⟩) HLT.out.2.1).trans MC.out.2.1
         have mc11 := (hx11.cell (p := ⟨tb, 3, none⟩) HLT.out.2.2.1).trans MC.out.2.2.1
         have md11 := (hx11.cell (p := ⟨tj, 3, none⟩) HLT.out.2.2.2).trans MC.out.2.2.2
         have HX11 := Lib.hid hx11
         have HC11 := Lib.hid (pairs_same (HP10.out.below hb11) hp11)
         clear hp11 hb11 hx11 HPT10)
      | (go_at_call 20
         (with_reducible refine HC11.out.mono ?_)
         rintro e w12 ⟨rfl, hd12⟩
         have hx12 : Below w6.heap.size w6 w12 := below_on HX11.out (hd12.below _)
         have ma12 := (hx12.cell (p := ⟨ta, 3, none⟩) HLT.out.1).trans MC.out.1
         have mb12 := (hx12.cell (p := ⟨tc, 3, none⟩) HLT.out.2.1).trans MC.out.2.1
         have mc12 := (hx12.cell (p := ⟨tb, 3, none⟩) HLT.out.2.2.1).trans MC.out.2.2.1
         have md12 := (hx12.cell (p := ⟨tj, 3, none⟩) HLT.out.2.2.2).trans MC.out.2.2.2
         have HX12 := Lib.hid hx12
         clear hd12 hx12 HC11))
  all_goals
    go_wp2
    go_ret
    exact ⟨rfl, below_on HB6.out HX12.out⟩
end Go.Proofs.Ytdkppgmhhijkgaa

namespace Go.Proofs.Ytdkppgmhhijkgaa
open Go.RowKit
set_option linter.unusedVariables false
set_option maxRecDepth 100000

set_option maxHeartbeats 2000000 in
theorem back_key {w : World} {A C : Option Addr} {n c m o : Nat} (q : Nat) {L : List Pr} {k : Ky} (h : Prs w A n c L) (hk : Byt w C o k) (h3 : 3 ≤ m) (h16 : m ≤ 16) (hf : fewB L 200 = true) (hmk : mayB k = false) :
    Calls Try.prog 6 #[.int .i64 m, .slice A n c, .slice C o q] w fun e w' => e = .returned (.bool true) ∧ Below w.heap.size w w' := by
  have HUP := up_any w
  have H := Lib.hid h
  have HK := Lib.hid hk
  have HF := Lib.hid hf
  clear h hk hf
  go_enter Try.func6, Try.ntmps6
  go_wp2_with fail
  refine HUP.mono ?_
  rintro e w1 ⟨rfl, hb1⟩
  have HFX := few_any 200 (H.out.below hb1)
  rw [HF.out] at HFX
  have HB1 := Lib.hid hb1
  clear HUP hb1
  go_wp2_with fail
  refine HFX.mono ?_
  rintro e w2 ⟨rfl, rfl⟩
  have HMD := made_yes (H.out.below HB1.out) h3 h16
  clear HFX
  go_wp2_with fail
  refine HMD.mono ?_
  rintro e w2 ⟨tb, rfl, ⟨-, D, ht, -⟩, hb2⟩
  have HB2 := Lib.hid (below_on HB1.out hb2)
  have HCU := cut_no ht q (HK.out.below HB2.out) hmk
  rw [errV_some (k := 1) (by decide)] at HCU
  clear ht hb2 HMD
  go_wp2_with fail
  refine HCU.mono ?_
  rintro e w3 ⟨rfl, rfl⟩
  go_wp2
  go_ret
  exact ⟨rfl, HB2.out⟩

set_option maxHeartbeats 2000000 in
theorem back_order {w : World} {A C : Option Addr} {n c o : Nat} (q : Nat) (m : Int) {L : List Pr} (h : Prs w A n c L) (hm : ¬ (3 ≤ m ∧ m ≤ 16)) :
    Calls Try.prog 6 #[.int .i64 m, .slice A n c, .slice C o q] w fun e w' => e = .returned (.bool true) ∧ Below w.heap.size w w' := by
  have HUP := up_any w
  have H := Lib.hid h
  have HMN := Lib.hid (fun w => made_no (w := w) (A := A) (n := n) (c := c) m hm)
  clear h hm
  go_enter Try.func6, Try.ntmps6
  go_wp2_with fail
  refine HUP.mono ?_
  rintro e w1 ⟨rfl, hb1⟩
  have HFX := few_any 200 (H.out.below hb1)
  have HB1 := Lib.hid hb1
  generalize fewB L 200 = fb at HFX
  clear HUP hb1
  go_wp2_with fail
  refine HFX.mono ?_
  rintro e w2 ⟨rfl, rfl⟩
  go_wp2_with fail
  refine (HMN.out _).mono ?_
  rintro e w2 ⟨rfl, rfl⟩
  go_wp2
  go_ret
  exact ⟨rfl, HB1.out⟩

set_option maxHeartbeats 2000000 in
theorem back_few {w : World} {A C : Option Addr} {n c m o : Nat} (q : Nat) {L : List Pr} (h : Prs w A n c L) (h3 : 3 ≤ m) (h16 : m ≤ 16) (hf : fewB L 200 = false) :
    Calls Try.prog 6 #[.int .i64 m, .slice A n c, .slice C o q] w fun e w' => e = .returned (.bool true) ∧ Below w.heap.size w w' := by
  have HUP := up_any w
  have H := Lib.hid h
  have HF := Lib.hid hf
  clear h hf
  go_enter Try.func6, Try.ntmps6
  go_wp2_with fail
  refine HUP.mono ?_
  rintro e w1 ⟨rfl, hb1⟩
  have HFX := few_any 200 (H.out.below hb1)
  rw [HF.out] at HFX
  have HB1 := Lib.hid hb1
  clear HUP hb1
  go_wp2_with fail
  refine HFX.mono ?_
  rintro e w2 ⟨rfl, rfl⟩
  have HMD := made_yes (H.out.below HB1.out) h3 h16
  clear HFX
  go_wp2_with fail
  refine HMD.mono ?_
  rintro e w2 ⟨tb, rfl, -, hb2⟩
  have HB2 := Lib.hid (below_on HB1.out hb2)
  clear hb2 HMD
  go_wp2
  go_ret
  exact ⟨rfl, HB2.out⟩

theorem back_any {w : World} {A C : Option Addr} {n c o : Nat} (q : Nat) (m : Int) {L : List Pr} {k : Ky} (h : Prs w A n c L) (hk : Byt w C o k) :
    Calls Try.prog 6 #[.int .i64 m, .slice A n c, .slice C o q] w fun e w' => e = .returned (.bool true) ∧ Below w.heap.size w w' := by
  by_cases hm : 3 ≤ m ∧ m ≤ 16
  · obtain ⟨m', rfl⟩ : ∃ m' : Nat, m = (m' : Int) := ⟨m.toNat, by omega⟩
    have h3 : 3 ≤ m' := by omega
    have h16 : m' ≤ 16 := by omega
    cases hf : fewB L 200
    · exact back_few q h h3 h16 hf
    · cases hmk : mayB k
      · exact back_key q h hk h3 h16 hf hmk
      · exact back_made q h hk h3 h16 hf hmk
  · exact back_order q m h hm
end Go.Proofs.Ytdkppgmhhijkgaa
