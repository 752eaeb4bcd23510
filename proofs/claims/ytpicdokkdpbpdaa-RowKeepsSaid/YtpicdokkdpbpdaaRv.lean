/- The walk of RowPuts: it returns true, and nothing that was there before the call is changed. Condition: what came in can be read. -/
import Derived.Test.YtpicdokkdpbpdaaRu
import Derived.LaidEql
import Derived.Deep.DeepCutAuto
namespace Go.Proofs.Ytpicdokkdpbpdaa
open Go.RowKit
set_option linter.unusedVariables false

theorem Try.infoErr : (Try.prog.info? 39).map (fun i => i.comparable) = some true := by kernel_rfl

theorem errs_alike (depth : Nat) (a b : Int) (w : World) : (Op.equalIn (depth + 2) 35 (.iface 39 (.int .i64 a)) (.iface 39 (.int .i64 b))).run Try.prog w = .ok (a == b) w := by
  obtain ⟨i, hi, hc⟩ := Option.map_eq_some_iff.1 Try.infoErr
  have u26 := run_underlying (w := w) Try.underlying35
  simp [Op.equalIn, u26, typeInfo, hi, hc]

/-- Two errors that are numbers of api's own type are the same if the numbers are. -/
theorem eql_err (a b : Int) (w : World) : (binOp .eql 35 (.iface 39 (.int .i64 a)) (.iface 39 (.int .i64 b))).run Try.prog w = .ok (.bool (a == b)) w := by
  have h := errs_alike 9998 a b w
  simp only [binOp, Op.equal, Op.maxDepth]
  simp [h]

theorem Drawn.bel {w w' : World} (h : Drawn w w') (B : Nat) : Below B w w' := by
  obtain ⟨d, rfl⟩ := h
  exact ⟨rfl, rfl, rfl, Nat.le_refl _, fun _ _ => rfl⟩
theorem Below.on {a w w' : World} (h : Below a.heap.size a w) (hb : Below w.heap.size w w') : Below a.heap.size a w' := h.trans (hb.mono h.size)

theorem few_small {L : List Pr} {m : Nat} (h : fewB L m = true) : Small L ∧ L.length ≤ m := by
  unfold fewB at h
  simp only [Bool.and_eq_true, decide_eq_true_eq] at h
  refine ⟨fun p hp => ?_, h.2⟩
  have := List.all_eq_true.1 h.1 p hp
  unfold shortB at this
  simp only [Bool.and_eq_true, decide_eq_true_eq] at this
  omega

theorem bne_same (b : Bool) : (b != b) = false := by cases b <;> rfl

set_option maxRecDepth 100000 in
set_option maxHeartbeats 4000000 in
theorem puts_let {w : World} {A C D : Option Addr} {n c o p : Nat} (q r : Nat) {L : List Pr} (h : Prs w A n c L) (hl : fewB L 200 = false ∨ 100 < o ∨ 100 < p) :
    Calls Try.prog 3 #[.slice A n c, .slice C o q, .slice D p r] w fun e w' => e = .returned (.bool true) ∧ Below w.heap.size w w' := by
  have H := Lib.hid h
  clear h
  go_enter Try.func3, Try.ntmps3
  go_wp2_with fail
  refine (up_any _).mono ?_
  rintro e w1 ⟨rfl, hb1⟩
  have HB := Lib.hid hb1
  have HF : Calls Try.prog 6 #[.slice A n c, .int .i64 200] w1 _ := few_any 200 (H.out.below hb1)
  have HF := Lib.hid HF
  clear hb1
  cases hf : fewB L 200
  · rw [hf] at HF
    clear hl hf
    go_wp2_with fail
    refine HF.out.mono ?_
    rintro e w2 ⟨rfl, rfl⟩
    go_wp2
    go_ret
    exact ⟨rfl, HB.out⟩
  · rw [hf] at HF hl
    by_cases h1 : 100 < o
    · clear hl hf
      have g : (100 : Int) < o := by omega
      go_wp2_with fail
      refine HF.out.mono ?_
      rintro e w2 ⟨rfl, rfl⟩
      go_wp2
      go_ret
      exact ⟨rfl, HB.out⟩
    · have h2 : 100 < p := by
        rcases hl with hl | hl | hl
        · cases hl
        · exact absurd hl h1
        · exact hl
      have g1 : decide (100 < (o : Int)) = false := by simp; omega
      have g : (100 : Int) < p := by omega
      clear hl hf h1
      go_wp2_with fail
      refine HF.out.mono ?_
      rintro e w2 ⟨rfl, rfl⟩
      go_wp2
      go_ret
      exact ⟨rfl, HB.out⟩

set_option maxRecDepth 100000 in
set_option maxHeartbeats 8000000 in
theorem puts_short {w : World} {A C D : Option Addr} {n c o p : Nat} (q r : Nat) {L : List Pr} {k v : List UInt8} (h : Prs w A n c L) (h' : Byt w C o k) (h'' : Byt w D p v) (hf : fewB L 200 = true) (ho : o ≤ 100) (hp : p ≤ 100) :
    Calls Try.prog 3 #[.slice A n c, .slice C o q, .slice D p r] w fun e w' => e = .returned (.bool true) ∧ Below w.heap.size w w' := by
  obtain ⟨hsm, hlen⟩ := few_small hf
  have HM := Lib.hid hsm
  have hn : n ≤ 200 := by rw [← h.len]; exact hlen
  have hft := row_fit L L.length (Nat.le_refl _)
  rw [List.take_length] at hft
  have HT := Lib.hid hft.1
  have hrl : (rowL L).length ≤ 200 := Nat.le_trans hft.2 hlen
  have HRL := Lib.hid hrl
  have H := Lib.hid h
  have H' := Lib.hid h'
  have H'' := Lib.hid h''
  have HF := Lib.hid hf
  clear h h' h'' hf hsm hft hrl hlen
  have g1 : decide (100 < (o : Int)) = false := by simp; omega
  have g2 : decide (100 < (p : Int)) = false := by simp; omega
  go_enter Try.func3, Try.ntmps3
  go_wp2_with fail
  refine (up_any _).mono ?_
  rintro e w1 ⟨rfl, hb1⟩
  have B1 := Lib.hid hb1
  have HFW : Calls Try.prog 6 #[.slice A n c, .int .i64 200] w1 _ := few_any 200 (H.out.below hb1)
  rw [HF.out] at HFW
  clear hb1 HF
  go_wp2_with fail
  refine HFW.mono ?_
  rintro e w1 ⟨rfl, rfl⟩
  clear HFW
  have HC := is_any (H.out.below B1.out)
  have HR : ∀ w2, Below w.heap.size w w2 → Calls Try.prog 8 #[.slice A n c] w2 _ := fun w2 hb => ris_any (H.out.below hb) HM.out
  have HR := Lib.hid HR
  have hbb := bne_same (isB L)
  generalize isB L = bl at HC HR hbb
  go_wp2_with fail
  refine HC.mono ?_
  rintro e w2 ⟨rfl, hb⟩
  have B2 := Lib.hid (Below.on B1.out hb)
  have HR2 := HR.out _ B2.out
  clear HC HR hb
  go_wp2_with fail
  refine HR2.mono ?_
  rintro e w3 ⟨rfl, hd⟩
  have B3 := Lib.hid (Below.on B2.out (hd.bel _))
  clear HR2 hd
  have HW := rrow_any (H.out.below B3.out) HM.out (by omega)
  go_wp2_with fail
  clear hbb
  refine HW.mono ?_
  rintro e w4 ⟨A1, n1, c1, rfl, hp1, hb⟩
  have hn1 : n1 ≤ 200 := by rw [← hp1.len]; exact HRL.out
  have HP4 := Lib.hid hp1
  have B4 := Lib.hid (Below.on B3.out hb)
  have HSR := Lib.hid (small_fit HT.out)
  generalize rowL L = R at HP4 HT HRL HSR hp1
  clear hp1 hb HW
  have HG := find_any q HP4.out (H'.out.below B4.out) HT.out.1 (by omega)
  have HX := fun w5 (hb : Below w4.heap.size w4 w5) => rfind_any q (HP4.out.below hb) (H'.out.below (Below.on B4.out hb)) HT.out.1 HSR.out (show o ≤ 1000 by omega)
  have HDL := fun w5 (hb : Below w4.heap.size w4 w5) => del_any q (HP4.out.below hb) (H'.out.below (Below.on B4.out hb)) HT.out.1 (show n1 ≤ 1000 by omega) HSR.out
  have HRD := fun w5 (hb : Below w4.heap.size w4 w5) => rdel_any q (HP4.out.below hb) (H'.out.below (Below.on B4.out hb)) (show n1 ≤ 1000 by omega)
  have HYE := fun w5 (hb : Below w4.heap.size w4 w5) (hf : fairB (k, v) = true) => put_yes q r (HP4.out.below hb) (H'.out.below (Below.on B4.out hb)) (H''.out.below (Below.on B4.out hb)) HT.out.1 (show n1 ≤ 1000 by omega) HSR.out hf (show o ≤ 1000 by omega) (show p ≤ 1000 by omega)
  have HPU := fun w5 (hb : Below w4.heap.size w4 w5) => rput_any q r (HP4.out.below hb) (H'.out.below (Below.on B4.out hb)) (H''.out.below (Below.on B4.out hb)) HT.out.1 HSR.out (show o ≤ 1000 by omega) (show n1 ≤ 1000 by omega)
  have hhb := bne_same (hasB R k)
  generalize pos R k = P at HG HX
  generalize hasB R k = hb0 at HG HX HDL HYE hhb
  have HX := Lib.hid HX
  have HDL := Lib.hid HDL
  have HRD := Lib.hid HRD
  have HYE := Lib.hid HYE
  have HPU := Lib.hid HPU
  go_wp2_with fail
  refine HG.mono ?_
  rintro e w5 ⟨rfl, hb⟩
  have E5 := Lib.hid hb
  clear HG hb
  have HX5 := HX.out _ E5.out
  clear HX
  go_wp2_with fail
  refine HX5.mono ?_
  rintro e w6 ⟨rfl, hd⟩
  have E6 := Lib.hid (Below.on E5.out (hd.bel _))
  clear HX5 hd E5
  have HD6 := HDL.out _ E6.out
  clear HDL
  go_wp2_with fail
  refine HD6.mono ?_
  rintro e w7 ⟨A2, n2, c2, rfl, hp2, hb⟩
  have HP7 := Lib.hid hp2
  have E7 := Lib.hid (Below.on E6.out hb)
  clear HD6 hp2 hb E6
  have HR7 := HRD.out _ E7.out
  clear HRD
  go_wp2_with fail
  refine HR7.mono ?_
  rintro e w8 ⟨A3, n3, c3, rfl, hp3, hb⟩
  have E8 := Lib.hid (Below.on E7.out hb)
  have HS8 := pairs_same (c := c2) (d := c3) (HP7.out.below hb) hp3
  clear HR7 hp3 hb E7 HP7
  go_wp2_with fail
  refine HS8.mono ?_
  rintro e w9 ⟨rfl, hd⟩
  have E9 := Lib.hid (Below.on E8.out (hd.bel _))
  clear HS8 hd E8
  cases hfr : fairB (k, v)
  · have HN9 := put_no (A := A1) (n := n1) (c := c1) q r (H'.out.below (Below.on B4.out E9.out)) (H''.out.below (Below.on B4.out E9.out)) hfr
    have HM9 := rmay_any q (H'.out.below (Below.on B4.out E9.out))
    have hor : mayB k = false ∨ 32 < p := by
      have hv := H''.out.1
      unfold fairB at hfr
      cases hmm : mayB k
      · exact .inl rfl
      · rw [hmm] at hfr
        simp at hfr
        exact .inr (by omega)
    have he := eql_err 1 1
    clear hfr HYE HPU
    go_wp2_with fail
    refine HN9.mono ?_
    rintro e w9 ⟨rfl, rfl⟩
    clear HN9
    cases hmk : mayB k
    · rw [hmk] at HM9
      clear hor hmk
      go_wp2_with fail
      refine HM9.mono ?_
      rintro e w9 ⟨rfl, rfl⟩
      go_wp2
      go_ret
      exact ⟨rfl, Below.on B4.out E9.out⟩
    · rw [hmk] at HM9
      have g : (32 : Int) < p := by
        rcases hor with h | h
        · rw [hmk] at h; cases h
        · omega
      clear hor hmk
      go_wp2_with fail
      refine HM9.mono ?_
      rintro e w9 ⟨rfl, rfl⟩
      go_wp2
      go_ret
      exact ⟨rfl, Below.on B4.out E9.out⟩
  · have HY9 := HYE.out _ E9.out hfr
    have hmk : mayB k = true ∧ p ≤ 32 := by
      have hv := H''.out.1
      unfold fairB at hfr
      simp at hfr
      exact ⟨hfr.1, by omega⟩
    have HMK := Lib.hid hmk.1
    have g : ¬ (32 : Int) < p := by omega
    have g3 : decide ((32 : Int) < p) = false := by simp; omega
    clear hfr HYE hmk
    go_wp2_with fail
    refine HY9.mono ?_
    rintro e w10 ⟨A4, n4, c4, rfl, hp4, hb⟩
    have HP10 := Lib.hid hp4
    have E10 := Lib.hid (Below.on E9.out hb)
    clear HY9 hp4 hb E9
    have HM10 := rmay_any q (H'.out.below (Below.on B4.out E10.out))
    rw [HMK.out] at HM10
    go_wp2_with fail
    refine HM10.mono ?_
    rintro e w10 ⟨rfl, rfl⟩
    clear HM10
    have HP := HPU.out _ E10.out
    clear HPU
    go_wp2_with fail
    refine HP.mono ?_
    rintro e w11 ⟨A5, n5, c5, rfl, hp5, hb⟩
    have E11 := Lib.hid (Below.on E10.out hb)
    have HS := pairs_same (c := c4) (d := c5) (HP10.out.below hb) hp5
    clear HP hp5 hb E10 HP10
    go_wp2_with fail
    refine HS.mono ?_
    rintro e w12 ⟨rfl, hd⟩
    have E12 := Lib.hid (Below.on E11.out (hd.bel _))
    clear HS hd E11
    go_wp2
    go_ret
    exact ⟨rfl, Below.on B4.out E12.out⟩

theorem puts_any {w : World} {A C D : Option Addr} {n c o p : Nat} (q r : Nat) {L : List Pr} {k v : List UInt8} (h : Prs w A n c L) (h' : Byt w C o k) (h'' : Byt w D p v) :
    Calls Try.prog 3 #[.slice A n c, .slice C o q, .slice D p r] w fun e w' => e = .returned (.bool true) ∧ Below w.heap.size w w' := by
  by_cases hl : fewB L 200 = false ∨ 100 < o ∨ 100 < p
  · exact puts_let q r h hl
  · exact puts_short q r h h' h'' (by cases hf : fewB L 200 <;> simp_all) (by omega) (by omega)
end Go.Proofs.Ytpicdokkdpbpdaa
