/- The walk of TreePuts. Condition: what came in can be read. -/
import Derived.Test.YtbpmdjcmmokliaaG10
namespace Go.Proofs.Ytbpmdjcmmokliaa
open Go.RowKit
set_option linter.unusedVariables false
set_option maxRecDepth 100000

theorem few_small {L : List Pr} {m : Nat} (h : fewB L m = true) : Small L ∧ L.length ≤ m := by
  unfold fewB at h
  simp only [Bool.and_eq_true, decide_eq_true_eq] at h
  refine ⟨fun p hp => ?_, h.2⟩
  have := List.all_eq_true.1 h.1 p hp
  unfold shortB at this
  simp only [Bool.and_eq_true, decide_eq_true_eq] at this
  omega
theorem few_short {L : List Pr} {m : Nat} (h : fewB L m = true) : ∀ p ∈ L, p.1.length ≤ 100 ∧ p.2.length ≤ 100 := by
  unfold fewB at h
  simp only [Bool.and_eq_true, decide_eq_true_eq] at h
  intro p hp
  have := List.all_eq_true.1 h.1 p hp
  unfold shortB at this
  simpa only [Bool.and_eq_true, decide_eq_true_eq] using this
theorem bne_same (b : Bool) : (b != b) = false := by cases b <;> rfl
theorem Drawn.bel {w w' : World} (h : Drawn w w') (B : Nat) : Below B w w' := h.below B
theorem below_on {a w w' : World} (h : Below a.heap.size a w) (hb : Below w.heap.size w w') : Below a.heap.size a w' := h.trans (hb.mono h.size)
theorem TrB.lt {B : Nat} {w : World} {tb m : Nat} {P : List Pr} (h : TrB B w tb m P) : B ≤ w.heap.size := by
  obtain ⟨h0, D, h1, h2⟩ := h
  have := h1.lt.1
  omega

set_option maxHeartbeats 4000000 in
theorem tputs_let {w : World} {A C : Option Addr} {n c o : Nat} (q : Nat) (m : Int) {L : List Pr} (h : Prs w A n c L) (hl : fewB L 200 = false ∨ 100 < o) :
    Calls Try.prog 3 #[.int .i64 m, .slice A n c, .slice C o q] w fun e w' => e = .returned (.bool true) ∧ Below w.heap.size w w' := by
  have H := Lib.hid h
  clear h
  go_enter Try.func3, Try.ntmps3
  go_wp2_with fail
  refine (up_any _).mono ?_
  rintro e w1 ⟨rfl, hb1⟩
  have HB := Lib.hid hb1
  have HF : Calls Try.prog 7 #[.slice A n c, .int .i64 200] w1 _ := few_any 200 (H.out.below hb1)
  have HF := Lib.hid HF
  clear hb1
  cases hf : fewB L 200
  · rw [hf] at HF
    clear hl hf
    go_wp2_with fail
    refine HF.out.mono ?_
    rintro e w2 ⟨rfl, rfl⟩
    go_wp2
    go_ret
    exact ⟨rfl, HB.out⟩
  · rw [hf] at HF hl
    have h1 : 100 < o := by
      rcases hl with hl | hl
      · cases hl
      · exact hl
    clear hl hf
    have g : (100 : Int) < o := by omega
    go_wp2_with fail
    refine HF.out.mono ?_
    rintro e w2 ⟨rfl, rfl⟩
    go_wp2
    go_ret
    exact ⟨rfl, HB.out⟩

set_option maxHeartbeats 4000000 in
theorem tputs_out {w : World} {A C : Option Addr} {n c o : Nat} (q : Nat) (m : Int) {L : List Pr} (h : Prs w A n c L) (hf : fewB L 200 = true) (ho : o ≤ 100) (hm : ¬ (3 ≤ m ∧ m ≤ 16)) :
    Calls Try.prog 3 #[.int .i64 m, .slice A n c, .slice C o q] w fun e w' => e = .returned (.bool true) ∧ Below w.heap.size w w' := by
  have H := Lib.hid h
  have HF0 := Lib.hid hf
  have HNO := Lib.hid (fun w => new_no w m hm)
  have hmm : m < 3 ∨ (¬ m < 3 ∧ 16 < m) := by omega
  have he := eql_err 1 1
  have g1 : decide (100 < (o : Int)) = false := by simp; omega
  have g1b : decide (100 < o) = false := by simp; omega
  clear h hf hm
  go_enter Try.func3, Try.ntmps3
  go_wp2_with fail
  refine (up_any _).mono ?_
  rintro e w1 ⟨rfl, hb1⟩
  have HB := Lib.hid hb1
  have HF : Calls Try.prog 7 #[.slice A n c, .int .i64 200] w1 _ := few_any 200 (H.out.below hb1)
  rw [HF0.out] at HF
  have HF := Lib.hid HF
  clear hb1
  go_wp2_with fail
  refine HF.out.mono ?_
  rintro e w2 ⟨rfl, rfl⟩
  go_wp2_with fail
  refine (HNO.out _).mono ?_
  rintro e w2 ⟨rfl, rfl⟩
  rw [errV_some (k := 1) (by decide)]
  rcases hmm with h1 | ⟨h1, h2⟩
  · go_wp2
    go_ret
    exact ⟨rfl, HB.out⟩
  · have g2 : decide (m < 3) = false := by simp; omega
    go_wp2
    go_ret
    exact ⟨rfl, HB.out⟩

/-- A tree whose blocks D names, all of them from B on. -/
structure TreD (B : Nat) (D : Nat → Prop) (w : World) (tb m : Nat) (P : List Pr) : Prop where
  tbn : B ≤ tb
  tre : Tre w D tb m P
  dn : ∀ b, D b → B ≤ b
theorem TreD.b {B : Nat} {D : Nat → Prop} {w : World} {tb m : Nat} {P : List Pr} (h : TreD B D w tb m P) : TrB B w tb m P := ⟨h.tbn, D, h.tre, h.dn⟩
theorem TreD.below {B : Nat} {D : Nat → Prop} {w w' : World} {tb m : Nat} {P : List Pr} (h : TreD B D w tb m P) (hb : Below w.heap.size w w') : TreD B D w' tb m P := ⟨h.tbn, h.tre.below hb, h.dn⟩
theorem newd (w : World) (m : Nat) (h3 : 3 ≤ m) (h16 : m ≤ 16) :
    Calls Try.prog 8 #[.int .i64 m] w fun e w' => ∃ tb D, e = .returned (.tuple #[.pointer (some ⟨tb, 0, none⟩), .nilIface]) ∧ TreD w.heap.size D w' tb m [] ∧ Below w.heap.size w w' :=
  (new_yes w m h3 h16).mono fun e w' ⟨tb, D, h1, h2, h3, h4, h5⟩ => ⟨tb, D, h1, ⟨h3, h2, h4⟩, h5⟩
/-- What else stays while a tree turns. -/
theorem on_put {D D' : Nat → Prop} {tb : Nat} {w w' : World} {P : World → Prop} (h : On (fun b => ¬ D b ∧ b ≠ tb) w P) (ho : Only (fun b => D b ∨ b = tb) w w') (hd : ∀ b, D' b → D b ∨ w.heap.size ≤ b) : On (fun b => ¬ D' b ∧ b ≠ tb) w' P :=
  ((h.now).keep (ho.agree fun b hb hs => by
    rcases hs with hs | hs
    · exact hb.1.1 hs
    · exact hb.1.2 hs)).mono fun b hb => ⟨fun hd' => by
      rcases hd b hd' with h | h
      · exact hb.1.1 h
      · have := hb.2; omega, hb.1.2⟩
theorem on_new {D : Nat → Prop} {tb N : Nat} {w : World} {P : World → Prop} (h : On (fun b => (¬ D b ∧ b ≠ tb) ∨ N ≤ b) w P) (hD : ∀ b, D b → b < N) (ht : tb < N) : On (fun b => ¬ D b ∧ b ≠ tb) w P :=
  h.mono fun b hb => by
    rcases hb with hb | hb
    · exact hb
    · exact ⟨fun hd => by have := hD b hd; omega, fun e => by omega⟩
theorem on_old {B : Nat} {D : Nat → Prop} {tb m : Nat} {w w' : World} {P : List Pr} {A : Option Addr} {n : Nat} {l : Ky} (h : Byt w A n l) (hb : Below w.heap.size w w') (hN : w.heap.size ≤ B) (ht : TreD B D w' tb m P) : On (fun b => ¬ D b ∧ b ≠ tb) w' (Byt · A n l) :=
  ((byt_old h).keep (below_all hb)).mono fun b hb => ⟨fun hd => by have := ht.dn b hd; omega, fun e => by have := ht.tbn; omega⟩
def PutD (B : Nat) (D : Nat → Prop) (w : World) (tb m : Nat) (P : List Pr) (b : Bool) (er : Value) (e : Ending) (w' : World) : Prop :=
  e = .returned (.tuple #[.bool b, er]) ∧ ∃ D', TreD B D' w' tb m P ∧ (∀ b, D' b → D b ∨ w.heap.size ≤ b) ∧ Only (fun b => D b ∨ b = tb) w w' ∧ Below B w w'
theorem putd {B : Nat} {D : Nat → Prop} {w : World} {tb m : Nat} {P : List Pr} (h : TreD B D w tb m P) (hB : B ≤ w.heap.size) {C V : Option Addr} {o p : Nat} (q r : Nat) {k v : Ky} (hk : Byt w C o k) (hv : Byt w V p v) (ho : o ≤ 1000) (hp : p ≤ 1000) :
    Calls Try.prog 9 #[.pointer (some ⟨tb, 0, none⟩), .slice C o q, .slice V p r] w (PutD B D w tb m (putP P k v) (putF P k v) (errV (putE P k v))) := by
  obtain ⟨h0, h1, h2⟩ := h
  exact (tput_any h1 q r hk hv ho hp).mono fun e w' ⟨e1, D', e2, e3, e4⟩ => ⟨e1, D', ⟨h0, e2, fun b hb => (e3 b hb).elim (h2 b) (fun h => Nat.le_trans hB h)⟩, e3, e4, e4.below (fun b hb => hb.elim (h2 b) (fun h => by rw [h]; exact h0)) hB⟩

/-- Five cells stored. -/
theorem five_set {w : World} {b : Nat} {T : TypeId} {a0 a1 a2 a3 a4 : Value} (u0 u1 u2 u3 u4 : Value) (h : w.heap[b]? = some (.cells #[a0, a1, a2, a3, a4] T (0, 0))) :
    ∃ W, W = ((((w.setCell ⟨b, 0, none⟩ u0).setCell ⟨b, 1, none⟩ u1).setCell ⟨b, 2, none⟩ u2).setCell ⟨b, 3, none⟩ u3).setCell ⟨b, 4, none⟩ u4 ∧ W.heap[b]? = some (.cells #[u0, u1, u2, u3, u4] T (0, 0)) ∧ Only (· = b) w W := by
  refine ⟨_, rfl, by simp [World.setCell, Array.getElem?_modify, h], ?_⟩
  exact (((((Only.refl (· = b) w).set ⟨b, 0, none⟩ u0 (.inr rfl)).set ⟨b, 1, none⟩ u1 (.inr rfl)).set ⟨b, 2, none⟩ u2 (.inr rfl)).set ⟨b, 3, none⟩ u3 (.inr rfl)).set ⟨b, 4, none⟩ u4 (.inr rfl)

/-- What putting a pair into few pairs is. -/
theorem put_few {P : List Pr} (hl : P.length < 1000) (k v : Ky) : putP P k v = (if fairB (k, v) then putL P k v else P) ∧ putE P k v = (if fairB (k, v) then 0 else 1) ∧ putF P k v = (fairB (k, v) && !hasB P k) := by
  unfold putP putE putF
  simp [hl]
theorem fair_no {k v : Ky} {o p : Nat} (hk : k.length = o) (hv : v.length = p) (h : fairB (k, v) = false) : mayB k = false ∨ (mayB k = true ∧ 32 < p) := by
  unfold fairB at h
  cases hm : mayB k
  · exact .inl rfl
  · rw [hm] at h
    simp at h
    exact .inr ⟨rfl, by omega⟩
theorem fair_yes {k v : Ky} {p : Nat} (hv : v.length = p) (h : fairB (k, v) = true) : mayB k = true ∧ p ≤ 32 := by
  unfold fairB at h
  simp at h
  exact ⟨h.1, by omega⟩

set_option maxHeartbeats 16000000 in
theorem tputs_in {w : World} {A C : Option Addr} {n c o : Nat} (q : Nat) {m : Nat} {L : List Pr} {k : Ky} (h : Prs w A n c L) (h' : Byt w C o k) (hf : fewB L 200 = true) (ho : o ≤ 100) (h3 : 3 ≤ m) (h16 : m ≤ 16) :
    Calls Try.prog 3 #[.int .i64 m, .slice A n c, .slice C o q] w fun e w' => e = .returned (.bool true) ∧ Below w.heap.size w w' := by
  have H := Lib.hid (And.intro h h')
  have HF0 := Lib.hid hf
  have hlen : L.length = n := h.len
  have hn200 : n ≤ 200 := by have := (few_small hf).2; omega
  have HM := Lib.hid (And.intro h3 h16)
  have he := eql_err 1 1
  have g1 : decide (100 < (o : Int)) = false := by simp; omega
  have g1b : decide (100 < o) = false := by simp; omega
  have g2 : decide ((m : Int) < 3) = false := by simp; omega
  have g2b : decide (m < 3) = false := by simp; omega
  have g3 : decide (16 < (m : Int)) = false := by simp; omega
  have g3b : decide (16 < m) = false := by simp; omega
  clear h h' hf h3 h16
  go_enter Try.func3, Try.ntmps3
  go_wp2_with fail
  refine (up_any _).mono ?_
  rintro e w1 ⟨rfl, hb1⟩
  have HB := Lib.hid hb1
  have HF : Calls Try.prog 7 #[.slice A n c, .int .i64 200] w1 _ := few_any 200 (H.out.1.below hb1)
  rw [HF0.out] at HF
  have HF := Lib.hid HF
  clear hb1
  go_wp2_with fail
  refine HF.out.mono ?_
  rintro e w2 ⟨rfl, rfl⟩
  clear HF
  have HN := newd w1 m HM.out.1 HM.out.2
  go_wp2_with fail
  refine HN.mono ?_
  rintro e w2 ⟨tb, D0, rfl, ht, hb⟩
  have HT := Lib.hid ht
  have HB2 := Lib.hid (below_on HB.out hb)
  have HS := Lib.hid HB.out.size
  clear HN ht hb
  go_wp2_with fail
  clear g1 g1b g2 g2b g3 g3b
  go_loopw [11, 12] (fun u x wr => ∃ i : Nat, x = .int .i64 (i : Nat) ∧ i ≤ n ∧ ∃ (D : Nat → Prop) (A1 : Option Addr) (n1 c1 : Nat), u = .slice A1 n1 c1 ∧ On (fun b => ¬ D b ∧ b ≠ tb) wr (Prs · A1 n1 c1 (rowL (L.take i))) ∧ TreD w1.heap.size D wr tb m (rowL (L.take i)) ∧ Below w.heap.size w wr) (fun _ x _ => n + 1 - (intOf x).toNat)
  case atStart => exact ⟨0, rfl, Nat.zero_le _, D0, none, 0, 0, rfl, fun v _ => prs_nil v, HT.out, HB2.out⟩
  case round =>
    obtain ⟨i, rfl, hi, D, A1, n1, c1, rfl, hp, ht, hb⟩ := hrel
    clear HB2 HT
    have HP := Lib.hid hp
    have HT := Lib.hid ht
    have HBR := Lib.hid hb
    obtain ⟨hfit, hfl⟩ := row_fit L i (by omega)
    have hn1 : n1 ≤ i := by rw [← hp.here.len]; exact hfl
    have HFIT := Lib.hid hfit
    clear hp ht hfit hfl
    by_cases hin : i < n
    case pos =>
      have hinI : (i : Int) < (n : Int) := by omega
      obtain ⟨b, oo, rfl, hbl, A2, n2, c2, B2, m2, d2, k0, k1, y1, y2⟩ := H.out.1.at_ hin
      have hsh := few_short HF0.out (gt L i) (gt_mem (by omega))
      rw [y1.1, y2.1] at hsh
      have hn2 : n2 ≤ 100 := hsh.1
      have hm2 : m2 ≤ 100 := hsh.2
      have HY := Lib.hid (And.intro y1 y2)
      have hst := row_step L (i := i) (by omega)
      obtain ⟨pf1, pf2, pf3⟩ := put_few (P := rowL (L.take i)) (by have := HP.out.here.len; omega) (gt L i).1 (gt L i).2
      have hpe : putP (rowL (L.take i)) (gt L i).1 (gt L i).2 = rowL (L.take (i + 1)) := by rw [pf1, hst]
      have hsz : w1.heap.size ≤ wr.heap.size := HT.out.b.lt
      have HPB := putd (w := wr.drew) (HT.out.below ((Below.refl wr.heap.size wr).drew)) hsz c2 d2 (HY.out.1.below HBR.out.drew) (HY.out.2.below HBR.out.drew) (by omega) (by omega)
      rw [hpe, pf2, pf3] at HPB
      have HCL := Lib.hid (show ∀ w5, Below w.heap.size w w5 → w5.cell? ⟨b, oo + i * 2, none⟩ = some (.slice A2 n2 c2) ∧ w5.cell? ⟨b, oo + i * 2 + 1, none⟩ = some (.slice B2 m2 d2) from fun w5 hb5 => ⟨(hb5.cell hbl).trans k0, (hb5.cell hbl).trans k1⟩)
      obtain ⟨x0, x1⟩ := HCL.out wr HBR.out
      clear hb y1 y2 hsh pf1 pf2 pf3 hpe k0 k1 hbl
      cases hfr : fairB ((gt L i).1, (gt L i).2)
      case' false =>
        have hmp := fair_no HY.out.1.1 HY.out.2.1 hfr
        rw [hfr] at HPB hst
        simp only [Bool.false_and, Bool.false_eq_true, if_false] at HPB hst
        rw [errV_some (k := 1) (by decide)] at HPB
        have HPB := Lib.hid HPB
        have HST := Lib.hid hst
        have HMP := Lib.hid hmp
        clear hst hmp hfr
        go_wp2_with fail
        go_region_law (first
          | (go_simp
             go_at_call 9
             (with_reducible refine HPB.out.mono ?_)
             rintro e w3 ⟨rfl, D3, ht3, hd3, ho3, hb3⟩
             have HT3 := Lib.hid ht3
             have HB3 := Lib.hid (HBR.out.drew.trans (hb3.mono HS.out))
             have HP3 := Lib.hid (on_put (w := wr.drew) (HP.out.keep (below_all ((Below.refl wr.heap.size wr).drew))) ho3 hd3)
             clear hb3 ht3 hd3 ho3
             go_wp2_with fail))
        all_goals
          clear x0 x1 HPB
          obtain ⟨x0, x1⟩ := HCL.out w3 HB3.out
          have HMY := rmay_any c2 (HY.out.1.below HB3.out)
          have HCD : Calls Try.prog 11 #[.iface 31 (.int .i64 1)] w3 _ := code_any 1 w3 (by omega) (by omega)
          have HCD := Lib.hid HCD
          rcases HMP.out with hmk | ⟨hmk, h32⟩
          case' inl =>
            rw [hmk] at HMY
            go_wp2_with fail
          case' inr =>
            rw [hmk] at HMY
            have h32I : (32 : Int) < (m2 : Int) := by omega
            go_wp2_with fail
          all_goals
            refine HMY.mono ?_
            rintro e w3 ⟨rfl, rfl⟩
            clear HMY hmk
            go_wp2_with fail
            refine HCD.out.mono ?_
            rintro e w3 ⟨rfl, rfl⟩
            clear HCD
            go_wp2
            go_roundw
            case rel => exact ⟨i + 1, rfl, by omega, D3, A1, n1, c1, rfl, by rw [HST.out]; exact HP3.out, HT3.out, HB3.out⟩
            case measure => simp [intOf]; omega
      case' true =>
        have hmp := fair_yes HY.out.2.1 hfr
        rw [hfr] at HPB hst
        simp only [Bool.true_and, if_true] at HPB hst
        rw [errV_zero] at HPB
        have HPB := Lib.hid HPB
        have HST := Lib.hid hst
        have HMY0 := Lib.hid hmp.1
        have h32 : ¬ ((32 : Int) < (m2 : Int)) := by have := hmp.2; omega
        have h32b : decide ((32 : Int) < (m2 : Int)) = false := by simp; omega
        have h32c : decide (32 < m2) = false := by have := hmp.2; simp; omega
        clear hst hmp hfr
        go_wp2_with fail
        go_region_law (first
          | (go_simp
             go_at_call 9
             (with_reducible refine HPB.out.mono ?_)
             rintro e w3 ⟨rfl, D3, ht3, hd3, ho3, hb3⟩
             have HT3 := Lib.hid ht3
             have HB3 := Lib.hid (HBR.out.drew.trans (hb3.mono HS.out))
             have HP3 := Lib.hid (on_put (w := wr.drew) (HP.out.keep (below_all ((Below.refl wr.heap.size wr).drew))) ho3 hd3)
             clear hb3 ht3 hd3 ho3
             go_wp2_with fail))
        all_goals
          clear x0 x1 HPB
          obtain ⟨x0, x1⟩ := HCL.out w3 HB3.out
          have HMY := rmay_any c2 (HY.out.1.below HB3.out)
          rw [HMY0.out] at HMY
          have HGT := rget_any c2 HP3.out.here (HY.out.1.below HB3.out) HFIT.out.1 (small_fit HFIT.out) (by omega)
          have HGT := Lib.hid HGT
          go_wp2_with fail
          refine HMY.mono ?_
          rintro e w3 ⟨rfl, rfl⟩
          clear HMY
          go_wp2_with fail
          refine HGT.out.mono ?_
          rintro e w4 ⟨A4, n4, c4, rfl, -, hb4⟩
          have HB4 := Lib.hid (below_on HB3.out hb4)
          have HT4 := Lib.hid (HT3.out.below hb4)
          have HP4 := Lib.hid (HP3.out.keep (below_all hb4))
          have hns : (!hasB (rowL (L.take i)) (gt L i).1 == hasB (rowL (L.take i)) (gt L i).1) = false := by cases hasB (rowL (L.take i)) (gt L i).1 <;> rfl
          clear HGT hb4 x0 x1 HT3 HP3
          obtain ⟨x0, x1⟩ := HCL.out w4 HB4.out
          have HRP := rput_on (w := w4.drew) c2 d2 (HP4.out.keep (below_all ((Below.refl w4.heap.size w4).drew))) ((on_old HY.out.1 HB4.out HS.out HT4.out).keep (below_all ((Below.refl w4.heap.size w4).drew))) ((on_old HY.out.2 HB4.out HS.out HT4.out).keep (below_all ((Below.refl w4.heap.size w4).drew))) HFIT.out.1 (small_fit HFIT.out) (by omega) (by omega)
          have HRP := Lib.hid HRP
          generalize hasB (rowL (L.take i)) (gt L i).1 = hb0 at hns
          go_wp2_with fail
          go_still_tail 11, (by kernel_rfl)
          change wpList _ _ _ _ _ w4.drew
          clear x0 x1
          go_wp2_with fail
          refine HRP.out.mono ?_
          rintro e w5 ⟨A5, n5, c5, rfl, hp5, hb5⟩
          have hlt4 := HT4.out.tre.lt
          have HP5 := Lib.hid (on_new (N := w4.heap.size) hp5 hlt4.2 hlt4.1)
          have hb5 := undrew hb5
          have HT5 := Lib.hid (HT4.out.below hb5)
          have HB5 := Lib.hid (below_on HB4.out hb5)
          clear HRP hp5 hb5 hlt4
          go_wp2
          go_roundw
          case rel => exact ⟨i + 1, rfl, by omega, D3, A5, n5, c5, rfl, by rw [HST.out]; exact HP5.out, by rw [HST.out]; rw [HST.out] at HT5; exact HT5.out, HB5.out⟩
          case measure => simp [intOf]; omega
    case neg =>
      have hinI : ¬ ((i : Int) < (n : Int)) := by omega
      have hTD := HT.out
      clear HT
      obtain ⟨R, hR⟩ : ∃ R, R = rowL (L.take i) := ⟨_, rfl⟩
      rw [← hR] at HP HFIT hTD
      have hlp : R.length = n1 := HP.out.here.len
      clear hR
      have hD1 := hTD.dn
      have hD2 := hTD.tbn
      have hDl := hTD.tre.lt
      obtain ⟨g, LL, root, d, t, hT, hG, hfl, hle⟩ := hTD.tre
      subst hfl
      obtain ⟨f1, f2, f3⟩ := hG.few hle
      have HTG := Lib.hid (And.intro hT (And.intro hG hle))
      have HBR := Lib.hid hb
      have HRS := Lib.hid (And.intro HFIT.out.1 (small_fit HFIT.out))
      have HTR := Lib.hid hTD.tre
      have HG1 := tget_any hTD.tre q (H.out.2.below hb)
      have hbb := bne_same (hasB (flat d t) k)
      have hbe : (hasB (flat d t) k == hasB (flat d t) k) = true := by simp
      obtain ⟨LA, LC, hla⟩ := leaf_at hG.ok (inR_all k) hG.holds
      have HLA := Lib.hid (And.intro hla.has.1 (And.intro hla.fit (And.intro hla.len hla.holds)))
      have hm16 := hG.m16
      clear hla
      clear hT hG hb hTD HFIT hD1 hD2 hDl
      go_wp2_with fail
      refine HG1.mono ?_
      rintro e w3 ⟨A3, n3, c3, rfl, y3, hb3⟩
      have HB3 := Lib.hid (below_on HBR.out hb3)
      have HR3 := Lib.hid hb3
      have HY3 := Lib.hid y3
      have HG2 := rget_any q (HP.out.here.below hb3) (H.out.2.below HB3.out) HRS.out.1 HRS.out.2 (by omega)
      clear HG1 y3 hb3
      go_wp2_with fail
      refine HG2.mono ?_
      rintro e w4 ⟨A4, n4, c4, rfl, y4, hb4⟩
      have HR4 := Lib.hid (below_on HR3.out hb4)
      have HB4 := Lib.hid (below_on HBR.out HR4.out)
      have s3 := run_str (c := c3) (HY3.out.below hb4)
      have s4 := run_str (c := c4) y4
      have HPP := Lib.hid (pairs_any (HTG.out.1.below HR4.out) HTG.out.2.1 HTG.out.2.2)
      clear HG2 y4 hb4 HY3
      have HLX := Lib.hid HLA.out.1.symm
      generalize hasB (flat d t) k = hb0 at hbb hbe HLX
      go_wp2_with fail
      refine HPP.out.mono ?_
      rintro e w5 ⟨A5, n5, c5, rfl, hp5, hb5⟩
      have HR5 := Lib.hid (below_on HR4.out hb5)
      have HSM := Lib.hid (pairs_same (c := c5) (d := c1) hp5 (HP.out.here.below HR5.out))
      clear HPP hp5 hb5 s3 s4
      go_wp2_with fail
      refine HSM.out.mono ?_
      rintro e w6 ⟨rfl, hd6⟩
      have HR6 := Lib.hid (below_on HR5.out (hd6.below _))
      have HSD := Lib.hid (sound_any (HTG.out.1.below HR6.out) HTG.out.2.1 HTG.out.2.2)
      clear HSM hd6
      go_wp2_with fail
      refine HSD.out.mono ?_
      rintro e w7 ⟨xb, S, rfl, hK, hS, hb7⟩
      have HR7 := Lib.hid (below_on HR6.out hb7)
      rw [sawn_is] at hK
      have HK := Lib.hid hK
      obtain ⟨-, -, k5', -, kS, -⟩ := hK.cells
      have hxl : xb < w7.heap.size := hK.lt _ kS
      have k5 : w7.cell? ⟨xb, 5, none⟩ = some (.int .i64 (d + 1 : Nat)) := k5'
      clear k5'
      have HH := Lib.hid (height_any (w := w7.drew) ((HTG.out.1.below HR7.out).below ((Below.refl w7.heap.size w7).drew)) HTG.out.2.1 (by omega))
      have hdd : (((d + 1 : Nat) : Int) != ((d + 1 : Nat) : Int)) = false := by simp
      obtain ⟨dd, hdd0⟩ : ∃ dd, dd = d + 1 := ⟨_, rfl⟩
      rw [← hdd0] at HH k5 hdd
      have hd10 : dd ≤ 10 := by omega
      clear HSD hK hS hb7 kS hdd0
      go_wp2_with fail
      go_region_law (first
        | (go_simp
           go_at_call 18
           (with_reducible refine HH.out.mono ?_)
           rintro e w8 ⟨rfl, hb8⟩
           have hb8 := undrew hb8
           have k5n := (hb8.cell (p := ⟨xb, 5, none⟩) hxl).trans k5
           have HB8 := Lib.hid hb8
           clear hb8
           go_wp2_with fail))
      all_goals
        have HR8 := Lib.hid (below_on HR7.out HB8.out)
        have HK8 := Lib.hid (HK.out.below HB8.out)
        clear HH
        have HT8 := Lib.hid (HTG.out.1.below HR8.out)
        obtain ⟨t0, -, -, -, -, -⟩ := HT8.out.cells
        have htl := HT8.out.lt.1
        have HLF := Lib.hid (show ∀ w9, Below w8.heap.size w8 w9 → Calls Try.prog 20 #[.pointer (some ⟨tb, 0, none⟩), .slice C o q] w9 fun e w' => e = .returned (.int .i64 (leafT k d t).1) ∧ Below w9.heap.size w9 w' from fun w9 hb9 => leaf_any (w := w9) (HT8.out.below hb9) HTG.out.2.1 (by omega) q (H.out.2.below (below_on (below_on HBR.out HR8.out) hb9)))
        have HGN := Lib.hid (show ∀ w9, Below w8.heap.size w8 w9 → Calls Try.prog 19 #[.pointer (some ⟨g, 0, none⟩), .int .i64 (leafT k d t).1] w9 (GotN w9 (leafN (leafT k d t))) from fun w9 hb9 => get_node (HT8.out.below hb9).2.1 (by have := lat_lt HLA.out.2.2.2; omega) HLA.out.2.2.2)
        have hlf : (leafN (leafT k d t)).leaf = true := rfl
        clear k5 hdd
        go_wp2_with fail
        go_region_law (first
          | (go_simp
             go_at_call 20
             refine (HLF.out _ (by first | exact (Below.refl w8.heap.size w8).drew | exact ((Below.refl w8.heap.size w8).drew).alloc (Nat.le_refl _) _ | exact ((Below.refl w8.heap.size w8).alloc (Nat.le_refl _) _).drew)).mono ?_
             rintro e w9 ⟨rfl, hb9⟩
             have hB9 : Below w8.heap.size w8 w9 := by first | exact undrew hb9 | exact (((Below.refl w8.heap.size w8).drew).alloc (Nat.le_refl _) _).trans (hb9.mono (by simp)) | exact (((Below.refl w8.heap.size w8).alloc (Nat.le_refl _) _).drew).trans (hb9.mono (by simp))
             have htl9 : tb < w9.heap.size := Nat.lt_of_lt_of_le htl hB9.size
             have t09 := (hB9.cell (p := ⟨tb, 0, none⟩) htl).trans t0
             have HB9 := Lib.hid hB9
             first | (have ZZ := Lib.hid ((hb9.block w8.heap.size (by simp)).trans (heap_alloc_new w8 _))) | skip
             clear hb9 hB9
             go_wp2_with fail)
          | (go_simp
             go_at_call 19
             refine (HGN.out _ (by first | exact HB9.out | exact HB9.out.alloc HB9.out.size _)).mono ?_
             rintro e w10 ⟨hh, rfl, hin, hb10⟩
             have hB10 : Below w9.heap.size w9 w10 := by first | exact hb10 | exact ((Below.refl w9.heap.size w9).alloc (Nat.le_refl _) _).trans (hb10.mono (by simp))
             first | (have Z9 := Lib.hid ((hb10.block w9.heap.size (by simp)).trans (heap_alloc_new w9 _)); obtain ⟨z0, z1, z2, z3, z4, y0, y1, y2, y3, y4⟩ := five Z9.out) | skip
             first | (have Z8 := Lib.hid ((hB10.block w8.heap.size (Array.getElem?_eq_some_iff.1 ZZ.out).1).trans ZZ.out); obtain ⟨z0, z1, z2, z3, z4, y0, y1, y2, y3, y4⟩ := five Z8.out) | skip
             have HB10 := Lib.hid hB10
             have HIN := Lib.hid hin.reads
             clear hin hb10 hB10
             go_wp2_with fail))
        all_goals
          first
            | (obtain ⟨W, hW, hb, hs, hcl⟩ := box5 w10 (.bool true) (.slice hh.A hh.n hh.c) (.slice hh.B hh.m hh.d) (.slice hh.K hh.k hh.e) (.int .i64 (leafN (leafT k d t)).next) 53
               rw [← hW]
               have HW := Lib.hid (And.intro ((HIN.out.keep (below_all hb)).here).1 (below_on (below_on HB9.out HB10.out) hb)))
            | (obtain ⟨W, hW, hcl, ho5⟩ := five_set (.bool true) (.slice hh.A hh.n hh.c) (.slice hh.B hh.m hh.d) (.slice hh.K hh.k hh.e) (.int .i64 (leafN (leafT k d t)).next) Z9.out
               rw [← hW]
               have HW := Lib.hid (And.intro ((HIN.out.keep (ho5.agree (fun b hb e => by have h1 := hb.1; rw [e, alloc_sz] at h1; omega))).here).1 ((below_on HB9.out HB10.out).trans (ho5.below (fun b hb => by rw [hb]; exact HB9.out.size) (below_on HB9.out HB10.out).size)))
               clear z0 z1 z2 z3 z4 y0 y1 y2 y3 y4)
            | (obtain ⟨W, hW, hcl, ho5⟩ := five_set (.bool true) (.slice hh.A hh.n hh.c) (.slice hh.B hh.m hh.d) (.slice hh.K hh.k hh.e) (.int .i64 (leafN (leafT k d t)).next) Z8.out
               rw [← hW]
               have HW := Lib.hid (And.intro ((HIN.out.keep (ho5.agree (fun b hb e => by have h1 := hb.1; rw [e] at h1; have h2 := (Array.getElem?_eq_some_iff.1 ZZ.out).1; omega))).here).1 ((below_on HB9.out HB10.out).trans (ho5.below (fun b hb => by rw [hb]; exact Nat.le_refl _) (below_on HB9.out HB10.out).size)))
               clear z0 z1 z2 z3 z4 y0 y1 y2 y3 y4)
          obtain ⟨n0, n1', -, -, -, -⟩ := five hcl
          have HRW := Lib.hid (below_on HR8.out HW.out.2)
          have hlk := HLA.out.2.2.1
          have hln : (leafT k d t).2.1.length = hh.n := HW.out.1.1
          have HG3 := rget_any q HW.out.1 (H.out.2.below (below_on HBR.out HRW.out)) HLA.out.2.1.1 (small_fit HLA.out.2.1) (by omega)
          have HG3 := Lib.hid HG3
          clear hW hcl t0 t09
          go_wp2_with fail
          refine HG3.out.mono ?_
          rintro e w11 ⟨A6, n6, c6, rfl, -, hb11⟩
          rw [show hasB (leafN (leafT k d t)).pairs k = hb0 from HLX.out]
          have HR11 := Lib.hid (below_on HRW.out hb11)
          have HK11 := Lib.hid ((HK8.out.below HW.out.2).below hb11)
          obtain ⟨B1, e1, B2, e2, B3, e3, -, -, p3, -, -, pp⟩ := HK11.out.lists
          have p3 : w11.cell? ⟨xb, 3, none⟩ = some (.slice B3 (flat d t).length e3) := p3
          rw [hlp] at p3
          have HPS := Lib.hid (pairs_same (c := e3) (d := c1) (show Prs w11 B3 (flat d t).length e3 (flat d t) from pp) (HP.out.here.below HR11.out))
          rw [hlp] at HPS
          clear HG3 hb11 n0 n1' pp
          go_wp2_with fail
          refine HPS.out.mono ?_
          rintro e w12 ⟨rfl, hd12⟩
          have HR12 := Lib.hid (below_on HR11.out (hd12.below _))
          clear HPS hd12 p3
          go_wp2
          go_ret
          exact ⟨rfl, below_on HBR.out HR12.out⟩

theorem tputs_any {w : World} {A C : Option Addr} {n c o : Nat} (m : Int) (q : Nat) {L : List Pr} {k : Ky} (h : Prs w A n c L) (h' : Byt w C o k) :
    Calls Try.prog 3 #[.int .i64 m, .slice A n c, .slice C o q] w fun e w' => e = .returned (.bool true) ∧ Below w.heap.size w w' := by
  by_cases hl : fewB L 200 = false ∨ 100 < o
  · exact tputs_let q m h hl
  · have hf : fewB L 200 = true := by cases hf : fewB L 200 <;> simp_all
    have ho : o ≤ 100 := by omega
    by_cases hm : 3 ≤ m ∧ m ≤ 16
    · obtain ⟨m', rfl⟩ : ∃ m' : Nat, m = (m' : Int) := ⟨m.toNat, by omega⟩
      exact tputs_in q h h' hf ho (by omega) (by omega)
    · exact tputs_out q m h hf ho hm
end Go.Proofs.Ytbpmdjcmmokliaa
