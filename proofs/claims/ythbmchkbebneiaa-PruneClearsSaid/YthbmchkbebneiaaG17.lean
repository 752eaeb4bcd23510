/- The document's own Row with a footprint; trees whose blocks are named. Condition: what came in can be read. The walk of PruneDeletes. Condition: what came in can be read. The deeds that came in: is a pair put, and the pair. No condition. -/
import Derived.Test.YthbmchkbebneiaaG14
import Derived.Test.YthbmchkbebneiaaG15
import Derived.Test.YthbmchkbebneiaaG16
namespace Go.Proofs.Ythbmchkbebneiaa
open Go.RowKit
set_option linter.unusedVariables false
set_option maxRecDepth 100000

theorem few_small {L : List Pr} {m : Nat} (h : fewB L m = true) : Small L ∧ L.length ≤ m := by
  unfold fewB at h
  simp only [Bool.and_eq_true, decide_eq_true_eq] at h
  refine ⟨fun p hp => ?_, h.2⟩
  have := List.all_eq_true.1 h.1 p hp
  unfold shortB at this
  simp only [Bool.and_eq_true, decide_eq_true_eq] at this
  omega
theorem few_short {L : List Pr} {m : Nat} (h : fewB L m = true) : ∀ p ∈ L, p.1.length ≤ 100 ∧ p.2.length ≤ 100 := by
  unfold fewB at h
  simp only [Bool.and_eq_true, decide_eq_true_eq] at h
  intro p hp
  have := List.all_eq_true.1 h.1 p hp
  unfold shortB at this
  simpa only [Bool.and_eq_true, decide_eq_true_eq] using this
theorem bne_same (b : Bool) : (b != b) = false := by cases b <;> rfl
theorem Drawn.bel {w w' : World} (h : Drawn w w') (B : Nat) : Below B w w' := h.below B
theorem below_on {a w w' : World} (h : Below a.heap.size a w) (hb : Below w.heap.size w w') : Below a.heap.size a w' := h.trans (hb.mono h.size)
theorem TrB.lt {B : Nat} {w : World} {tb m : Nat} {P : List Pr} (h : TrB B w tb m P) : B ≤ w.heap.size := by
  obtain ⟨h0, D, h1, h2⟩ := h
  have := h1.lt.1
  omega

/-- A tree whose blocks D names, all of them from B on. -/
structure TreD (B : Nat) (D : Nat → Prop) (w : World) (tb m : Nat) (P : List Pr) : Prop where
  tbn : B ≤ tb
  tre : Tre w D tb m P
  dn : ∀ b, D b → B ≤ b
theorem TreD.b {B : Nat} {D : Nat → Prop} {w : World} {tb m : Nat} {P : List Pr} (h : TreD B D w tb m P) : TrB B w tb m P := ⟨h.tbn, D, h.tre, h.dn⟩
theorem TreD.below {B : Nat} {D : Nat → Prop} {w w' : World} {tb m : Nat} {P : List Pr} (h : TreD B D w tb m P) (hb : Below w.heap.size w w') : TreD B D w' tb m P := ⟨h.tbn, h.tre.below hb, h.dn⟩
theorem newd (w : World) (m : Nat) (h3 : 3 ≤ m) (h16 : m ≤ 16) :
    Calls Try.prog 25 #[.int .i64 m] w fun e w' => ∃ tb D, e = .returned (.tuple #[.pointer (some ⟨tb, 0, none⟩), .nilIface]) ∧ TreD w.heap.size D w' tb m [] ∧ Below w.heap.size w w' :=
  (new_yes w m h3 h16).mono fun e w' ⟨tb, D, h1, h2, h3, h4, h5⟩ => ⟨tb, D, h1, ⟨h3, h2, h4⟩, h5⟩
/-- What else stays while a tree turns. -/
theorem on_put {D D' : Nat → Prop} {tb : Nat} {w w' : World} {P : World → Prop} (h : On (fun b => ¬ D b ∧ b ≠ tb) w P) (ho : Only (fun b => D b ∨ b = tb) w w') (hd : ∀ b, D' b → D b ∨ w.heap.size ≤ b) : On (fun b => ¬ D' b ∧ b ≠ tb) w' P :=
  ((h.now).keep (ho.agree fun b hb hs => by
    rcases hs with hs | hs
    · exact hb.1.1 hs
    · exact hb.1.2 hs)).mono fun b hb => ⟨fun hd' => by
      rcases hd b hd' with h | h
      · exact hb.1.1 h
      · have := hb.2; omega, hb.1.2⟩
theorem on_new {D : Nat → Prop} {tb N : Nat} {w : World} {P : World → Prop} (h : On (fun b => (¬ D b ∧ b ≠ tb) ∨ N ≤ b) w P) (hD : ∀ b, D b → b < N) (ht : tb < N) : On (fun b => ¬ D b ∧ b ≠ tb) w P :=
  h.mono fun b hb => by
    rcases hb with hb | hb
    · exact hb
    · exact ⟨fun hd => by have := hD b hd; omega, fun e => by omega⟩
theorem on_old {B : Nat} {D : Nat → Prop} {tb m : Nat} {w w' : World} {P : List Pr} {A : Option Addr} {n : Nat} {l : Ky} (h : Byt w A n l) (hb : Below w.heap.size w w') (hN : w.heap.size ≤ B) (ht : TreD B D w' tb m P) : On (fun b => ¬ D b ∧ b ≠ tb) w' (Byt · A n l) :=
  ((byt_old h).keep (below_all hb)).mono fun b hb => ⟨fun hd => by have := ht.dn b hd; omega, fun e => by have := ht.tbn; omega⟩
def PutD (B : Nat) (D : Nat → Prop) (w : World) (tb m : Nat) (P : List Pr) (b : Bool) (er : Value) (e : Ending) (w' : World) : Prop :=
  e = .returned (.tuple #[.bool b, er]) ∧ ∃ D', TreD B D' w' tb m P ∧ (∀ b, D' b → D b ∨ w.heap.size ≤ b) ∧ Only (fun b => D b ∨ b = tb) w w' ∧ Below B w w'
theorem putd {B : Nat} {D : Nat → Prop} {w : World} {tb m : Nat} {P : List Pr} (h : TreD B D w tb m P) (hB : B ≤ w.heap.size) {C V : Option Addr} {o p : Nat} (q r : Nat) {k v : Ky} (hk : Byt w C o k) (hv : Byt w V p v) (ho : o ≤ 1000) (hp : p ≤ 1000) :
    Calls Try.prog 10 #[.pointer (some ⟨tb, 0, none⟩), .slice C o q, .slice V p r] w (PutD B D w tb m (putP P k v) (putF P k v) (errV (putE P k v))) := by
  obtain ⟨h0, h1, h2⟩ := h
  exact (tput_any h1 q r hk hv ho hp).mono fun e w' ⟨e1, D', e2, e3, e4⟩ => ⟨e1, D', ⟨h0, e2, fun b hb => (e3 b hb).elim (h2 b) (fun h => Nat.le_trans hB h)⟩, e3, e4, e4.below (fun b hb => hb.elim (h2 b) (fun h => by rw [h]; exact h0)) hB⟩

/-- What putting a pair into few pairs is. -/
theorem put_few {P : List Pr} (hl : P.length < 1000) (k v : Ky) : putP P k v = (if fairB (k, v) then putL P k v else P) ∧ putE P k v = (if fairB (k, v) then 0 else 1) ∧ putF P k v = (fairB (k, v) && !hasB P k) := by
  unfold putP putE putF
  simp [hl]
theorem fair_no {k v : Ky} {o p : Nat} (hk : k.length = o) (hv : v.length = p) (h : fairB (k, v) = false) : mayB k = false ∨ (mayB k = true ∧ 32 < p) := by
  unfold fairB at h
  cases hm : mayB k
  · exact .inl rfl
  · rw [hm] at h
    simp at h
    exact .inr ⟨rfl, by omega⟩
theorem fair_yes {k v : Ky} {p : Nat} (hv : v.length = p) (h : fairB (k, v) = true) : mayB k = true ∧ p ≤ 32 := by
  unfold fairB at h
  simp at h
  exact ⟨h.1, by omega⟩


theorem deld {B : Nat} {D : Nat → Prop} {w : World} {tb m : Nat} {P : List Pr} (h : TreD B D w tb m P) (hB : B ≤ w.heap.size) {C : Option Addr} {o : Nat} (q : Nat) {k : Ky} (hk : Byt w C o k) :
    Calls Try.prog 13 #[.pointer (some ⟨tb, 0, none⟩), .slice C o q] w (PutD B D w tb m (delL P k) (hasB P k) .nilIface) := by
  obtain ⟨h0, h1, h2⟩ := h
  exact (pdel_any h1 q hk).mono fun e w' ⟨e1, D', e2, e3, e4⟩ => ⟨e1, D', ⟨h0, e2, fun b hb => (e3 b hb).elim (h2 b) (fun h => Nat.le_trans hB h)⟩, e3, e4, e4.below (fun b hb => hb.elim (h2 b) (fun h => by rw [h]; exact h0)) hB⟩
theorem prs_old {w : World} {A : Option Addr} {n c : Nat} {L : List Pr} (h : Prs w A n c L) : On (· < w.heap.size) w (Prs · A n c L) := fun w' ha => h.keep ha.1 (fun q hq => World.cell?_of_block (ha.2 q.block hq hq))
theorem on_oldp {B : Nat} {D : Nat → Prop} {tb m : Nat} {w w' : World} {P L : List Pr} {A : Option Addr} {n c : Nat} (h : Prs w A n c L) (hb : Below w.heap.size w w') (hN : w.heap.size ≤ B) (ht : TreD B D w' tb m P) : On (fun b => ¬ D b ∧ b ≠ tb) w' (Prs · A n c L) :=
  ((prs_old h).keep (below_all hb)).mono fun b hb => ⟨fun hd => by have := ht.dn b hd; omega, fun e => by have := ht.tbn; omega⟩

/-- Where the loop that makes a row of any pairs has come to. -/
def RowInvO (w : World) (E : Nat → Prop) (L : List Pr) (j : Nat) (v : Value) (wr : World) : Prop :=
  ∃ A m c, v = .slice A m c ∧ On (fun b => E b ∨ w.heap.size ≤ b) wr (Prs · A m c (rowL (L.take j))) ∧ Below w.heap.size w wr

set_option maxHeartbeats 2000000 in
theorem rrow_on {E : Nat → Prop} {w : World} {A : Option Addr} {n c : Nat} {L : List Pr} (h : On E w (Prs · A n c L)) (hm : Small L) (hn : n ≤ 500) :
    Calls Try.prog 9 #[.slice A n c] w (MadeO w E (rowL L)) := by
  have HL := Lib.hid h.here.len
  have H := Lib.hid h
  have HM := Lib.hid hm
  clear h hm
  go_enter Try.func9, Try.ntmps9
  go_wp2
  go_loopw [3, 4] (fun v i wr => ∃ j : Nat, j ≤ n ∧ i = .int .i64 j ∧ RowInvO w E L j v wr) (fun _ i _ => n - (intOf i).toNat)
  case atStart => exact ⟨0, Nat.zero_le _, rfl, none, 0, 0, rfl, fun v _ => prs_nil v, Below.refl _ _⟩
  case round =>
    obtain ⟨j, hj, rfl, A1, m, c1, rfl, hp, hb⟩ := hrel
    have HP := Lib.hid hp
    have HB := Lib.hid hb
    have hft := row_fit L j (by rw [HL.out]; exact hj)
    have HF := Lib.hid hft.1
    have hm1 : m ≤ j := by rw [← hp.here.len]; exact hft.2
    clear hp hft
    by_cases hlt : j < n
    · have hj' : j < L.length := by rw [HL.out]; exact hlt
      have HST := Lib.hid (row_step L hj')
      have hsm := HM.out _ (gt_mem hj')
      obtain ⟨b, oo, A2, n2, c2, B2, m2, d2, rfl, k0, k1, y1, y2⟩ := prs_pair_on (H.out.keep (below_all hb)) hlt
      have HC := rmay_any c2 y1.here
      have HY := Lib.hid (And.intro y1 y2)
      have hv : fairB (gt L j) = (mayB (gt L j).1 && decide (m2 ≤ 32)) := by unfold fairB; rw [y2.here.1]
      have HV := Lib.hid hv
      have hn2 : n2 ≤ 1000 := by rw [← y1.here.1]; exact hsm.1
      clear hv hsm hb y1 y2 hj'
      cases hmay : mayB (gt L j).1
      · rw [hmay] at HC HV
        have he : rowL (L.take (j + 1)) = rowL (L.take j) := by rw [HST.out, HV.out]; rfl
        have HE := Lib.hid he
        clear he hmay
        go_wp2_with fail
        refine HC.mono ?_
        rintro e w' ⟨rfl, rfl⟩
        go_wp2
        go_roundw
        case rel => exact ⟨j + 1, by omega, by go_num, A1, m, c1, rfl, by rw [HE.out]; exact HP.out, HB.out⟩
        case measure => simp [intOf]; omega
      · rw [hmay] at HC HV
        have HMY := Lib.hid hmay
        clear hmay
        by_cases h32 : m2 ≤ 32
        · have he : rowL (L.take (j + 1)) = putL (rowL (L.take j)) (gt L j).1 (gt L j).2 := by rw [HST.out, HV.out, show decide (m2 ≤ 32) = true by simp [h32]]; rfl
          have HE := Lib.hid he
          have HQ := Lib.hid (rput_on (E := fun b => E b ∨ w.heap.size ≤ b) (w := wr.drew) c2 d2 (HP.out.keep (below_all (Below.refl wr.heap.size wr).drew)) ((HY.out.1.mono (fun b hb => .inl hb)).keep (below_all (Below.refl wr.heap.size wr).drew)) ((HY.out.2.mono (fun b hb => .inl hb)).keep (below_all (Below.refl wr.heap.size wr).drew)) HF.out.1 (small_fit HF.out) hn2 (by omega))
          clear he
          go_wp2_with fail
          refine HC.mono ?_
          rintro e w' ⟨rfl, rfl⟩
          go_wp2
          go_still_tail 11, (by kernel_rfl)
          change wpList _ _ _ _ _ wr.drew
          go_wp2_with fail
          refine HQ.out.mono ?_
          rintro e w3 ⟨A3, n3, c3, rfl, hp3, hb3⟩
          have HP3 := Lib.hid hp3
          have HB3 := Lib.hid (HB.out.drew.trans (hb3.mono HB.out.size))
          have hws := HB.out.size
          clear hp3 hb3
          go_wp2
          go_roundw
          case rel => exact ⟨j + 1, by omega, by go_num, A3, n3, c3, rfl, by
            rw [HE.out]
            exact HP3.out.mono (fun b hb => by
              rcases hb with hb | hb
              · exact hb
              · exact .inr (Nat.le_trans hws hb)), HB3.out⟩
          case measure => simp [intOf]; omega
        · have he : rowL (L.take (j + 1)) = rowL (L.take j) := by rw [HST.out, HV.out, show decide (m2 ≤ 32) = false by simp; omega]; rfl
          have HE := Lib.hid he
          clear he
          go_wp2_with fail
          refine HC.mono ?_
          rintro e w' ⟨rfl, rfl⟩
          go_wp2
          go_roundw
          case rel => exact ⟨j + 1, by omega, by go_num, A1, m, c1, rfl, by rw [HE.out]; exact HP.out, HB.out⟩
          case measure => simp [intOf]; omega
    · have hall : L.take j = L := List.take_of_length_le (by rw [HL.out]; omega)
      rw [hall] at HP
      clear hall
      go_wp2
      go_ret
      exact ⟨A1, m, c1, rfl, HP.out, HB.out⟩

/-- Few pairs, put one by one, are the document's row. -/
theorem made_row {L : List Pr} (hl : L.length ≤ 500) : ∀ i, i ≤ L.length → madeL (L.take i) = rowL (L.take i)
  | 0, _ => rfl
  | i + 1, h => by
    have ih := made_row hl i (by omega)
    have hf := (row_fit L i (by omega)).2
    rw [made_step L (by omega), row_step L (by omega), ih, (put_few (by omega) _ _).1]
theorem made_is {L : List Pr} (hl : L.length ≤ 500) : madeL L = rowL L := by
  have := made_row hl L.length (Nat.le_refl _)
  rwa [List.take_length] at this
end Go.Proofs.Ythbmchkbebneiaa

namespace Go.Proofs.Ythbmchkbebneiaa
open Go.RowKit
set_option linter.unusedVariables false
set_option maxRecDepth 100000

/-- Deeds: is a pair put, or its key deleted? -/
abbrev Dd := Bool × Pr
def gd (L : List Dd) (j : Nat) : Dd := L.getD j (false, ([], []))
def Deeds (w : World) (A : Option Addr) (n : Nat) (L : List Dd) : Prop :=
  L.length = n ∧ n ≤ maxLen ∧ (0 < n → ∃ b o, A = some ⟨b, o, none⟩ ∧ b < w.heap.size ∧ ∀ j, j < n → ∃ A1 n1 c1 B1 m1 d1, w.cell? ⟨b, o + j * 3, none⟩ = some (.bool (gd L j).1) ∧ w.cell? ⟨b, o + j * 3 + 1, none⟩ = some (.slice A1 n1 c1) ∧ w.cell? ⟨b, o + j * 3 + 2, none⟩ = some (.slice B1 m1 d1) ∧ Byt w A1 n1 (gd L j).2.1 ∧ Byt w B1 m1 (gd L j).2.2)
theorem gd_eq {L : List Dd} {i : Nat} (h : i < L.length) : gd L i = L[i] := by
  unfold gd
  rw [List.getD_eq_getElem?_getD, List.getElem?_eq_getElem h]
  rfl
def doD (P : List Pr) (d : Dd) : List Pr := if d.1 then (if fairB d.2 then putL P d.2.1 d.2.2 else P) else delL P d.2.1
def doneL (P : List Pr) (L : List Dd) (i : Nat) : List Pr := (L.take i).foldl doD P
theorem done_step (P : List Pr) (L : List Dd) {i : Nat} (h : i < L.length) : doneL P L (i + 1) = doD (doneL P L i) (gd L i) := by
  unfold doneL
  rw [List.take_succ_eq_append_getElem h, List.foldl_append, gd_eq h]
  rfl
theorem done_len (P : List Pr) (L : List Dd) (hP : Fit P) : ∀ i, i ≤ L.length → Fit (doneL P L i) ∧ (doneL P L i).length ≤ P.length + i
  | 0, _ => ⟨hP, Nat.le_refl _⟩
  | i + 1, h => by
    obtain ⟨h1, h2⟩ := done_len P L hP i (by omega)
    rw [done_step P L (by omega)]
    generalize doneL P L i = Q at h1 h2
    unfold doD
    split
    · split
      · rename_i hf
        refine ⟨h1.put hf, ?_⟩
        have := len_put_is h1.1 (gd L i).2.1 (gd L i).2.2
        split at this <;> omega
      · exact ⟨h1, by omega⟩
    · exact ⟨h1.del _, by have := len_del Q (gd L i).2.1; omega⟩

set_option maxHeartbeats 16000000 in
theorem dels_in {w : World} {A A2 : Option Addr} {n c n2 c2 : Nat} {m : Nat} {L : List Pr} {M : List Dd} (h : Prs w A n c L) (h' : Deeds w A2 n2 M) (hf : fewB L 200 = true) (hn2 : n2 ≤ 150) (h3 : 3 ≤ m) (h16 : m ≤ 16) :
    Calls Try.prog 3 #[.int .i64 m, .slice A n c, .slice A2 n2 c2] w fun e w' => e = .returned (.bool true) ∧ Below w.heap.size w w' := by
  have H := Lib.hid (And.intro h h')
  have HF0 := Lib.hid hf
  have hlen : L.length = n := h.len
  have hn200 : n ≤ 200 := by have := (few_small hf).2; omega
  have HM := Lib.hid (And.intro h3 h16)
  have g1 : decide (150 < (n2 : Int)) = false := by simp; omega
  have g1b : decide (150 < n2) = false := by simp; omega
  clear h h' hf h3 h16
  go_enter Try.func3, Try.ntmps3
  go_wp2_with fail
  refine (up_any _).mono ?_
  rintro e w1 ⟨rfl, hb1⟩
  have HB := Lib.hid hb1
  have HF : Calls Try.prog 7 #[.slice A n c, .int .i64 200] w1 _ := few_any 200 (H.out.1.below hb1)
  rw [HF0.out] at HF
  have HF := Lib.hid HF
  clear hb1
  go_wp2_with fail
  refine HF.out.mono ?_
  rintro e w2 ⟨rfl, rfl⟩
  clear HF
  have HN := made_yes (H.out.1.below HB.out) HM.out.1 HM.out.2
  rw [made_is (by omega)] at HN
  go_wp2_with fail
  refine HN.mono ?_
  rintro e w2 ⟨tb, rfl, ht, hb⟩
  obtain ⟨D0, ht⟩ : ∃ D, TreD w1.heap.size D w2 tb m (rowL L) := by
    obtain ⟨h0, D, h1, h2⟩ := ht
    exact ⟨D, h0, h1, h2⟩
  have HT := Lib.hid ht
  have HB2 := Lib.hid (below_on HB.out hb)
  have HS := Lib.hid HB.out.size
  have HRW := Lib.hid (rrow_on (E := fun b => b < w1.heap.size) (w := w2) (((prs_old (H.out.1.below HB.out))).keep (below_all hb)) (few_small HF0.out).1 (by omega))
  clear HN ht hb
  go_wp2_with fail
  refine HRW.out.mono ?_
  rintro e w3 ⟨A1, n1, c1, rfl, hp, hb⟩
  have HT3 := Lib.hid (HT.out.below hb)
  have HB3 := Lib.hid (below_on HB2.out hb)
  have HP3 := Lib.hid (show On (fun b => ¬ D0 b ∧ b ≠ tb) w3 (Prs · A1 n1 c1 (rowL L)) from hp.mono (fun b hb => by
    have hl := HT.out.tre.lt
    rcases hb with hb | hb
    · exact ⟨fun hd => by have := HT.out.dn b hd; omega, fun e => by have := HT.out.tbn; omega⟩
    · exact ⟨fun hd => by have := hl.2 b hd; omega, fun e => by have := hl.1; omega⟩))
  have hrf := row_fit L L.length (Nat.le_refl _)
  rw [List.take_length] at hrf
  have HRF := Lib.hid hrf
  clear HRW hp hb HT HB2 hrf g1 g1b
  go_wp2_with fail
  go_loopw [10, 11] (fun u x wr => ∃ i : Nat, x = .int .i64 (i : Nat) ∧ i ≤ n2 ∧ ∃ (D : Nat → Prop) (A1 : Option Addr) (n1 c1 : Nat), u = .slice A1 n1 c1 ∧ On (fun b => ¬ D b ∧ b ≠ tb) wr (Prs · A1 n1 c1 (doneL (rowL L) M i)) ∧ TreD w1.heap.size D wr tb m (doneL (rowL L) M i) ∧ Below w.heap.size w wr) (fun _ x _ => n2 + 1 - (intOf x).toNat)
  case atStart => exact ⟨0, rfl, Nat.zero_le _, D0, A1, n1, c1, rfl, HP3.out, HT3.out, HB3.out⟩
  case round =>
    obtain ⟨i, rfl, hi, D, A1, n1, c1, rfl, hp, ht, hb⟩ := hrel
    have HP := Lib.hid hp
    have HT := Lib.hid ht
    have HBR := Lib.hid hb
    have hMl := H.out.2.1
    obtain ⟨hfit, hfl⟩ := done_len (rowL L) M HRF.out.1 i (by omega)
    have hn1 : n1 ≤ 350 := by rw [← hp.here.len]; have := HRF.out.2; omega
    have HFIT := Lib.hid hfit
    clear HP3 HT3 HB3 hp ht hfit hfl
    by_cases hin : i < n2
    case pos =>
      have hinI : (i : Int) < (n2 : Int) := by omega
      obtain ⟨b, oo, rfl, hbl, hat⟩ := H.out.2.2.2 (by omega)
      obtain ⟨A3, n3, c3, B3, m3, d3, k0, k1, k2, y1, y2⟩ := hat i hin
      have HY := Lib.hid (And.intro y1 y2)
      have x0 := (hb.cell (p := ⟨b, oo + i * 3, none⟩) hbl).trans k0
      have x1 := (hb.cell (p := ⟨b, oo + i * 3 + 1, none⟩) hbl).trans k1
      have x2 := (hb.cell (p := ⟨b, oo + i * 3 + 2, none⟩) hbl).trans k2
      have HST := Lib.hid (done_step (rowL L) M (i := i) (by omega))
      clear hb k0 k1 k2 y1 y2 hat hMl
      go_upto_region 11 with fail
      obtain ⟨V, hV, hVB, hVs, hVh⟩ : ∃ V, V = wr.alloc (.cells #[.slice A3 n3 c3, .slice B3 m3 d3] 31) ∧ Below wr.heap.size wr V ∧ V.heap.size = wr.heap.size + 1 ∧ V.heap[wr.heap.size]? = some (.cells #[.slice A3 n3 c3, .slice B3 m3 d3] 31 (0, 0)) := ⟨_, rfl, (Below.refl _ _).alloc (Nat.le_refl _) _, by simp, heap_alloc_new wr _⟩
      rw [← hV]
      have hltr := HT.out.tre.lt
      have hbw : b < wr.heap.size := Nat.lt_of_lt_of_le hbl HBR.out.size
      have HBV := Lib.hid (below_on HBR.out hVB)
      have HTV := Lib.hid (HT.out.below hVB)
      have HPV := Lib.hid (HP.out.keep (below_all hVB))
      have HPB := Lib.hid (And.intro hVh (And.intro hVs hltr))
      have y0 := (hVB.cell (p := ⟨b, oo + i * 3, none⟩) hbw).trans x0
      obtain ⟨p0, p1, -, -⟩ := pair_cells hVh
      have hsz : w1.heap.size ≤ V.heap.size := HTV.out.b.lt
      clear hV hVB hVh x0 x1 x2 hbw hltr
      by_cases hov : 100 < n3 ∨ (n3 ≤ 100 ∧ 100 < m3)
      case pos =>
        clear y0 hsz
        rcases hov with h1 | ⟨h1, h2⟩
        case' inl =>
          have g3 : decide (100 < (n3 : Int)) = true := by simp; omega
          have g3b : decide (100 < n3) = true := by simp; omega
        case' inr =>
          have g3 : decide (100 < (n3 : Int)) = false := by simp; omega
          have g3b : decide (100 < n3) = false := by simp; omega
          have g4 : decide (100 < (m3 : Int)) = true := by simp; omega
          have g4b : decide (100 < m3) = true := by simp; omega
        all_goals
          go_wp2
          go_ret
          exact ⟨rfl, HBV.out⟩
      case neg =>
        have hn3 : n3 ≤ 100 := by omega
        have hm3 : m3 ≤ 100 := by omega
        have g3 : decide (100 < (n3 : Int)) = false := by simp; omega
        have g3b : decide (100 < n3) = false := by simp; omega
        have g4 : decide (100 < (m3 : Int)) = false := by simp; omega
        have g4b : decide (100 < m3) = false := by simp; omega
        clear hov
        obtain ⟨P, hPe⟩ : ∃ P, P = doneL (rowL L) M i := ⟨_, rfl⟩
        rw [← hPe] at HP HT HFIT HTV HPV HST
        cases hput : (gd M i).1
        case' false => skip
        case' true =>
          obtain ⟨pf1, pf2, pf3⟩ := put_few (P := P) (by have := HPV.out.here.len; omega) (gd M i).2.1 (gd M i).2.2
          have HPT := putd (w := V) HTV.out hsz c3 d3 (HY.out.1.below HBV.out) (HY.out.2.below HBV.out) (by omega) (by omega)
          rw [pf1, pf2, pf3] at HPT
          clear pf1 pf2 pf3
          cases hfr : fairB ((gd M i).2.1, (gd M i).2.2)
        case true.false =>
          rw [hput] at y0
          rw [hfr] at HPT
          simp only [Bool.false_and, Bool.false_eq_true, if_false] at HPT
          rw [errV_some (k := 1) (by decide)] at HPT
          have he : doD P (gd M i) = P := by
            unfold doD
            rw [if_pos hput, if_neg (by rw [hfr]; simp)]
          have HE := Lib.hid he
          have HPT := Lib.hid HPT
          clear hfr hput he hPe
          go_wp2_with fail
          refine HPT.out.mono ?_
          rintro e w4 ⟨rfl, D4, ht4, hd4, ho4, hb4⟩
          have HT4 := Lib.hid ht4
          have HB4 := Lib.hid (HBV.out.trans (hb4.mono HS.out))
          have HP4 := Lib.hid (on_put HPV.out ho4 hd4)
          clear HPT ht4 hd4 ho4 hb4 y0 p0 p1 g3 g3b g4 g4b
          go_wp2
          go_roundw
          case rel => exact ⟨i + 1, rfl, by omega, D4, A1, n1, c1, rfl, by rw [HST.out, HE.out]; exact HP4.out, by rw [HST.out, HE.out]; exact HT4.out, HB4.out⟩
          case measure => simp [intOf]; omega
        case true.true =>
          rw [hput] at y0
          rw [hfr] at HPT
          simp only [Bool.true_and, if_true] at HPT
          rw [errV_zero] at HPT
          have he : doD P (gd M i) = putL P (gd M i).2.1 (gd M i).2.2 := by
            unfold doD
            rw [if_pos hput, if_pos hfr]
          have HE := Lib.hid he
          have HPT := Lib.hid HPT
          clear hfr hput he hPe
          go_wp2_with fail
          refine HPT.out.mono ?_
          rintro e w4 ⟨rfl, D4, ht4, hd4, ho4, hb4⟩
          have HT4 := Lib.hid ht4
          have HB4 := Lib.hid (HBV.out.trans (hb4.mono HS.out))
          have HP4 := Lib.hid (on_put HPV.out ho4 hd4)
          have hpb4 := (ho4.block wr.heap.size (by have := HPB.out.2.1; omega) (fun hd => by
            have hl := HPB.out.2.2
            rcases hd with hd | hd
            · have := hl.2 _ hd; omega
            · omega)).trans HPB.out.1
          clear HPT ht4 hd4 ho4 hb4 y0 p0 p1 g3 g3b g4 g4b
          obtain ⟨p0, p1, -, -⟩ := pair_cells hpb4
          have HRP := Lib.hid (rput_on (w := w4) c3 d3 HP4.out (on_old HY.out.1 HB4.out HS.out HT4.out) (on_old HY.out.2 HB4.out HS.out HT4.out) HFIT.out.1 (small_fit HFIT.out) (by omega) (by omega))
          clear hpb4
          go_wp2_with fail
          refine HRP.out.mono ?_
          rintro e w5 ⟨A5, n5, c5, rfl, hp5, hb5⟩
          have hlt4 := HT4.out.tre.lt
          have HP5 := Lib.hid (on_new (N := w4.heap.size) hp5 hlt4.2 hlt4.1)
          have HT5 := Lib.hid (HT4.out.below hb5)
          have HB5 := Lib.hid (below_on HB4.out hb5)
          clear HRP hp5 hb5 hlt4 p0 p1
          go_wp2
          go_roundw
          case rel => exact ⟨i + 1, rfl, by omega, D4, A5, n5, c5, rfl, by rw [HST.out, HE.out]; exact HP5.out, by rw [HST.out, HE.out]; exact HT5.out, HB5.out⟩
          case measure => simp [intOf]; omega
        case false =>
          rw [hput] at y0
          have he : doD P (gd M i) = delL P (gd M i).2.1 := by
            unfold doD
            rw [if_neg (by rw [hput]; simp)]
          have HE := Lib.hid he
          have HGT := Lib.hid (rget_any c3 HPV.out.here (HY.out.1.below HBV.out) HFIT.out.1 (small_fit HFIT.out) (by omega))
          have hd8 : ((i : Int) % 8 == 0) = true ∨ ((i : Int) % 8 == 0) = false := by cases ((i : Int) % 8 == 0) <;> simp
          have HD8 := Lib.hid hd8
          clear hput he hPe hd8
          go_wp2_with fail
          refine HGT.out.mono ?_
          rintro e w4 ⟨A4, n4, c4, rfl, -, hb4⟩
          obtain ⟨bh, hbh⟩ : ∃ bh, bh = hasB P (gd M i).2.1 := ⟨_, rfl⟩
          rw [← hbh]
          have HB4 := Lib.hid (below_on HBV.out hb4)
          have HT4 := Lib.hid (HTV.out.below hb4)
          have HP4 := Lib.hid (HPV.out.keep (below_all hb4))
          have hs4 := hb4.size
          have HPB4 := Lib.hid ((hb4.block wr.heap.size (by have := HPB.out.2.1; omega)).trans HPB.out.1)
          have hsz4 : w1.heap.size ≤ w4.heap.size := HT4.out.b.lt
          have HDL := deld (w := w4) HT4.out hsz4 c3 (HY.out.1.below HB4.out)
          rw [← hbh] at HDL
          have HDL := Lib.hid HDL
          have hne : (bh != bh) = false := bne_same bh
          clear HGT hb4 hbh hsz4 p0 p1 y0 g3 g3b g4 g4b
          obtain ⟨p0, p1, -, -⟩ := pair_cells HPB4.out
          go_wp2_with fail
          refine HDL.out.mono ?_
          rintro e w5 ⟨rfl, D5, ht5, hd5, ho5, hb5⟩
          have HT5 := Lib.hid ht5
          have HB5 := Lib.hid (HB4.out.trans (hb5.mono HS.out))
          have HP5 := Lib.hid (on_put HP4.out ho5 hd5)
          have hpb5 := (ho5.block wr.heap.size (by have := HPB.out.2.1; omega) (fun hd => by
            have hl := HPB.out.2.2
            rcases hd with hd | hd
            · have := hl.2 _ hd; omega
            · omega)).trans HPB4.out
          clear HDL ht5 hd5 ho5 hb5 p0 p1 hs4
          obtain ⟨p0, p1, -, -⟩ := pair_cells hpb5
          have HRD := Lib.hid (rdel_on (w := w5) c3 HP5.out (HY.out.1.below HB5.out) (by omega))
          clear hpb5
          go_wp2_with fail
          refine HRD.out.mono ?_
          rintro e w6 ⟨A6, n6, c6, rfl, hp6, hb6⟩
          have hlt5 := HT5.out.tre.lt
          have HP6 := Lib.hid (on_new (N := w5.heap.size) hp6 hlt5.2 hlt5.1)
          have HT6 := Lib.hid (HT5.out.below hb6)
          have HB6 := Lib.hid (below_on HB5.out hb6)
          clear HRD hp6 hb6 hlt5 p0 p1
          rcases HD8.out with hd | hd
          · have HSN := Lib.hid (soundb HT6.out.b)
            go_wp2_with fail
            refine HSN.out.mono ?_
            rintro e w7 ⟨xb, rfl, hb7, -, -⟩
            have HB7 := Lib.hid (below_on HB6.out hb7)
            have HT7 := Lib.hid (HT6.out.below hb7)
            have HP7 := Lib.hid (HP6.out.keep (below_all hb7))
            clear HSN hb7 hd hne
            go_wp2
            go_roundw
            case rel => exact ⟨i + 1, rfl, by omega, D5, A6, n6, c6, rfl, by rw [HST.out, HE.out]; exact HP7.out, by rw [HST.out, HE.out]; exact HT7.out, HB7.out⟩
            case measure => simp [intOf]; omega
          · go_wp2
            clear hd hne
            go_roundw
            case rel => exact ⟨i + 1, rfl, by omega, D5, A6, n6, c6, rfl, by rw [HST.out, HE.out]; exact HP6.out, by rw [HST.out, HE.out]; exact HT6.out, HB6.out⟩
            case measure => simp [intOf]; omega
    case neg =>
      have hinI : ¬ ((i : Int) < (n2 : Int)) := by omega
      have HSN := Lib.hid (soundb HT.out.b)
      clear hb hMl
      go_wp2_with fail
      refine HSN.out.mono ?_
      rintro e w4 ⟨xb, rfl, hb4, ⟨A4, n4, c4, kx, hp4⟩, -⟩
      have HT4 := Lib.hid (HT.out.below hb4)
      have HB4 := Lib.hid (below_on HBR.out hb4)
      have HP4 := Lib.hid (HP.out.keep (below_all hb4))
      have HPS := Lib.hid (pairs_same hp4 HP4.out.here)
      clear HSN hb4 hp4
      go_wp2_with fail
      refine HPS.out.mono ?_
      rintro e w5 ⟨rfl, hd5⟩
      have hb5 := hd5.below w4.heap.size
      have HT5 := Lib.hid (HT4.out.below hb5)
      have HB5 := Lib.hid (below_on HB4.out hb5)
      have HP5 := Lib.hid (HP4.out.keep (below_all hb5))
      have HPR := Lib.hid (pairsb HT5.out.b)
      clear HPS hd5 hb5 kx
      go_wp2_with fail
      refine HPR.out.mono ?_
      rintro e w6 ⟨A6, n6, c6, rfl, hp6, hb6⟩
      have HB6 := Lib.hid (below_on HB5.out hb6)
      have HPS := Lib.hid (pairs_same hp6 (HP5.out.keep (below_all hb6)).here)
      clear HPR hp6 hb6
      go_wp2_with fail
      refine HPS.out.mono ?_
      rintro e w7 ⟨rfl, hd7⟩
      have HB7 := Lib.hid (below_on HB6.out (hd7.below w6.heap.size))
      clear HPS hd7
      go_wp2
      go_ret
      exact ⟨rfl, HB7.out⟩

/-- Where nothing is asked: no such tree, too many pairs, too many deeds. -/
theorem dels_let {w : World} {A A2 : Option Addr} {n c n2 c2 : Nat} (m : Int) {L : List Pr} (h : Prs w A n c L) (hl : ¬ (3 ≤ m ∧ m ≤ 16) ∨ fewB L 200 = false ∨ 150 < n2) :
    Calls Try.prog 3 #[.int .i64 m, .slice A n c, .slice A2 n2 c2] w fun e w' => e = .returned (.bool true) ∧ Below w.heap.size w w' := by
  have HUP := up_any w
  have H := Lib.hid h
  by_cases hm : 3 ≤ m ∧ m ≤ 16
  case neg =>
    have HMN := Lib.hid (fun w => made_no (w := w) (A := A) (n := n) (c := c) m hm)
    have HFW := Lib.hid (show ∀ w1, Below w.heap.size w w1 → Calls Try.prog 7 #[.slice A n c, .int .i64 200] w1 fun e w' => e = .returned (.bool (fewB L 200)) ∧ w1 = w' from fun w1 hb => few_any 200 (H.out.below hb))
    clear hm hl h
    go_enter Try.func3, Try.ntmps3
    go_wp2_with fail
    refine HUP.mono ?_
    rintro e w1 ⟨rfl, hb1⟩
    have HB := Lib.hid hb1
    have HFX := HFW.out w1 hb1
    generalize fewB L 200 = fb at HFX
    clear hb1 HFW
    go_wp2_with fail
    refine HFX.mono ?_
    rintro e w2 ⟨rfl, rfl⟩
    clear HFX
    go_wp2_with fail
    refine (HMN.out _).mono ?_
    rintro e w2 ⟨rfl, rfl⟩
    go_wp2
    go_ret
    exact ⟨rfl, HB.out⟩
  case pos =>
    have hl2 : fewB L 200 = false ∨ (fewB L 200 = true ∧ 150 < n2) := by
      cases hf : fewB L 200
      · exact .inl rfl
      · rcases hl with h | h | h
        · exact absurd hm h
        · exact absurd (hf.symm.trans h) (by decide)
        · exact .inr ⟨rfl, h⟩
    obtain ⟨m', rfl⟩ : ∃ m' : Nat, m = (m' : Int) := ⟨m.toNat, by omega⟩
    have h3 : 3 ≤ m' := by omega
    have h16 : m' ≤ 16 := by omega
    have HMY := Lib.hid (fun w1 (hb : Below w.heap.size w w1) => made_yes (w := w1) (H.out.below hb) h3 h16)
    have HFW := Lib.hid (show ∀ w1, Below w.heap.size w w1 → Calls Try.prog 7 #[.slice A n c, .int .i64 200] w1 fun e w' => e = .returned (.bool (fewB L 200)) ∧ w1 = w' from fun w1 hb => few_any 200 (H.out.below hb))
    clear hm h h3 h16 hl
    rcases hl2 with hf | ⟨hf, hz⟩
    case' inl => skip
    case' inr =>
      have g1 : decide (150 < (n2 : Int)) = true := by simp; omega
      have g1b : decide (150 < n2) = true := by simp; omega
    all_goals
      rw [hf] at HFW
      clear hf
      go_enter Try.func3, Try.ntmps3
      go_wp2_with fail
      refine HUP.mono ?_
      rintro e w1 ⟨rfl, hb1⟩
      have HB := Lib.hid hb1
      have HFX := HFW.out w1 hb1
      clear hb1 HFW
      go_wp2_with fail
      refine HFX.mono ?_
      rintro e w2 ⟨rfl, rfl⟩
      clear HFX
      go_wp2_with fail
      refine (HMY.out _ HB.out).mono ?_
      rintro e w2 ⟨tb, rfl, -, hb2⟩
      have HB2 := Lib.hid (below_on HB.out hb2)
      clear hb2
      go_wp2
      go_ret
      exact ⟨rfl, HB2.out⟩

theorem dels_any {w : World} {A A2 : Option Addr} {n c n2 : Nat} (c2 : Nat) (m : Int) {L : List Pr} {M : List Dd} (h : Prs w A n c L) (h' : Deeds w A2 n2 M) :
    Calls Try.prog 3 #[.int .i64 m, .slice A n c, .slice A2 n2 c2] w fun e w' => e = .returned (.bool true) ∧ Below w.heap.size w w' := by
  by_cases hl : ¬ (3 ≤ m ∧ m ≤ 16) ∨ fewB L 200 = false ∨ 150 < n2
  · exact dels_let m h hl
  · have hf : fewB L 200 = true := by cases hf : fewB L 200 <;> simp_all
    have hm : 3 ≤ m ∧ m ≤ 16 := Classical.byContradiction fun hh => hl (.inl hh)
    have hz : ¬ 150 < n2 := fun hh => hl (.inr (.inr hh))
    obtain ⟨m', rfl⟩ : ∃ m' : Nat, m = (m' : Int) := ⟨m.toNat, by omega⟩
    exact dels_in h h' hf (by omega) (by omega) (by omega)
end Go.Proofs.Ythbmchkbebneiaa

namespace Go.Proofs.Ythbmchkbebneiaa
open Go.ChangeShapes Go.WideShapes Go.ChangeAt Go.RowKit Go.Deep
set_option linter.unusedVariables false

theorem two_of {cs : List Value} (h : cs.length = 2) : ∃ a b, cs = [a, b] := by
  match cs, h with
  | [a, b], _ => exact ⟨a, b, rfl⟩
theorem three_of {cs : List Value} (h : cs.length = 3) : ∃ a b c, cs = [a, b, c] := by
  match cs, h with
  | [a, b, c], _ => exact ⟨a, b, c, rfl⟩
/-- What holds of something at each place holds of a list's. -/
theorem list_of2 {T : Type} (d : T) {Q : Nat → T → Prop} (n : Nat) (h : ∀ j, j < n → ∃ p, Q j p) : ∃ L : List T, L.length = n ∧ ∀ j, j < n → Q j (L.getD j d) := by
  induction n with
  | zero => exact ⟨[], rfl, fun j hj => absurd hj (by omega)⟩
  | succ n ih =>
    obtain ⟨L, h1, h2⟩ := ih (fun j hj => h j (by omega))
    obtain ⟨p, hp⟩ := h n (by omega)
    refine ⟨L ++ [p], by simp [h1], fun j hj => ?_⟩
    rw [List.getD_eq_getElem?_getD]
    rcases Nat.lt_succ_iff_lt_or_eq.1 hj with hj | rfl
    · rw [List.getElem?_append_left (by omega), ← List.getD_eq_getElem?_getD]
      exact h2 j hj
    · rw [List.getElem?_append_right (by omega), h1]
      simpa using hp

section
variable {H : Type} {enc : TypeId × Value → H} {w : World} {base : Nat} {held : Bool}
/-- A pair's two cells that came in. -/
theorem came_pair {fuel : Nat} {a b : Value} {x : DataW H × List MemPlace} (h : DataW.trod enc Try.prog w base (fun _ => true) held fuel 31 [a, b] = some x) :
    ∃ A n c B m d, ∃ p : Pr, a = .slice A n c ∧ b = .slice B m d ∧ Byt w A n p.1 ∧ Byt w B m p.2 := by
  obtain ⟨ys, n', _, _, _, hyl, hf⟩ := DataW.trod_struct Try.underlying31 h
  have c1 : Try.prog.cellsOf 29 = 1 := by kernel_rfl
  have hy : ∀ j, j < 2 → ∃ y, ys[j]? = some y := fun j hj => ⟨ys[j]'(by rw [hyl]; exact hj), List.getElem?_eq_getElem _⟩
  obtain ⟨y0, e0⟩ := hy 0 (by omega)
  obtain ⟨y1, e1⟩ := hy 1 (by omega)
  have h0 : DataW.trod enc Try.prog w base (fun _ => true) held n' 29 (([a, b].drop 0).take (Try.prog.cellsOf 29)) = some y0 := (hf 0 _ rfl).trans e0
  rw [c1] at h0
  have h1 : DataW.trod enc Try.prog w base (fun _ => true) held n' 29 (([a, b].drop 1).take (Try.prog.cellsOf 29)) = some y1 := (hf 1 _ rfl).trans e1
  rw [c1] at h1
  obtain ⟨A, n, c, l, rfl, b1⟩ := came h0
  obtain ⟨B, m, d, k, rfl, b2⟩ := came h1
  exact ⟨A, n, c, B, m, d, (l, k), rfl, rfl, b1, b2⟩

/-- The deeds that came in. -/
theorem came_deeds {fuel : Nat} {v : Value} {x : DataW H × List MemPlace} (h : DataW.trod enc Try.prog w base (fun _ => true) held fuel 23 [v] = some x) :
    ∃ A n c M, v = .slice A n c ∧ Deeds w A n M := by
  rcases open_slice Try.underlying23 h with ⟨hcs, _⟩ | ⟨a, n, c, m, n1, D, Pl, hcs, _, hl, hm, hmm, _, hi⟩
  · simp at hcs
    exact ⟨none, 0, 0, [], hcs, rfl, Nat.zero_le _, fun h => absurd h (by omega)⟩
  · simp at hcs
    rw [show Try.prog.cellsOf 33 = 3 by kernel_rfl] at hi
    obtain ⟨b, o, s⟩ := a
    have hat0 : ∀ j, j < n → ∃ dd : Dd, ∃ A1 n1 c1 B1 m1 d1, (∀ r u, r < 3 → [Value.bool dd.1, .slice A1 n1 c1, .slice B1 m1 d1][r]? = some u → w.cell? ((⟨b, o, s⟩ : Addr).add (j * 3 + r)) = some u) ∧ Byt w A1 n1 dd.2.1 ∧ Byt w B1 m1 dd.2.2 := fun j hj => by
      have him : j < m := by rw [hmm]; split <;> omega
      obtain ⟨cs', hc, ht'⟩ := hi j him
      obtain ⟨_, hcl, hat⟩ := World.cells?_some hc
      obtain ⟨u0, u1, u2, rfl⟩ := three_of hcl
      obtain ⟨ys, n', _, _, _, hyl, hf⟩ := DataW.trod_struct Try.underlying33 ht'
      have c5 : Try.prog.cellsOf 4 = 1 := by kernel_rfl
      have c6 : Try.prog.cellsOf 31 = 2 := by kernel_rfl
      have hy : ∀ j, j < 2 → ∃ y, ys[j]? = some y := fun j hj => ⟨ys[j]'(by rw [hyl]; exact hj), List.getElem?_eq_getElem _⟩
      obtain ⟨y0, e0⟩ := hy 0 (by omega)
      obtain ⟨y1, e1⟩ := hy 1 (by omega)
      have h0 : DataW.trod enc Try.prog w base (fun _ => true) held n' 4 (([u0, u1, u2].drop 0).take (Try.prog.cellsOf 4)) = some y0 := (hf 0 _ rfl).trans e0
      rw [c5] at h0
      have h1 : DataW.trod enc Try.prog w base (fun _ => true) held n' 31 (([u0, u1, u2].drop 1).take (Try.prog.cellsOf 31)) = some y1 := (hf 1 _ rfl).trans e1
      rw [c6] at h1
      obtain ⟨bl, q0, _⟩ := DataW.trod_bool Try.underlying4 h0
      obtain ⟨A1, n1, c1, B1, m1, d1, p, rfl, rfl, r1, r2⟩ := came_pair h1
      simp at q0
      subst q0
      refine ⟨(bl, p), A1, n1, c1, B1, m1, d1, fun r u hr hu => ?_, r1, r2⟩
      rw [← add_add, hat r hr, hu]
    rcases Nat.eq_zero_or_pos n with h0 | h0
    · subst h0
      exact ⟨_, 0, c, [], hcs, rfl, Nat.zero_le _, fun h => absurd h (by omega)⟩
    · obtain rfl : s = none := by
        obtain ⟨dd, A1, n1, c1, B1, m1, d1, hu, _⟩ := hat0 0 h0
        simpa [Addr.add] using World.cell?_spot (hu 0 _ (by omega) rfl)
      have hb : b < w.heap.size := by
        obtain ⟨dd, A1, n1, c1, B1, m1, d1, hu, _⟩ := hat0 0 h0
        have := World.block_lt_of_cell? w _ (hu 0 _ (by omega) rfl)
        rwa [add_block] at this
      obtain ⟨M, h1, h2⟩ := list_of2 (T := Dd) (false, ([], [])) n hat0
      refine ⟨_, n, c, M, hcs, h1, Nat.le_trans hl hm, fun _ => ⟨b, o, rfl, hb, fun j hj => ?_⟩⟩
      obtain ⟨A1, n1, c1, B1, m1, d1, hu, r1, r2⟩ := h2 j hj
      have hc : ∀ r u, r < 3 → [Value.bool (gd M j).1, .slice A1 n1 c1, .slice B1 m1 d1][r]? = some u → w.cell? ⟨b, o + j * 3 + r, none⟩ = some u := fun r u hr e => by
        have := hu r u hr e
        rw [add_lit, ← Nat.add_assoc] at this
        exact this
      exact ⟨A1, n1, c1, B1, m1, d1, hc 0 _ (by omega) rfl, hc 1 _ (by omega) rfl, hc 2 _ (by omega) rfl, r1, r2⟩
end
end Go.Proofs.Ythbmchkbebneiaa
