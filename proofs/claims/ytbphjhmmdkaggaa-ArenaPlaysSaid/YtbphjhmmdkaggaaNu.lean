/- The law's pick; an arena of one's own, whatever its blocks; the law's head (the document's example): it returns true; nothing that was there is changed. No condition. -/
import Derived.Test.YtbphjhmmdkaggaaNm
namespace Go.Proofs.Ytbphjhmmdkaggaa
open Go.RowKit
set_option linter.unusedVariables false

/-- What pick takes of a raw number, modulo m. -/
def pk (c m : Int) : Int := (if c < 0 then -(c + 1) else c) % m

theorem pk_lt (c m : Int) (hm : 0 < m) : 0 ≤ pk c m ∧ pk c m < m := by
  unfold pk
  exact ⟨Int.emod_nonneg _ (by omega), Int.emod_lt_of_pos _ hm⟩

set_option maxHeartbeats 400000 in
theorem pick_any (c m r : Int) (w : World) (h1 : -9223372036854775808 ≤ c) (h2 : c ≤ 9223372036854775807) (hm : 1 ≤ m) (hm2 : m ≤ 1000) (hr : pk c m = r) :
    Calls Try.prog 9 #[.int .i64 c, .int .i64 m] w fun e w' => e = .returned (.int .i64 r) ∧ w = w' := by
  subst hr
  by_cases hc : c < 0
  · have hv : -(c + 1).tmod m = pk c m := by
      unfold pk
      rw [if_pos hc, ← Int.neg_tmod, Int.tmod_eq_emod_of_nonneg (by omega)]
    have HV := Lib.hid hv
    clear hv
    go_enter Try.func9, Try.ntmps9
    go_wp2
    go_ret
    exact ⟨ret_int HV.out, rfl⟩
  · have hv : c % m = pk c m := by
      unfold pk
      rw [if_neg hc]
    have HV := Lib.hid hv
    clear hv
    go_enter Try.func9, Try.ntmps9
    go_wp2
    go_ret
    exact ⟨ret_int HV.out, rfl⟩

/-- An arena all of whose blocks are from B on. -/
def ArB (B : Nat) (w : World) (g : Nat) (L : List (Option Nd)) (F : List Nat) : Prop := ∃ D, Ar w D g L F ∧ ∀ b, D b → B ≤ b
theorem Turn.arb {B : Nat} {w w' : World} {D : Nat → Prop} {g : Nat} {L : List (Option Nd)} {F : List Nat} (h : Turn w D g L F w') (hD : ∀ b, D b → B ≤ b) (hB : B ≤ w.heap.size) : ArB B w' g L F ∧ Below B w w' := by
  obtain ⟨D', ha, hd, ho⟩ := h
  exact ⟨⟨D', ha, fun b hb => (hd b hb).elim (hD b) (fun h => Nat.le_trans hB h)⟩, ho.below hD hB⟩

theorem new_arb (w : World) : Calls Try.prog 6 #[] w fun e w' => e = .returned (.pointer (some ⟨w.heap.size, 0, none⟩)) ∧ ArB w.heap.size w' w.heap.size [] [] ∧ Below w.heap.size w w' :=
  (new_any w).mono fun e w' ⟨h1, h2, _, h4⟩ => ⟨h1, ⟨_, h2, fun b hb => by rw [hb]; exact Nat.le_refl _⟩, h4⟩
theorem nil_on (C : Nat → Prop) (w : World) (lf : Bool) (nx : Int) : On C w (NdR · nh0 ⟨lf, [], [], [], nx⟩) := fun w' _ => ⟨prs_nil w', kys_nil w', ins_nil w'⟩
theorem nil_small (lf : Bool) (nx : Int) : SmallN ⟨lf, [], [], [], nx⟩ := ⟨Nat.zero_le _, (fun p hp => by cases hp), Nat.zero_le _, (fun j hj => absurd hj (Nat.not_lt_zero _)), Nat.zero_le _⟩

theorem make_new_arb {B : Nat} {w : World} {g : Nat} {L : List (Option Nd)} (h : ArB B w g L []) (hB : B ≤ w.heap.size) (hN : L.length ≤ 10000) (lf : Bool) (nx : Int) :
    Calls Try.prog 10 #[.pointer (some ⟨g, 0, none⟩), .agg #[.bool lf, .slice none 0 0, .slice none 0 0, .slice none 0 0, .int .i64 nx]] w fun e w' =>
      e = .returned (.int .i64 L.length) ∧ ArB B w' g (L ++ [some ⟨lf, [], [], [], nx⟩]) [] ∧ Below B w w' := by
  obtain ⟨D, h, hD⟩ := h
  exact (make_new h hN (nil_on (fun _ => True) w lf nx).here (nil_small lf nx)).mono fun e w' ⟨h1, h2⟩ => ⟨h1, h2.arb hD hB⟩
theorem make_pop_arb {B : Nat} {w : World} {g k : Nat} {L : List (Option Nd)} {F : List Nat} (h : ArB B w g L (F ++ [k])) (hB : B ≤ w.heap.size) (hN : L.length ≤ 10000) (hM : F.length ≤ 10000) (lf : Bool) (nx : Int) :
    Calls Try.prog 10 #[.pointer (some ⟨g, 0, none⟩), .agg #[.bool lf, .slice none 0 0, .slice none 0 0, .slice none 0 0, .int .i64 nx]] w fun e w' =>
      e = .returned (.int .i64 k) ∧ ArB B w' g (L.set k (some ⟨lf, [], [], [], nx⟩)) F ∧ Below B w w' := by
  obtain ⟨D, h, hD⟩ := h
  exact (make_pop h hN hM (nil_on _ w lf nx) (nil_small lf nx)).mono fun e w' ⟨h1, h2⟩ => ⟨h1, h2.arb hD hB⟩
theorem free_arb {B : Nat} {w : World} {g : Nat} {L : List (Option Nd)} {F : List Nat} (h : ArB B w g L F) (hB : B ≤ w.heap.size) (hF : F.length ≤ 10000) (i : Int) (hi : i ≤ 9223372036854775807) :
    Calls Try.prog 15 #[.pointer (some ⟨g, 0, none⟩), .int .i64 i] w fun e w' =>
      e = .returned (errV (if usedB L i then 0 else 3)) ∧ ArB B w' g (if usedB L i then L.set i.toNat none else L) (if usedB L i then F ++ [i.toNat] else F) ∧ Below B w w' := by
  obtain ⟨D, h, hD⟩ := h
  exact (free_any h i hi hF).mono fun e w' ⟨h1, h2⟩ => ⟨h1, h2.arb hD hB⟩
theorem below_drawn {B : Nat} {w w' : World} (h : Drawn w w') : Below B w w' := by
  obtain ⟨d, rfl⟩ := h
  exact below_drewN (Below.refl _ _) d
theorem ArB.below {B : Nat} {w w' : World} {g : Nat} {L : List (Option Nd)} {F : List Nat} (h : ArB B w g L F) (hb : Below w.heap.size w w') : ArB B w' g L F := by
  obtain ⟨D, h, hD⟩ := h
  exact ⟨D, h.keep (below_all hb), hD⟩
theorem used_arb {B : Nat} {w : World} {g : Nat} {L : List (Option Nd)} {F : List Nat} (h : ArB B w g L F) :
    Calls Try.prog 18 #[.pointer (some ⟨g, 0, none⟩)] w fun e w' => e = .returned (.int .i64 (L.length - F.length)) ∧ ArB B w' g L F ∧ Below w.heap.size w w' := by
  have hh := h
  obtain ⟨D, h, hD⟩ := h
  exact (used_any h).mono fun e w' ⟨h1, h2⟩ => ⟨h1, hh.below (below_drawn h2), below_drawn h2⟩
theorem len_arb {B : Nat} {w : World} {g : Nat} {L : List (Option Nd)} {F : List Nat} (h : ArB B w g L F) :
    Calls Try.prog 19 #[.pointer (some ⟨g, 0, none⟩)] w fun e w' => e = .returned (.int .i64 L.length) ∧ w = w' := by
  obtain ⟨D, h, hD⟩ := h
  exact len_any h

theorem usedB_some {L : List (Option Nd)} {k : Nat} {x : Nd} (h : lat L k = some x) : usedB L (k : Int) = true := by unfold usedB; simp [h]
theorem usedB_none {L : List (Option Nd)} {k : Nat} (h : lat L k = none) : usedB L (k : Int) = false := by unfold usedB; simp [h]

set_option maxRecDepth 100000 in
set_option maxHeartbeats 2000000 in
theorem up_any (w : World) : Calls Try.prog 5 #[] w fun e w' => e = .returned (.bool true) ∧ Below w.heap.size w w' := by
  have HE := Lib.hid eql_err
  go_enter Try.func5, Try.ntmps5
  go_wp2_with fail
  refine (new_arb _).mono ?_
  rintro e w1 ⟨rfl, ha1, hb1⟩
  have HA1 := Lib.hid ha1
  have HB1 := Lib.hid hb1
  clear ha1 hb1
  go_wp2_with fail
  refine (make_new_arb HA1.out HB1.out.size (by simp) true 0).mono ?_
  rintro e w2 ⟨rfl, ha2, hb2⟩
  have HA2 := Lib.hid ha2
  have HB2 := Lib.hid (HB1.out.trans hb2)
  clear ha2 hb2 HA1 HB1
  go_wp2_with fail
  have hF := free_arb HA2.out HB2.out.size (by simp) (0 : Int) (by omega)
  rw [show usedB ([] ++ [some ⟨true, [], [], [], 0⟩]) (0 : Int) = true from rfl] at hF
  refine hF.mono ?_
  rintro e w3 ⟨rfl, ha3, hb3⟩
  have HA3 := Lib.hid (show ArB w.heap.size w3 w.heap.size [none] [0] from ha3)
  have HB3 := Lib.hid (HB2.out.trans hb3)
  clear hF ha3 hb3 HA2 HB2
  go_wp2_with fail
  have hF := free_arb HA3.out HB3.out.size (by simp) (0 : Int) (by omega)
  rw [show usedB [none] (0 : Int) = false from rfl] at hF
  refine hF.mono ?_
  rintro e w4 ⟨rfl, ha4, hb4⟩
  have HA4 := Lib.hid (show ArB w.heap.size w4 w.heap.size [none] ([] ++ [0]) from ha4)
  have HB4 := Lib.hid (HB3.out.trans hb4)
  clear hF ha4 hb4 HA3 HB3
  go_wp2_with fail
  refine (make_pop_arb HA4.out HB4.out.size (by simp) (by simp) false 7).mono ?_
  rintro e w5 ⟨rfl, ha5, hb5⟩
  have HA5 := Lib.hid (show ArB w.heap.size w5 w.heap.size [some ⟨false, [], [], [], 7⟩] [] from ha5)
  have HB5 := Lib.hid (HB4.out.trans hb5)
  clear ha5 hb5 HA4 HB4
  go_wp2_with fail
  obtain ⟨D, hD, hDD⟩ := HA5.out
  refine (get_yes hD 0 (x := ⟨false, [], [], [], 7⟩) rfl).mono ?_
  rintro e w6 ⟨h, rfl, hon, hb6, -⟩
  have HA6 := Lib.hid (HA5.out.below hb6)
  have HB6 := Lib.hid (HB5.out.trans (hb6.mono HB5.out.size))
  rw [show gotNd [some ⟨false, [], [], [], 7⟩] ((0 : Nat) : Int) = ⟨false, [], [], [], 7⟩ from rfl, show usedB [some ⟨false, [], [], [], 7⟩] ((0 : Nat) : Int) = true from rfl]
  clear hD hDD hon hb6 HA5 HB5
  have he := HE.out
  rw [errV_zero, errV_some (show (3 : Int) ≠ 0 by decide)]
  have B6 := Lib.hid (show Below w6.heap.size w6 (w6.alloc (.cells #[.bool false, .slice h.A h.n h.c, .slice h.B h.m h.d, .slice h.K h.k h.e, .int .i64 7] 35)) from (Below.refl _ _).alloc (Nat.le_refl _) _)
  go_wp2_with fail
  refine (used_arb (HA6.out.below B6.out)).mono ?_
  rintro e w7 ⟨rfl, ha7, hb7⟩
  have HB7 := Lib.hid ((HB6.out.trans (B6.out.mono HB6.out.size)).trans (hb7.mono (Nat.le_trans HB6.out.size B6.out.size)))
  clear ha7 hb7 HA6 HB6 B6 he
  go_wp2
  go_ret
  exact ⟨rfl, HB7.out⟩
end Go.Proofs.Ytbphjhmmdkaggaa
