/- Contracts of slices.Contains (numbers), of package slot's turn, Claim and Redirect, and of the document's own Turn. Condition: slots of which there are at most 32, their states 0 to 4. -/
import Derived.Test.YtojofhmhmcchnaaZc
namespace Go.Proofs.Ytojofhmhmcchnaa
open Go.RowKit
set_option linter.unusedVariables false
set_option maxRecDepth 100000

def hasI (M : Nat → Int) (m : Nat) (x : Int) : Bool := decide (0 ≤ fst (fun k => M k == x) m)
set_option maxHeartbeats 2000000 in
theorem index_int {w : World} {f m : Nat} {M : Nat → Int} (x : Int) (hm : m ≤ 2) (h : ∀ j, j < m → w.cell? ⟨f, j, none⟩ = some (.int .i64 (M j))) :
    Calls Try.prog 48 #[.slice (some ⟨f, 0, none⟩) m m, .int .i64 x] w fun e w' => e = .returned (.int .i64 (fst (fun k => M k == x) m)) ∧ w = w' := by
  have H := Lib.hid h
  obtain ⟨P, hP⟩ : ∃ P : Nat → Bool, P = fun k => M k == x := ⟨_, rfl⟩
  rw [← hP]
  have HPE := Lib.hid (show ∀ j, (M j == x) = P j from fun j => by rw [hP])
  have HF := Lib.hid (And.intro (fun (j : Nat) (h1 : P j = true) (h2 : ∀ k, k < j → P k = false) (h3 : j < m) => fst_at h1 h2 h3) (fun (h1 : ∀ k, k < m → P k = false) => fst_no h1))
  generalize fst P m = res at HF ⊢
  clear h hP
  go_enter Try.func48, Try.ntmps48
  go_wp2
  go_loop [8] (fun i => ∃ j : Nat, j ≤ m ∧ i = .int .i64 j ∧ Hid (∀ k, k < j → P k = false)) (fun i => m - (intOf i).toNat)
  case atStart => exact ⟨0, Nat.zero_le _, rfl, Lib.hid (fun k hk => absurd hk (by omega))⟩
  case round =>
    obtain ⟨j, hj, rfl, HI⟩ := hrel
    by_cases hlt : j < m
    · have x0 := H.out j hlt
      have HJ := Lib.hid (And.intro (HF.out.1 j) (show ∀ k, k < j + 1 → k < j ∨ k = j from fun k hk => by omega))
      have hpe := HPE.out j
      have HX := Lib.hid (show (x == M j) = P j by rw [← hpe, Bool.eq_iff_iff]; simp; exact eq_comm)
      clear hpe
      generalize M j = y at x0 HX
      cases hz : P j
      · rw [hz] at HX
        have HZ := Lib.hid hz
        have hzx := HX.out
        clear hz
        go_wp2
        go_round
        case rel => exact ⟨j + 1, by omega, by go_num, Lib.hid (fun k hk => by
          rcases HJ.out.2 k hk with hk | rfl
          · exact HI.out k hk
          · exact HZ.out)⟩
        case measure => simp [intOf]; omega
      · rw [hz] at HX
        have HZ := Lib.hid hz
        have hzx := HX.out
        clear hz
        go_wp2
        go_ret
        exact ⟨ret_int (HJ.out.1 HZ.out HI.out hlt).symm, rfl⟩
    · obtain rfl : j = m := by omega
      go_wp2
      go_ret
      exact ⟨ret_int (HF.out.2 HI.out).symm, rfl⟩
set_option maxHeartbeats 1000000 in
theorem contains_int {w : World} {f m : Nat} {M : Nat → Int} (x : Int) (hm : m ≤ 2) (h : ∀ j, j < m → w.cell? ⟨f, j, none⟩ = some (.int .i64 (M j))) :
    Calls Try.prog 45 #[.slice (some ⟨f, 0, none⟩) m m, .int .i64 x] w fun e w' => e = .returned (.bool (hasI M m x)) ∧ w = w' := by
  have H := Lib.hid (index_int x hm h)
  unfold hasI
  clear h
  go_enter Try.func45, Try.ntmps45
  go_wp2_with fail
  refine H.out.mono ?_
  rintro e w2 ⟨rfl, rfl⟩
  go_wp2
  go_ret
  exact ⟨rfl, rfl⟩

/-- What a call leaves: the slots, and all but their block as it was. -/
def TurnO (C : Nat → Prop) (w : World) (p b n : Nat) (L' : List Sl) (v : Value) (e : Ending) (w' : World) : Prop := e = .returned v ∧ SlO C w' p b n L' ∧ Chg b w w'

theorem put_state (h : Qh) (k : Sh) (x : Sl) (s : Int) : ∀ t, t < 14 → (slC h k ⟨s, x.r, x.a⟩)[t]? = if 0 ≤ t ∧ t < 0 + [Value.int .i64 s].length then [Value.int .i64 s][t - 0]? else (slC h k x)[t]? := fun t ht => by
  have : t = 0 ∨ t = 1 ∨ t = 2 ∨ t = 3 ∨ t = 4 ∨ t = 5 ∨ t = 6 ∨ t = 7 ∨ t = 8 ∨ t = 9 ∨ t = 10 ∨ t = 11 ∨ t = 12 ∨ t = 13 := by omega
  rcases this with rfl | rfl | rfl | rfl | rfl | rfl | rfl | rfl | rfl | rfl | rfl | rfl | rfl | rfl <;> rfl

set_option maxHeartbeats 2000000 in
theorem turn_any {C : Nat → Prop} {w : World} {p b n f m : Nat} {M : Nat → Int} {L : List Sl} (h : SlO C w p b n L) (hok : OkL L) (hC : ¬ C b) (i t a c : Int) (hm : m ≤ 2) (hf : ∀ j, j < m → w.cell? ⟨f, j, none⟩ = some (.int .i64 (M j)))
    (hM : ∀ x, hasI M m x = decide (x = a ∨ x = c)) :
    Calls Try.prog 31 #[.pointer (some ⟨p, 0, none⟩), .int .i64 i, .int .i64 t, .slice (some ⟨f, 0, none⟩) m m] w (TurnO C w p b n (turnL L i t a c) (errV (turnK L i a c))) := by
  have HS := Lib.hid (state_any h i)
  have HCT := Lib.hid (fun x => contains_int (w := w) x hm hf)
  have hp := h.ptr
  have hn := h.2.2.1
  have hlen := h.len
  unfold TurnO
  by_cases h1 : stOf L i = -1
  · have hk : turnK L i a c = 6 := by unfold turnK; rw [if_pos h1]
    have hl : turnL L i t a c = L := by unfold turnL; rw [hk]; rfl
    rw [hk, hl]
    rw [h1] at HS
    have H := Lib.hid h
    clear h hok hf hM HCT h1 hk hl hlen
    go_enter Try.func31, Try.ntmps31
    go_wp2_with fail
    refine HS.out.mono ?_
    rintro e w2 ⟨rfl, rfl⟩
    go_wp2
    go_ret
    exact ⟨rfl, H.out, Chg.refl _ _⟩
  · obtain ⟨i0, i1⟩ := stOf_lt h1
    obtain ⟨j, rfl⟩ : ∃ j : Nat, i = j := ⟨i.toNat, by omega⟩
    have hjn : j < n := by omega
    have hst : stOf L j = (sl L j).st := stOf_in (by omega)
    by_cases h2 : stOf L j = a ∨ stOf L j = c
    · have hk : turnK L j a c = 0 := by unfold turnK; rw [if_neg h1, if_pos h2]
      have hl : turnL L j t a c = L.set j ⟨t, (sl L j).r, (sl L j).a⟩ := by unfold turnL; rw [if_pos hk, Int.toNat_natCast]
      rw [hk, hl]
      have HC1 := HCT.out (stOf L j)
      rw [hM, show decide (stOf L j = a ∨ stOf L j = c) = true by simpa using h2] at HC1
      have hn1 : (stOf L j == -1) = false := by simpa using h1
      obtain ⟨h3, k3, hx, r1, r2⟩ := h.2.2.2.at_ hjn
      have x0 := hx.1
      have z0 := h.2.2.2.frz (j * 14)
      have HPUT := Lib.hid (And.intro (h.put hC hjn (o := 0) (us := [.int .i64 t]) (by show 0 + 1 ≤ 14; omega) hx (put_state h3 k3 _ t) r1 r2) (chg_set b w (j * 14) (.int .i64 t)))
      have HC1 := Lib.hid HC1
      generalize (sl L j).st = st at x0
      generalize stOf L j = st2 at HS HC1 hn1
      clear h hok hf hM HCT h1 h2 hk hl hlen hx r1 r2 hst
      go_enter Try.func31, Try.ntmps31
      go_wp2_with fail
      refine HS.out.mono ?_
      rintro e w2 ⟨rfl, rfl⟩
      go_wp2_with fail
      refine HC1.out.mono ?_
      rintro e w2 ⟨rfl, rfl⟩
      go_wp2
      go_ret
      exact ⟨rfl, HPUT.out.1, HPUT.out.2⟩
    · have hk : turnK L j a c = 10 := by unfold turnK; rw [if_neg h1, if_neg h2]
      have hl : turnL L j t a c = L := by unfold turnL; rw [hk]; rfl
      rw [hk, hl]
      have HC1 := HCT.out (stOf L j)
      rw [hM, show decide (stOf L j = a ∨ stOf L j = c) = false by simpa using h2] at HC1
      have hn1 : (stOf L j == -1) = false := by simpa using h1
      have HC1 := Lib.hid HC1
      have H := Lib.hid h
      generalize stOf L j = st2 at HS HC1 hn1
      clear h hok hf hM HCT h1 h2 hk hl hlen hst
      go_enter Try.func31, Try.ntmps31
      go_wp2_with fail
      refine HS.out.mono ?_
      rintro e w2 ⟨rfl, rfl⟩
      go_wp2_with fail
      refine HC1.out.mono ?_
      rintro e w2 ⟨rfl, rfl⟩
      go_wp2
      go_ret
      exact ⟨rfl, H.out, Chg.refl _ _⟩

/-- Numbers in a new block. -/
def M1 (a : Int) : Nat → Int := fun _ => a
def M2 (a c : Int) : Nat → Int := fun k => if k = 0 then a else c
theorem hasI_one (a x : Int) : hasI (M1 a) 1 x = decide (x = a ∨ x = a) := by
  unfold hasI M1
  simp only [fst]
  by_cases h : a = x
  · subst h; simp
  · have h2 : ¬ x = a := fun e => h e.symm
    simp [h, h2]
theorem hasI_two (a c x : Int) : hasI (M2 a c) 2 x = decide (x = a ∨ x = c) := by
  unfold hasI M2
  simp only [fst]
  by_cases h : a = x
  · subst h; simp
  · have h2 : ¬ x = a := fun e => h e.symm
    by_cases g : c = x
    · subst g; simp [h]
    · have g2 : ¬ x = c := fun e => g e.symm
      simp [h, h2, g, g2]
theorem row_one (w : World) (a : Int) : ∃ W, W = w.alloc (.cells #[.int .i64 a] 3) ∧ Below w.heap.size w W ∧ ∀ j, j < 1 → W.cell? ⟨w.heap.size, j, none⟩ = some (.int .i64 (M1 a j)) :=
  ⟨_, rfl, (Below.refl _ _).alloc (Nat.le_refl _) _, fun j hj => by
    obtain rfl : j = 0 := by omega
    simp [M1]⟩
theorem row_two (w : World) (a c : Int) : ∃ W, W = w.alloc (.cells #[.int .i64 a, .int .i64 c] 3) ∧ Below w.heap.size w W ∧ ∀ j, j < 2 → W.cell? ⟨w.heap.size, j, none⟩ = some (.int .i64 (M2 a c j)) :=
  ⟨_, rfl, (Below.refl _ _).alloc (Nat.le_refl _) _, fun j hj => by
    have : j = 0 ∨ j = 1 := by omega
    rcases this with rfl | rfl <;> simp [M2]⟩

set_option maxHeartbeats 1000000 in
theorem claim_any {C : Nat → Prop} {w : World} {p b n : Nat} {L : List Sl} (h : SlO C w p b n L) (hok : OkL L) (hC : ¬ C b) (i : Int) :
    Calls Try.prog 12 #[.pointer (some ⟨p, 0, none⟩), .int .i64 i] w (TurnO C w p b n (turnL L i 2 1 1) (errV (turnK L i 1 1))) := by
  obtain ⟨W, hW, hWB, hWc⟩ := row_one w 1
  have HT := Lib.hid (turn_any (h.below hWB) hok hC i 2 1 1 (m := 1) (by omega) hWc (hasI_one 1))
  have HB := Lib.hid hWB
  have hWe := Lib.hid hW
  clear h hok hW hWB hWc
  unfold TurnO at *
  go_enter Try.func12, Try.ntmps12
  go_wp2_with fail
  rw [← hWe.out]
  refine HT.out.mono ?_
  rintro e w2 ⟨rfl, h2, hc2⟩
  have HF := Lib.hid (And.intro h2 ((below_chg HB.out).trans hc2))
  clear h2 hc2
  go_wp2
  go_ret
  exact ⟨rfl, HF.out.1, HF.out.2⟩
set_option maxHeartbeats 1000000 in
theorem redirect_any {C : Nat → Prop} {w : World} {p b n : Nat} {L : List Sl} (h : SlO C w p b n L) (hok : OkL L) (hC : ¬ C b) (i : Int) :
    Calls Try.prog 15 #[.pointer (some ⟨p, 0, none⟩), .int .i64 i] w (TurnO C w p b n (turnL L i 4 1 2) (errV (turnK L i 1 2))) := by
  obtain ⟨W, hW, hWB, hWc⟩ := row_two w 1 2
  have HT := Lib.hid (turn_any (h.below hWB) hok hC i 4 1 2 (m := 2) (by omega) hWc (hasI_two 1 2))
  have HB := Lib.hid hWB
  have hWe := Lib.hid hW
  clear h hok hW hWB hWc
  unfold TurnO at *
  go_enter Try.func15, Try.ntmps15
  go_wp2_with fail
  rw [← hWe.out]
  refine HT.out.mono ?_
  rintro e w2 ⟨rfl, h2, hc2⟩
  have HF := Lib.hid (And.intro h2 ((below_chg HB.out).trans hc2))
  clear h2 hc2
  go_wp2
  go_ret
  exact ⟨rfl, HF.out.1, HF.out.2⟩
end Go.Proofs.Ytojofhmhmcchnaa
