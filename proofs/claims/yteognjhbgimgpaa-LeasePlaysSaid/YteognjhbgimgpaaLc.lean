/- Contracts of package lease's Take, Renew and Release. Conditions: as in La. -/
import Derived.Test.YteognjhbgimgpaaLb
namespace Go.Proofs.Yteognjhbgimgpaa
open Go.RowKit
set_option linter.unusedVariables false

/-- What Take leaves, and tells. -/
def TakeO (w : World) (T : TypeId) (p : Nat) (L E H U x now : Int) (e : Ending) (w' : World) : Prop :=
  e = .returned (.tuple #[.int .u64 (told E H U x now), errV (takeK H U x now)]) ∧ Left w w' T p L (takeE E H U x now) (takeH H U x now) (takeU L H U x now)
/-- What Renew leaves, and tells. -/
def RenO (w : World) (T : TypeId) (p : Nat) (L E H U x ep now : Int) (e : Ending) (w' : World) : Prop :=
  e = .returned (errV (renK E H x ep now)) ∧ Left w w' T p L E H (renU L E H U x ep now)
/-- What Release leaves, and tells. -/
def RelO (w : World) (T : TypeId) (p : Nat) (L E H U x ep : Int) (e : Ending) (w' : World) : Prop :=
  e = .returned (errV (chK E H x ep)) ∧ Left w w' T p L E (relH E H x ep) U

theorem take_one {E H U x now k : Int} {L : Int} (hk : takeK H U x now = k) (h : k ≠ 0) : told E H U x now = 0 ∧ takeE E H U x now = E ∧ takeH H U x now = H ∧ takeU L H U x now = U := by
  unfold told takeE takeH takeU
  rw [hk]
  exact ⟨if_neg h, if_neg h, if_neg h, if_neg h⟩
theorem take_two {E H U x now : Int} {L : Int} (hk : takeK H U x now = 0) (h : H = x) : told E H U x now = E ∧ takeE E H U x now = E ∧ takeH H U x now = x ∧ takeU L H U x now = now + L := by
  unfold told takeE takeH takeU
  rw [hk]
  simp [h]
theorem take_three {E H U x now : Int} {L : Int} (hk : takeK H U x now = 0) (h : H ≠ x) : told E H U x now = E + 1 ∧ takeE E H U x now = E + 1 ∧ takeH H U x now = x ∧ takeU L H U x now = now + L := by
  unfold told takeE takeH takeU
  rw [hk]
  simp [h]
/-- The five ways of Take. -/
theorem take_ways (H U x now : Int) : (takeK H U x now = 1 ∧ (x < 0 ∨ (0 ≤ x ∧ (now < 0 ∨ (0 ≤ now ∧ 1099511627776 < now))))) ∨
    ((0 ≤ x ∧ 0 ≤ now ∧ now ≤ 1099511627776) ∧ ((takeK H U x now = 0 ∧ H = x) ∨ (takeK H U x now = 7 ∧ H ≠ x ∧ heldB H U now = true) ∨ (takeK H U x now = 0 ∧ H ≠ x ∧ heldB H U now = false))) := by
  rcases frB_cases x now with ⟨hf, h⟩ | ⟨hf, h⟩
  · refine .inr ⟨h, ?_⟩
    unfold takeK
    rw [hf]
    by_cases h1 : H = x
    · exact .inl ⟨by simp [h1], h1⟩
    · cases hh : heldB H U now
      · exact .inr (.inr ⟨by simp, h1, rfl⟩)
      · exact .inr (.inl ⟨by simp [h1], h1, rfl⟩)
  · refine .inl ⟨?_, h⟩
    unfold takeK
    rw [hf]
    rfl

set_option maxHeartbeats 400000 in
theorem take_bad (p : Nat) (x now : Int) (w : World) (h : x < 0 ∨ (0 ≤ x ∧ (now < 0 ∨ (0 ≤ now ∧ 1099511627776 < now)))) :
    Calls Try.prog 11 #[.pointer (some ⟨p, 0, none⟩), .int .i64 x, .int .i64 now] w fun e w' => e = .returned (.tuple #[.int .u64 0, .iface 29 (.int .i64 1)]) ∧ w = w' := by
  rcases h with h | ⟨h, h2⟩
  · have hd : decide (0 ≤ x) = false := by simpa using h
    clear h
    go_enter Try.func11, Try.ntmps11
    go_wp2_with (go_at_call 17; refine (worker_any x _).mono ?_; rintro r w' ⟨rfl, rfl⟩)
    go_ret2
    exact ⟨rfl, rfl⟩
  · have hd : decide (0 ≤ x) = true := by simpa using h
    have HT := Lib.hid (show (decide (0 ≤ now) && decide (now ≤ 1099511627776)) = false by
      by_cases h1 : 0 ≤ now
      · have h3 : ¬ (now ≤ 1099511627776) := by omega
        simp [h3]
      · simp [h1])
    clear h h2
    go_enter Try.func11, Try.ntmps11
    go_wp2_with (first | (go_at_call 17; refine (worker_any x _).mono ?_; rintro r w' ⟨rfl, rfl⟩) | (go_at_call 18; refine (time_any now false HT.out _).mono ?_; rintro r w' ⟨rfl, rfl⟩))
    go_ret2
    exact ⟨rfl, rfl⟩

set_option maxHeartbeats 400000 in
theorem take_mine {p : Nat} {L E U x now : Int} {w : World} (hm : LeM w 51 p L E x U) (ok : OkL L E x U) (hx : 0 ≤ x) (n1 : 0 ≤ now) (n2 : now ≤ 1099511627776) :
    Calls Try.prog 11 #[.pointer (some ⟨p, 0, none⟩), .int .i64 x, .int .i64 now] w fun e w' => e = .returned (.tuple #[.int .u64 E, .nilIface]) ∧ Left w w' 51 p L E x (now + L) := by
  have hd : decide (0 ≤ x) = true := by simpa using hx
  have HT := Lib.hid (show (decide (0 ≤ now) && decide (now ≤ 1099511627776)) = true by simp [n1, n2])
  have HH := Lib.hid (hold_any hm ok n1 n2)
  have c2 := hm.c2
  clear hm ok hx n1 n2
  go_enter Try.func11, Try.ntmps11
  go_wp2_with (first | (go_at_call 17; refine (worker_any x _).mono ?_; rintro r w' ⟨rfl, rfl⟩) | (go_at_call 18; refine (time_any now true HT.out _).mono ?_; rintro r w' ⟨rfl, rfl⟩))
  refine HH.out.mono ?_
  rintro r w1 ⟨rfl, hl⟩
  have c1 := hl.1.c1
  have HL := Lib.hid hl
  clear hl HH c2
  go_wp2
  go_ret2
  exact ⟨rfl, HL.out⟩

set_option maxHeartbeats 400000 in
theorem take_busy {p : Nat} {L E H U x now : Int} {w : World} (hm : LeM w 51 p L E H U) (ok : OkL L E H U) (hx : 0 ≤ x) (n1 : 0 ≤ now) (n2 : now ≤ 1099511627776) (hn : H ≠ x) (hh : heldB H U now = true) :
    Calls Try.prog 11 #[.pointer (some ⟨p, 0, none⟩), .int .i64 x, .int .i64 now] w fun e w' => e = .returned (.tuple #[.int .u64 0, .iface 29 (.int .i64 7)]) ∧ w = w' := by
  have hd : decide (0 ≤ x) = true := by simpa using hx
  have HT := Lib.hid (show (decide (0 ≤ now) && decide (now ≤ 1099511627776)) = true by simp [n1, n2])
  have HH := Lib.hid (held_raw p H U now w hm.c2 hm.c3 ok.h1)
  rw [hh] at HH
  have c2 := hm.c2
  have hne : (H != x) = true := by simpa using hn
  clear hm ok hx n1 n2 hn hh
  go_enter Try.func11, Try.ntmps11
  go_wp2_with (first | (go_at_call 17; refine (worker_any x _).mono ?_; rintro r w' ⟨rfl, rfl⟩) | (go_at_call 18; refine (time_any now true HT.out _).mono ?_; rintro r w' ⟨rfl, rfl⟩) | (go_at_call 19; refine HH.out.mono ?_; rintro r w' ⟨rfl, rfl⟩))
  go_ret2
  exact ⟨rfl, rfl⟩

set_option maxHeartbeats 400000 in
theorem take_free {p : Nat} {L E H U x now : Int} {w : World} (hm : LeM w 51 p L E H U) (ok : OkL L E H U) (hx : 0 ≤ x) (hx2 : x ≤ 9223372036854775807) (n1 : 0 ≤ now) (n2 : now ≤ 1099511627776) (hE : E < 1000000) (hn : H ≠ x) (hh : heldB H U now = false) :
    Calls Try.prog 11 #[.pointer (some ⟨p, 0, none⟩), .int .i64 x, .int .i64 now] w fun e w' => e = .returned (.tuple #[.int .u64 (E + 1), .nilIface]) ∧ Left w w' 51 p L (E + 1) x (now + L) := by
  have hd : decide (0 ≤ x) = true := by simpa using hx
  have HT := Lib.hid (show (decide (0 ≤ now) && decide (now ≤ 1099511627776)) = true by simp [n1, n2])
  have HH := Lib.hid (held_raw p H U now w hm.c2 hm.c3 ok.h1)
  rw [hh] at HH
  have HM := Lib.hid (((Left.same hm).set2 x).set1 (E + 1))
  have HD := Lib.hid (hold_any HM.out.1 ⟨ok.l1, ok.l2, by have := ok.e1; omega, by omega, by omega, hx2, ok.u1, ok.u2⟩ n1 n2)
  have c1 := hm.c1
  have c2 := hm.c2
  have hf := hm.frz
  have e1 := ok.e1
  have hne : (H != x) = true := by simpa using hn
  clear hm ok hx hx2 n1 n2 hn hh
  go_enter Try.func11, Try.ntmps11
  go_wp2_with (first | (go_at_call 17; refine (worker_any x _).mono ?_; rintro r w' ⟨rfl, rfl⟩) | (go_at_call 18; refine (time_any now true HT.out _).mono ?_; rintro r w' ⟨rfl, rfl⟩) | (go_at_call 19; refine HH.out.mono ?_; rintro r w' ⟨rfl, rfl⟩))
  refine HD.out.mono ?_
  rintro r w1 ⟨rfl, hl⟩
  have y1 := hl.1.c1
  have HL := Lib.hid (show Left w w1 51 p L (E + 1) x (now + L) from ⟨hl.1, ⟨hl.2.os.trans HM.out.2.os, hl.2.tape.trans HM.out.2.tape, hl.2.output.trans HM.out.2.output, hl.2.size.trans HM.out.2.size, fun k hk => (hl.2.block k hk).trans (HM.out.2.block k hk)⟩⟩)
  clear hl HH HD HM c1 c2 hf
  go_wp2
  go_ret2
  exact ⟨rfl, HL.out⟩

theorem take_any {p : Nat} {L E H U x now : Int} {w : World} (hm : LeM w 51 p L E H U) (ok : OkL L E H U) (hx2 : x ≤ 9223372036854775807) (hE : E < 1000000) :
    Calls Try.prog 11 #[.pointer (some ⟨p, 0, none⟩), .int .i64 x, .int .i64 now] w (TakeO w 51 p L E H U x now) := by
  unfold TakeO
  rcases take_ways H U x now with ⟨hk, h⟩ | ⟨⟨hx, n1, n2⟩, ⟨hk, h⟩ | ⟨hk, h, hh⟩ | ⟨hk, h, hh⟩⟩
  · obtain ⟨t1, t2, t3, t4⟩ := take_one (E := E) (L := L) hk (by omega)
    rw [t1, t2, t3, t4, hk]
    exact (take_bad p x now w h).mono fun e w' ⟨he, hw⟩ => ⟨he, hw ▸ Left.same hm⟩
  · obtain ⟨t1, t2, t3, t4⟩ := take_two (E := E) (L := L) hk h
    rw [t1, t2, t3, t4, hk]
    subst h
    exact take_mine hm ok hx n1 n2
  · obtain ⟨t1, t2, t3, t4⟩ := take_one (E := E) (L := L) hk (by omega)
    rw [t1, t2, t3, t4, hk]
    exact (take_busy hm ok hx n1 n2 h hh).mono fun e w' ⟨he, hw⟩ => ⟨he, hw ▸ Left.same hm⟩
  · obtain ⟨t1, t2, t3, t4⟩ := take_three (E := E) (L := L) hk h
    rw [t1, t2, t3, t4, hk]
    exact take_free hm ok hx hx2 n1 n2 hE h hh

/-- The three ways of Renew. -/
theorem ren_ways (E H x ep now : Int) : (renK E H x ep now = 1 ∧ ¬ (0 ≤ now ∧ now ≤ 1099511627776)) ∨ ((0 ≤ now ∧ now ≤ 1099511627776) ∧ renK E H x ep now = chK E H x ep) := by
  unfold renK
  rcases frB_cases x now with ⟨hf, h⟩ | ⟨hf, h⟩
  · rw [hf]
    exact .inr ⟨h.2, rfl⟩
  · rw [hf]
    by_cases hn : 0 ≤ now ∧ now ≤ 1099511627776
    · refine .inr ⟨hn, ?_⟩
      have : x < 0 := by omega
      unfold chK
      rw [if_pos this]
      rfl
    · exact .inl ⟨rfl, hn⟩

set_option maxHeartbeats 400000 in
theorem renew_any {p : Nat} {L E H U x ep now : Int} {w : World} (hm : LeM w 51 p L E H U) (ok : OkL L E H U) :
    Calls Try.prog 13 #[.pointer (some ⟨p, 0, none⟩), .int .i64 x, .int .u64 ep, .int .i64 now] w (RenO w 51 p L E H U x ep now) := by
  unfold RenO renU
  rcases ren_ways E H x ep now with ⟨hk, h⟩ | ⟨⟨n1, n2⟩, hk⟩
  · rw [hk, if_neg (show ¬ ((1 : Int) = 0) by omega)]
    have HT := Lib.hid (show (decide (0 ≤ now) && decide (now ≤ 1099511627776)) = false by
      by_cases h1 : 0 ≤ now
      · have h3 : ¬ (now ≤ 1099511627776) := by omega
        simp [h3]
      · simp [h1])
    have HM := Lib.hid (Left.same hm)
    clear hm ok h hk
    go_enter Try.func13, Try.ntmps13
    go_wp2_with (go_at_call 18; refine (time_any now false HT.out _).mono ?_; rintro r w' ⟨rfl, rfl⟩)
    go_ret
    exact ⟨rfl, HM.out⟩
  · rw [hk]
    have HT := Lib.hid (show (decide (0 ≤ now) && decide (now ≤ 1099511627776)) = true by simp [n1, n2])
    have HC := check_any hm x ep
    by_cases hc : chK E H x ep = 0
    · rw [if_pos hc]
      rw [hc, errV_zero] at HC ⊢
      have HZ := Lib.hid HC
      have HD := Lib.hid (hold_any hm ok n1 n2)
      clear hm ok n1 n2 hc hk HC
      go_enter Try.func13, Try.ntmps13
      go_wp2_with (first | (go_at_call 18; refine (time_any now true HT.out _).mono ?_; rintro r w' ⟨rfl, rfl⟩) | (go_at_call 9; refine HZ.out.mono ?_; rintro r w' ⟨rfl, rfl⟩))
      refine HD.out.mono ?_
      rintro r w1 ⟨rfl, hl⟩
      have HL := Lib.hid hl
      clear hl
      go_wp2
      go_ret
      exact ⟨rfl, HL.out⟩
    · rw [if_neg hc]
      rw [errV_some hc] at HC ⊢
      have HK := Lib.hid HC
      have HM := Lib.hid (Left.same hm)
      generalize chK E H x ep = k at HK ⊢
      clear hm ok n1 n2 hc hk HC
      go_enter Try.func13, Try.ntmps13
      go_wp2_with (first | (go_at_call 18; refine (time_any now true HT.out _).mono ?_; rintro r w' ⟨rfl, rfl⟩) | (go_at_call 9; refine HK.out.mono ?_; rintro r w' ⟨rfl, rfl⟩))
      go_ret
      exact ⟨rfl, HM.out⟩

set_option maxHeartbeats 400000 in
theorem release_any {p : Nat} {L E H U x ep : Int} {w : World} (hm : LeM w 51 p L E H U) :
    Calls Try.prog 14 #[.pointer (some ⟨p, 0, none⟩), .int .i64 x, .int .u64 ep] w (RelO w 51 p L E H U x ep) := by
  unfold RelO relH
  have HC := check_any hm x ep
  by_cases hc : chK E H x ep = 0
  · rw [if_pos hc]
    rw [hc, errV_zero] at HC ⊢
    have HZ := Lib.hid HC
    have HL := Lib.hid ((Left.same hm).set2 (-1))
    have c2 := hm.c2
    have hf := hm.frz
    clear hm hc HC
    go_enter Try.func14, Try.ntmps14
    go_wp2_with (go_at_call 9; refine HZ.out.mono ?_; rintro r w' ⟨rfl, rfl⟩)
    go_ret
    exact ⟨rfl, HL.out⟩
  · rw [if_neg hc]
    rw [errV_some hc] at HC ⊢
    have HK := Lib.hid HC
    have HM := Lib.hid (Left.same hm)
    generalize chK E H x ep = k at HK ⊢
    clear hm hc HC
    go_enter Try.func14, Try.ntmps14
    go_wp2_with (go_at_call 9; refine HK.out.mono ?_; rintro r w' ⟨rfl, rfl⟩)
    go_ret
    exact ⟨rfl, HM.out⟩
end Go.Proofs.Yteognjhbgimgpaa
