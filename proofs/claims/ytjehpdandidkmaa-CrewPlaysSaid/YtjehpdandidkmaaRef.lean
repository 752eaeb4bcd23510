/- Contracts of the document's own Crew, and of the law's head (up). Conditions: states are 0, 1 or 2, the clock is 0 to 2^40. -/
import Derived.Test.YtjehpdandidkmaaCrw
namespace Go.Proofs.Ytjehpdandidkmaa
open Go.RowKit

set_option maxHeartbeats 400000 in
theorem rstate_in_raw (p b n j : Nat) (s : Int) (w : World) (hj : j < n) (hp : w.cell? ⟨p, 0, none⟩ = some (.slice (some ⟨b, 0, none⟩) n n)) (hs : w.cell? ⟨b, j, none⟩ = some (.int .i64 s)) :
    Calls Try.prog 16 #[.pointer (some ⟨p, 0, none⟩), .int .i64 j] w fun e w' => e = .returned (.int .i64 s) ∧ w = w' := by
  go_enter Try.func16, Try.ntmps16
  go_wp2
  go_ret
  exact ⟨rfl, rfl⟩

set_option maxHeartbeats 400000 in
theorem rstate_out_raw (p b n : Nat) (i : Int) (w : World) (hi : i < 0 ∨ (n : Int) ≤ i) (hp : w.cell? ⟨p, 0, none⟩ = some (.slice (some ⟨b, 0, none⟩) n n)) :
    Calls Try.prog 16 #[.pointer (some ⟨p, 0, none⟩), .int .i64 i] w fun e w' => e = .returned (.int .i64 (-1)) ∧ w = w' := by
  rcases hi with hi | hi
  · go_enter Try.func16, Try.ntmps16
    go_wp2
    go_ret
    exact ⟨rfl, rfl⟩
  · have h0 : 0 ≤ i := by omega
    have h1 : decide ((n : Int) ≤ i) = true := by simp; omega
    go_enter Try.func16, Try.ntmps16
    go_wp2
    go_ret
    exact ⟨rfl, rfl⟩

theorem rstate_any (T : TypeId) (p b n : Nat) (S : Nat → Int) (c i v : Int) (w : World) (hc : Cw w T p b n S c) (hv : stOf n S i = v) :
    Calls Try.prog 16 #[.pointer (some ⟨p, 0, none⟩), .int .i64 i] w fun e w' => e = .returned (.int .i64 v) ∧ w = w' := by
  subst hv
  rcases in_out n i with ⟨j, rfl, hj⟩ | hi
  · rw [stOf_in hj]
    exact rstate_in_raw p b n j _ w hj hc.ptr (hc.at hj)
  · rw [stOf_out hi]
    exact rstate_out_raw p b n i w hi hc.ptr

set_option maxHeartbeats 400000 in
theorem rturn_no (p : Nat) (i s v : Int) (w : World) (hv : v = -1 ∨ v = 2) (H : Hid (Calls Try.prog 16 #[.pointer (some ⟨p, 0, none⟩), .int .i64 i] w fun e w' => e = .returned (.int .i64 v) ∧ w = w')) :
    Calls Try.prog 9 #[.pointer (some ⟨p, 0, none⟩), .int .i64 i, .int .i64 s] w fun e w' => e = .returned (.int .i64 (turnK v)) ∧ w = w' := by
  rcases hv with rfl | rfl
  all_goals
    go_enter Try.func9, Try.ntmps9
    go_wp2_with (go_at_call 16; refine H.out.mono ?_; rintro e w' ⟨rfl, rfl⟩)
    go_ret
    exact ⟨rfl, rfl⟩

set_option maxHeartbeats 400000 in
theorem rturn_yes (p b n j : Nat) (s v : Int) (w : World) (H : Hid (Calls Try.prog 16 #[.pointer (some ⟨p, 0, none⟩), .int .i64 j] w fun e w' => e = .returned (.int .i64 v) ∧ w = w')) (hv : v = 0 ∨ v = 1) (hj : j < n)
    (hp : w.cell? ⟨p, 0, none⟩ = some (.slice (some ⟨b, 0, none⟩) n n)) (hs : w.cell? ⟨b, j, none⟩ = some (.int .i64 v)) (hf : ∀ j, w.frozen? ⟨b, j, none⟩ = false) :
    Calls Try.prog 9 #[.pointer (some ⟨p, 0, none⟩), .int .i64 j, .int .i64 s] w fun e w' => e = .returned (.int .i64 0) ∧ w.setCell ⟨b, j, none⟩ (.int .i64 s) = w' := by
  rcases hv with rfl | rfl
  all_goals
    go_enter Try.func9, Try.ntmps9
    go_wp2_with (go_at_call 16; refine H.out.mono ?_; rintro e w' ⟨rfl, rfl⟩)
    go_ret
    exact ⟨rfl, rfl⟩

/-- What Turn leaves. -/
def RTurned (w : World) (T : TypeId) (p b n : Nat) (S : Nat → Int) (c i s : Int) (e : Ending) (w' : World) : Prop := e = .returned (.int .i64 (turnK (stOf n S i))) ∧ Left w w' T p b n (turned n S i s) c

theorem rturn_any (p b n : Nat) (S : Nat → Int) (c i s : Int) (w : World) (hc : Cw w 33 p b n S c) (hS : OkS S) :
    Calls Try.prog 9 #[.pointer (some ⟨p, 0, none⟩), .int .i64 i, .int .i64 s] w (RTurned w 33 p b n S c i s) := by
  have ha := rstate_any _ p b n S c i _ w hc rfl
  unfold RTurned turned
  rcases turn_cases (n := n) (S := S) i with h | ⟨h, j, rfl, hj⟩
  · rw [if_neg h]
    have hv : stOf n S i = -1 ∨ stOf n S i = 2 := by
      rcases stOf_four (n := n) hS i with e | e | e | e <;> rw [e] at h ⊢ <;> first | exact .inl rfl | exact .inr rfl | exact absurd rfl h
    exact (rturn_no p i s _ w hv (Lib.hid ha)).mono fun e w' ⟨he, hw⟩ => ⟨he, hw ▸ Left.same hc⟩
  · rw [if_pos h, h, Int.toNat_natCast]
    rw [stOf_in hj] at ha h
    have hv : S j = 0 ∨ S j = 1 := by
      rcases hS j with e | e | e
      · exact .inl e
      · exact .inr e
      · rw [e] at h
        exact absurd h (by decide)
    exact (rturn_yes p b n j s _ w (Lib.hid ha) hv hj hc.ptr (hc.at hj) (fun j => hc.2.frozen j)).mono fun e w' ⟨he, hw⟩ => ⟨he, hw ▸ Left.state hc (by decide) j s⟩

set_option maxHeartbeats 400000 in
theorem rmay_raw (p : Nat) (i v : Int) (w : World) (H : Hid (Calls Try.prog 16 #[.pointer (some ⟨p, 0, none⟩), .int .i64 i] w fun e w' => e = .returned (.int .i64 v) ∧ w = w'))
    (hv : v = -1 ∨ v = 0 ∨ v = 1 ∨ v = 2) :
    Calls Try.prog 18 #[.pointer (some ⟨p, 0, none⟩), .int .i64 i] w fun e w' => e = .returned (.int .i64 (mayK v)) ∧ w = w' := by
  rcases hv with rfl | rfl | rfl | rfl
  all_goals
    go_enter Try.func18, Try.ntmps18
    go_wp2_with (go_at_call 16; refine H.out.mono ?_; rintro e w' ⟨rfl, rfl⟩)
    go_ret
    exact ⟨rfl, rfl⟩

theorem rmay_any (T : TypeId) (p b n : Nat) (S : Nat → Int) (c i : Int) (w : World) (hc : Cw w T p b n S c) (hS : OkS S) :
    Calls Try.prog 18 #[.pointer (some ⟨p, 0, none⟩), .int .i64 i] w fun e w' => e = .returned (.int .i64 (mayK (stOf n S i))) ∧ w = w' :=
  rmay_raw p i _ w (Lib.hid (rstate_any T p b n S c i _ w hc rfl)) (stOf_four hS i)

set_option maxHeartbeats 400000 in
theorem rtick_raw (p : Nat) (c x : Int) (w : World) (hc : OkC c) (hp : w.cell? ⟨p, 1, none⟩ = some (.int .i64 c)) (hf : ∀ j, w.frozen? ⟨p, j, none⟩ = false) :
    Calls Try.prog 13 #[.pointer (some ⟨p, 0, none⟩), .int .i64 x] w fun e w' => e = .returned (.int .i64 (tickK c x)) ∧ (if x < 0 ∨ 1099511627776 - c < x then w else w.setCell ⟨p, 1, none⟩ (.int .i64 (c + x))) = w' := by
  obtain ⟨c1, c2⟩ := hc
  by_cases h1 : x < 0
  · rw [if_pos (.inl h1), show tickK c x = 1 from if_pos (.inl h1)]
    go_enter Try.func13, Try.ntmps13
    go_wp2
    go_ret
    exact ⟨rfl, rfl⟩
  · by_cases h5 : 1099511627776 < x
    · rw [if_pos (by omega), show tickK c x = 1 from if_pos (by omega)]
      go_enter Try.func13, Try.ntmps13
      go_wp2
      go_ret
      exact ⟨rfl, rfl⟩
    · by_cases h2 : 1099511627776 < c + x
      · rw [if_pos (by omega), show tickK c x = 1 from if_pos (by omega)]
        have h4 : 0 ≤ x := by omega
        have h6 : x ≤ 1099511627776 := by omega
        clear h1 h5
        go_enter Try.func13, Try.ntmps13
        go_wp2
        go_ret
        exact ⟨rfl, rfl⟩
      · rw [if_neg (by omega), show tickK c x = 0 from if_neg (by omega)]
        have h3 : c + x ≤ 1099511627776 := by omega
        have h4 : 0 ≤ x := by omega
        have h6 : x ≤ 1099511627776 := by omega
        clear h1 h2 h5
        go_enter Try.func13, Try.ntmps13
        go_wp2
        go_ret
        exact ⟨rfl, rfl⟩

/-- What Tick leaves. -/
def RTicked (w : World) (T : TypeId) (p b n : Nat) (S : Nat → Int) (c x : Int) (e : Ending) (w' : World) : Prop := e = .returned (.int .i64 (tickK c x)) ∧ Left w w' T p b n S (ticked c x)

theorem rtick_any (p b n : Nat) (S : Nat → Int) (c x : Int) (w : World) (hc : Cw w 33 p b n S c) (hC : OkC c) :
    Calls Try.prog 13 #[.pointer (some ⟨p, 0, none⟩), .int .i64 x] w (RTicked w 33 p b n S c x) :=
  (rtick_raw p c x w hC hc.clk hc.frz).mono fun e w' ⟨he, hw⟩ => ⟨he, by
    subst hw
    unfold ticked
    split
    · exact Left.same hc
    · exact Left.clock hc (by decide) _⟩

theorem ok0 : OkS (fun _ => 0) := fun _ => .inl rfl
theorem okc0 : OkC 0 := ⟨by omega, by omega⟩

/-- Worker 0 of two was killed. -/
theorem kill0 : turned 2 (fun _ => 0) 0 2 = upd (fun _ => 0) 0 2 := rfl

theorem up_any (w : World) : Calls Try.prog 5 #[] w fun e w' => e = .returned (.bool true) ∧ Below w.heap.size w w' := by
  have he := eql_err
  have HE := Lib.hid he
  clear he
  go_enter Try.func5, Try.ntmps5
  go_wp2_with fail
  refine (new_ok 2 _ (by omega) (by omega)).mono ?_
  rintro e w1 ⟨rfl, hn⟩
  go_wp2_with fail
  refine (new_no 17 _ (by omega)).mono ?_
  rintro e w2 ⟨rfl, rfl⟩
  go_wp2_with fail
  refine (kill_any _ _ 2 _ 0 0 _ hn.1 ok0).mono ?_
  rintro e w3 ⟨he3, hw3⟩
  obtain rfl : e = .returned .nilIface := he3
  go_wp2_with fail
  refine (wake_any _ _ 2 _ 0 0 _ hw3.1 (turned_ok ok0 (.inr (.inr rfl)))).mono ?_
  rintro e w4 ⟨he4, hw4⟩
  obtain rfl : e = .returned (.iface 29 (.int .i64 9)) := he4
  have he := HE.out
  go_wp2_with fail
  refine (len_any _ _ _ 2 _ _ _ hw4.1).mono ?_
  rintro e w5 ⟨rfl, rfl⟩
  go_wp2_with fail
  refine (state_any _ _ _ 2 _ _ 1 0 _ hw4.1 rfl).mono ?_
  rintro e w5 ⟨rfl, rfl⟩
  go_wp2
  go_ret
  refine ⟨rfl, (hn.2.1.trans (hw3.2.below (by omega) (Nat.le_refl _))).trans (hw4.2.below (by omega) (Nat.le_refl _))⟩
end Go.Proofs.Ytjehpdandidkmaa
