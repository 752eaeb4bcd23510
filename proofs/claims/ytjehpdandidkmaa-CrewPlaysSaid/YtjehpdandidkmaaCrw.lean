/- Contracts of the functions of package crew, and of the document's own Crew, over the translation: what each call does to the world. Conditions: states are 0, 1 or 2, the clock is 0 to 2^40. -/
import Derived.Test.YtjehpdandidkmaaErr
import Derived.Deep.OwnRows
namespace Go.Proofs.Ytjehpdandidkmaa
open Go.RowKit

/-- A crew: a block with the slice and the clock, and the row of states that it leads to. -/
def Cw (w : World) (T : TypeId) (p b n : Nat) (S : Nat → Int) (c : Int) : Prop :=
  w.heap[p]? = some (.cells #[.slice (some ⟨b, 0, none⟩) n n, .int .i64 c] T (0, 0)) ∧ w.rowIs b 3 n (fun j => .int .i64 (S j))

def OkS (S : Nat → Int) : Prop := ∀ j, S j = 0 ∨ S j = 1 ∨ S j = 2
def OkC (c : Int) : Prop := 0 ≤ c ∧ c ≤ 1099511627776

def upd (f : Nat → Int) (i : Nat) (x : Int) : Nat → Int := fun j => if j = i then x else f j

/-- A worker's state; -1 of none. -/
def stOf (n : Nat) (S : Nat → Int) (i : Int) : Int := if 0 ≤ i ∧ i < n then S i.toNat else -1
/-- The number of the error of a worker that isn't there, or is dead. -/
def turnK (v : Int) : Int := if v = -1 then 6 else if v = 2 then 9 else 0
def mayK (v : Int) : Int := if v = -1 then 6 else if v = 2 then 9 else if v = 1 then 7 else 0
def turned (n : Nat) (S : Nat → Int) (i s : Int) : Nat → Int := if turnK (stOf n S i) = 0 then upd S i.toNat s else S
def tickK (c x : Int) : Int := if x < 0 ∨ 1099511627776 - c < x then 1 else 0
def ticked (c x : Int) : Int := if x < 0 ∨ 1099511627776 - c < x then c else c + x

theorem stOf_in {n : Nat} {S : Nat → Int} {j : Nat} (h : j < n) : stOf n S j = S j := by
  unfold stOf
  rw [if_pos ⟨by omega, by omega⟩, Int.toNat_natCast]
theorem stOf_out {n : Nat} {S : Nat → Int} {i : Int} (h : i < 0 ∨ (n : Int) ≤ i) : stOf n S i = -1 := by
  unfold stOf
  rw [if_neg (by omega)]
theorem in_out (n : Nat) (i : Int) : (∃ j : Nat, i = j ∧ j < n) ∨ (i < 0 ∨ (n : Int) ≤ i) := by
  by_cases h : 0 ≤ i ∧ i < n
  · exact .inl ⟨i.toNat, by omega, by omega⟩
  · exact .inr (by omega)
theorem turnK_le (v : Int) : 0 ≤ turnK v ∧ turnK v ≤ 11 := by unfold turnK; split <;> (try split) <;> omega
theorem mayK_le (v : Int) : 0 ≤ mayK v ∧ mayK v ≤ 11 := by unfold mayK; split <;> (try split) <;> (try split) <;> omega
theorem tickK_le (c v : Int) : 0 ≤ tickK c v ∧ tickK c v ≤ 11 := by unfold tickK; split <;> omega
theorem turned_ok {n : Nat} {S : Nat → Int} {i s : Int} (h : OkS S) (hs : s = 0 ∨ s = 1 ∨ s = 2) : OkS (turned n S i s) := by
  intro j
  unfold turned
  split
  · unfold upd
    split
    · exact hs
    · exact h j
  · exact h j
theorem ticked_ok {c x : Int} (h : OkC c) : OkC (ticked c x) := by
  unfold ticked OkC at *
  split <;> omega

theorem Cw.ptr {w : World} {T : TypeId} {p b n : Nat} {S : Nat → Int} {c : Int} (h : Cw w T p b n S c) : w.cell? ⟨p, 0, none⟩ = some (.slice (some ⟨b, 0, none⟩) n n) := by
  simp [World.cell?, h.1]
theorem Cw.clk {w : World} {T : TypeId} {p b n : Nat} {S : Nat → Int} {c : Int} (h : Cw w T p b n S c) : w.cell? ⟨p, 1, none⟩ = some (.int .i64 c) := by
  simp [World.cell?, h.1]
theorem Cw.frz {w : World} {T : TypeId} {p b n : Nat} {S : Nat → Int} {c : Int} (h : Cw w T p b n S c) (j : Nat) : w.frozen? ⟨p, j, none⟩ = false := by
  simp [World.frozen?, h.1]
theorem Cw.at {w : World} {T : TypeId} {p b n : Nat} {S : Nat → Int} {c : Int} (h : Cw w T p b n S c) {j : Nat} (hj : j < n) : w.cell? ⟨b, j, none⟩ = some (.int .i64 (S j)) := h.2.cell hj
theorem Cw.lt {w : World} {T : TypeId} {p b n : Nat} {S : Nat → Int} {c : Int} (h : Cw w T p b n S c) : p < w.heap.size ∧ b < w.heap.size :=
  ⟨(Array.getElem?_eq_some_iff.1 h.1).1, h.2.lt⟩
theorem Cw.ne {w : World} {T : TypeId} {p b n : Nat} {S : Nat → Int} {c : Int} (h : Cw w T p b n S c) (hT : T ≠ 3) : p ≠ b := by
  rintro rfl
  obtain ⟨c, hb, _⟩ := h.2
  rw [h.1] at hb
  simp at hb
  exact hT hb.2
theorem Cw.of_blocks {w w' : World} {T : TypeId} {p b n : Nat} {S : Nat → Int} {c : Int} (h : Cw w T p b n S c) (e1 : w'.heap[p]? = w.heap[p]?) (e2 : w'.heap[b]? = w.heap[b]?) : Cw w' T p b n S c :=
  ⟨e1.trans h.1, h.2.of_block e2⟩

/-- Only two blocks have turned. -/
structure Two (w w' : World) (p b : Nat) : Prop where
  os : w'.os = w.os
  tape : w'.tape = w.tape
  output : w'.output = w.output
  size : w'.heap.size = w.heap.size
  block : ∀ k, k ≠ p → k ≠ b → w'.heap[k]? = w.heap[k]?

theorem Two.refl (w : World) (p b : Nat) : Two w w p b := ⟨rfl, rfl, rfl, rfl, fun _ _ _ => rfl⟩
theorem Two.below {w w' : World} {p b B : Nat} (h : Two w w' p b) (hp : B ≤ p) (hb : B ≤ b) : Below B w w' :=
  ⟨h.os, h.tape, h.output, by rw [h.size]; exact Nat.le_refl _, fun k hk => h.block k (by omega) (by omega)⟩
theorem Two.set {w : World} (p b : Nat) (a : Addr) (v : Value) (ha : a.block = p ∨ a.block = b) : Two w (w.setCell a v) p b :=
  ⟨rfl, rfl, rfl, by simp [World.setCell], fun k h1 h2 => Below.heap_setCell _ _ _ _ (by rcases ha with e | e <;> omega)⟩

/-- What a call leaves: the crew, and all else as it was. -/
def Left (w w' : World) (T : TypeId) (p b n : Nat) (S : Nat → Int) (c : Int) : Prop := Cw w' T p b n S c ∧ Two w w' p b

theorem Left.same {w : World} {T : TypeId} {p b n : Nat} {S : Nat → Int} {c : Int} (h : Cw w T p b n S c) : Left w w T p b n S c := ⟨h, Two.refl _ _ _⟩
theorem Left.state {w : World} {T : TypeId} {p b n : Nat} {S : Nat → Int} {c : Int} (h : Cw w T p b n S c) (hT : T ≠ 3) (j : Nat) (s : Int) : Left w (w.setCell ⟨b, j, none⟩ (.int .i64 s)) T p b n (upd S j s) c := by
  refine ⟨⟨?_, (h.2.set j _).congr fun i _ => ?_⟩, Two.set _ _ _ _ (.inr rfl)⟩
  · rw [Below.heap_setCell _ _ _ _ (by simpa using h.ne hT)]
    exact h.1
  · unfold upd
    split <;> rfl
theorem Left.clock {w : World} {T : TypeId} {p b n : Nat} {S : Nat → Int} {c : Int} (h : Cw w T p b n S c) (hT : T ≠ 3) (x : Int) : Left w (w.setCell ⟨p, 1, none⟩ (.int .i64 x)) T p b n S x := by
  refine ⟨⟨?_, h.2.setOther (by simpa using (h.ne hT).symm) _⟩, Two.set _ _ _ _ (.inl rfl)⟩
  simp [World.setCell, Array.getElem?_modify, h.1]

set_option maxHeartbeats 400000 in
theorem state_in_raw (p b n j : Nat) (s : Int) (w : World) (hj : j < n) (hp : w.cell? ⟨p, 0, none⟩ = some (.slice (some ⟨b, 0, none⟩) n n)) (hs : w.cell? ⟨b, j, none⟩ = some (.int .i64 s)) :
    Calls Try.prog 15 #[.pointer (some ⟨p, 0, none⟩), .int .i64 j] w fun e w' => e = .returned (.int .i64 s) ∧ w = w' := by
  go_enter Try.func15, Try.ntmps15
  go_wp2
  go_ret
  exact ⟨rfl, rfl⟩

set_option maxHeartbeats 400000 in
theorem state_out_raw (p b n : Nat) (i : Int) (w : World) (hi : i < 0 ∨ (n : Int) ≤ i) (hp : w.cell? ⟨p, 0, none⟩ = some (.slice (some ⟨b, 0, none⟩) n n)) :
    Calls Try.prog 15 #[.pointer (some ⟨p, 0, none⟩), .int .i64 i] w fun e w' => e = .returned (.int .i64 (-1)) ∧ w = w' := by
  rcases hi with hi | hi
  · go_enter Try.func15, Try.ntmps15
    go_wp2
    go_ret
    exact ⟨rfl, rfl⟩
  · have h0 : 0 ≤ i := by omega
    have h1 : decide ((n : Int) ≤ i) = true := by simp; omega
    go_enter Try.func15, Try.ntmps15
    go_wp2
    go_ret
    exact ⟨rfl, rfl⟩

theorem state_any (T : TypeId) (p b n : Nat) (S : Nat → Int) (c i v : Int) (w : World) (hc : Cw w T p b n S c) (hv : stOf n S i = v) :
    Calls Try.prog 15 #[.pointer (some ⟨p, 0, none⟩), .int .i64 i] w fun e w' => e = .returned (.int .i64 v) ∧ w = w' := by
  subst hv
  rcases in_out n i with ⟨j, rfl, hj⟩ | hi
  · rw [stOf_in hj]
    exact state_in_raw p b n j _ w hj hc.ptr (hc.at hj)
  · rw [stOf_out hi]
    exact state_out_raw p b n i w hi hc.ptr

set_option maxHeartbeats 400000 in
theorem alive_raw (p : Nat) (i v : Int) (w : World) (H : Hid (Calls Try.prog 15 #[.pointer (some ⟨p, 0, none⟩), .int .i64 i] w fun e w' => e = .returned (.int .i64 v) ∧ w = w'))
    (hv : v = -1 ∨ v = 0 ∨ v = 1 ∨ v = 2) :
    Calls Try.prog 22 #[.pointer (some ⟨p, 0, none⟩), .int .i64 i] w fun e w' => e = .returned (errV (turnK v)) ∧ w = w' := by
  rcases hv with rfl | rfl | rfl | rfl
  all_goals
    go_enter Try.func22, Try.ntmps22
    go_wp2_with (go_at_call 15; refine H.out.mono ?_; rintro e w' ⟨rfl, rfl⟩)
    go_ret
    exact ⟨rfl, rfl⟩

theorem stOf_four {n : Nat} {S : Nat → Int} (h : OkS S) (i : Int) : stOf n S i = -1 ∨ stOf n S i = 0 ∨ stOf n S i = 1 ∨ stOf n S i = 2 := by
  rcases in_out n i with ⟨j, rfl, hj⟩ | hi
  · rw [stOf_in hj]
    exact .inr (h j)
  · exact .inl (stOf_out hi)

theorem alive_any (T : TypeId) (p b n : Nat) (S : Nat → Int) (c i : Int) (w : World) (hc : Cw w T p b n S c) (hS : OkS S) :
    Calls Try.prog 22 #[.pointer (some ⟨p, 0, none⟩), .int .i64 i] w fun e w' => e = .returned (errV (turnK (stOf n S i))) ∧ w = w' :=
  alive_raw p i _ w (Lib.hid (state_any T p b n S c i _ w hc rfl)) (stOf_four hS i)

set_option maxHeartbeats 400000 in
theorem turn_no (p : Nat) (i s k : Int) (w : World) (hk : k ≠ 0) (H : Hid (Calls Try.prog 22 #[.pointer (some ⟨p, 0, none⟩), .int .i64 i] w fun e w' => e = .returned (errV k) ∧ w = w')) :
    Calls Try.prog 21 #[.pointer (some ⟨p, 0, none⟩), .int .i64 i, .int .i64 s] w fun e w' => e = .returned (errV k) ∧ w = w' := by
  rw [errV_some hk] at *
  clear hk
  go_enter Try.func21, Try.ntmps21
  go_wp2_with (go_at_call 22; refine H.out.mono ?_; rintro e w' ⟨rfl, rfl⟩)
  go_ret
  exact ⟨rfl, rfl⟩

set_option maxHeartbeats 400000 in
theorem turn_yes (p b n j : Nat) (s v : Int) (w : World) (H : Hid (Calls Try.prog 22 #[.pointer (some ⟨p, 0, none⟩), .int .i64 j] w fun e w' => e = .returned .nilIface ∧ w = w')) (hj : j < n)
    (hp : w.cell? ⟨p, 0, none⟩ = some (.slice (some ⟨b, 0, none⟩) n n)) (hs : w.cell? ⟨b, j, none⟩ = some (.int .i64 v)) (hf : ∀ j, w.frozen? ⟨b, j, none⟩ = false) :
    Calls Try.prog 21 #[.pointer (some ⟨p, 0, none⟩), .int .i64 j, .int .i64 s] w fun e w' => e = .returned .nilIface ∧ w.setCell ⟨b, j, none⟩ (.int .i64 s) = w' := by
  go_enter Try.func21, Try.ntmps21
  go_wp2_with (go_at_call 22; refine H.out.mono ?_; rintro e w' ⟨rfl, rfl⟩)
  go_ret
  exact ⟨rfl, rfl⟩

theorem turn_cases {n : Nat} {S : Nat → Int} (i : Int) : turnK (stOf n S i) ≠ 0 ∨ (turnK (stOf n S i) = 0 ∧ ∃ j : Nat, i = j ∧ j < n) := by
  rcases in_out n i with ⟨j, rfl, hj⟩ | hi
  · by_cases h : turnK (stOf n S j) = 0
    · exact .inr ⟨h, j, rfl, hj⟩
    · exact .inl h
  · exact .inl (by rw [stOf_out hi]; decide)

/-- What turn, and the calls that go by it, leave. -/
def Turned (w : World) (T : TypeId) (p b n : Nat) (S : Nat → Int) (c i s : Int) (e : Ending) (w' : World) : Prop := e = .returned (errV (turnK (stOf n S i))) ∧ Left w w' T p b n (turned n S i s) c

theorem turn_any (p b n : Nat) (S : Nat → Int) (c i s : Int) (w : World) (hc : Cw w 46 p b n S c) (hS : OkS S) :
    Calls Try.prog 21 #[.pointer (some ⟨p, 0, none⟩), .int .i64 i, .int .i64 s] w (Turned w 46 p b n S c i s) := by
  have ha := alive_any _ p b n S c i w hc hS
  unfold Turned turned
  rcases turn_cases (n := n) (S := S) i with h | ⟨h, j, rfl, hj⟩
  · rw [if_neg h]
    exact (turn_no p i s _ w h (Lib.hid ha)).mono fun e w' ⟨he, hw⟩ => ⟨he, hw ▸ Left.same hc⟩
  · rw [h, errV_zero] at ha
    rw [if_pos h, h, errV_zero, Int.toNat_natCast]
    exact (turn_yes p b n j s _ w (Lib.hid ha) hj hc.ptr (hc.at hj) (fun j => hc.2.frozen j)).mono fun e w' ⟨he, hw⟩ => ⟨he, hw ▸ Left.state hc (by decide) j s⟩

set_option maxHeartbeats 400000 in
theorem stall_any (p b n : Nat) (S : Nat → Int) (c i : Int) (w : World) (hc : Cw w 46 p b n S c) (hS : OkS S) :
    Calls Try.prog 8 #[.pointer (some ⟨p, 0, none⟩), .int .i64 i] w (Turned w 46 p b n S c i 1) := by
  have H := Lib.hid (turn_any p b n S c i 1 w hc hS)
  clear hc hS
  go_enter Try.func8, Try.ntmps8
  go_wp2_with (go_at_call 21; refine H.out.mono ?_; rintro e w' ⟨rfl, hw⟩)
  go_ret
  exact ⟨rfl, hw⟩

set_option maxHeartbeats 400000 in
theorem wake_any (p b n : Nat) (S : Nat → Int) (c i : Int) (w : World) (hc : Cw w 46 p b n S c) (hS : OkS S) :
    Calls Try.prog 10 #[.pointer (some ⟨p, 0, none⟩), .int .i64 i] w (Turned w 46 p b n S c i 0) := by
  have H := Lib.hid (turn_any p b n S c i 0 w hc hS)
  clear hc hS
  go_enter Try.func10, Try.ntmps10
  go_wp2_with (go_at_call 21; refine H.out.mono ?_; rintro e w' ⟨rfl, hw⟩)
  go_ret
  exact ⟨rfl, hw⟩

set_option maxHeartbeats 400000 in
theorem kill_any (p b n : Nat) (S : Nat → Int) (c i : Int) (w : World) (hc : Cw w 46 p b n S c) (hS : OkS S) :
    Calls Try.prog 11 #[.pointer (some ⟨p, 0, none⟩), .int .i64 i] w (Turned w 46 p b n S c i 2) := by
  have H := Lib.hid (turn_any p b n S c i 2 w hc hS)
  clear hc hS
  go_enter Try.func11, Try.ntmps11
  go_wp2_with (go_at_call 21; refine H.out.mono ?_; rintro e w' ⟨rfl, hw⟩)
  go_ret
  exact ⟨rfl, hw⟩

set_option maxHeartbeats 400000 in
theorem may_no (p : Nat) (i k : Int) (w : World) (hk : k ≠ 0) (H : Hid (Calls Try.prog 22 #[.pointer (some ⟨p, 0, none⟩), .int .i64 i] w fun e w' => e = .returned (errV k) ∧ w = w')) :
    Calls Try.prog 17 #[.pointer (some ⟨p, 0, none⟩), .int .i64 i] w fun e w' => e = .returned (errV k) ∧ w = w' := by
  rw [errV_some hk] at *
  clear hk
  go_enter Try.func17, Try.ntmps17
  go_wp2_with (go_at_call 22; refine H.out.mono ?_; rintro e w' ⟨rfl, rfl⟩)
  go_ret
  exact ⟨rfl, rfl⟩

set_option maxHeartbeats 400000 in
theorem may_yes (p b n j : Nat) (v : Int) (w : World) (H : Hid (Calls Try.prog 22 #[.pointer (some ⟨p, 0, none⟩), .int .i64 j] w fun e w' => e = .returned .nilIface ∧ w = w')) (hj : j < n)
    (hp : w.cell? ⟨p, 0, none⟩ = some (.slice (some ⟨b, 0, none⟩) n n)) (hs : w.cell? ⟨b, j, none⟩ = some (.int .i64 v)) (hv : v = 0 ∨ v = 1) :
    Calls Try.prog 17 #[.pointer (some ⟨p, 0, none⟩), .int .i64 j] w fun e w' => e = .returned (errV (mayK v)) ∧ w = w' := by
  rcases hv with rfl | rfl
  all_goals
    go_enter Try.func17, Try.ntmps17
    go_wp2_with (go_at_call 22; refine H.out.mono ?_; rintro e w' ⟨rfl, rfl⟩)
    go_ret
    exact ⟨rfl, rfl⟩

theorem may_any (T : TypeId) (p b n : Nat) (S : Nat → Int) (c i : Int) (w : World) (hc : Cw w T p b n S c) (hS : OkS S) :
    Calls Try.prog 17 #[.pointer (some ⟨p, 0, none⟩), .int .i64 i] w fun e w' => e = .returned (errV (mayK (stOf n S i))) ∧ w = w' := by
  have ha := alive_any _ p b n S c i w hc hS
  rcases turn_cases (n := n) (S := S) i with h | ⟨h, j, rfl, hj⟩
  · have e : mayK (stOf n S i) = turnK (stOf n S i) := by
      rcases stOf_four (n := n) hS i with e | e | e | e <;> rw [e] at h ⊢ <;> first | rfl | exact absurd rfl h
    rw [e]
    exact may_no p i _ w h (Lib.hid ha)
  · rw [h, errV_zero] at ha
    rw [stOf_in hj] at *
    refine may_yes p b n j _ w (Lib.hid ha) hj hc.ptr (hc.at hj) ?_
    rcases hS j with e | e | e
    · exact .inl e
    · exact .inr e
    · rw [e] at h
      exact absurd h (by decide)

set_option maxHeartbeats 400000 in
theorem tick_raw (p : Nat) (c x : Int) (w : World) (hc : OkC c) (hp : w.cell? ⟨p, 1, none⟩ = some (.int .i64 c)) (hf : ∀ j, w.frozen? ⟨p, j, none⟩ = false) :
    Calls Try.prog 12 #[.pointer (some ⟨p, 0, none⟩), .int .i64 x] w fun e w' => e = .returned (errV (tickK c x)) ∧ (if x < 0 ∨ 1099511627776 - c < x then w else w.setCell ⟨p, 1, none⟩ (.int .i64 (c + x))) = w' := by
  obtain ⟨c1, c2⟩ := hc
  by_cases h1 : x < 0
  · rw [if_pos (.inl h1), show tickK c x = 1 from if_pos (.inl h1)]
    go_enter Try.func12, Try.ntmps12
    go_wp2
    go_ret
    exact ⟨rfl, rfl⟩
  · by_cases h2 : 1099511627776 - c < x
    · rw [if_pos (.inr h2), show tickK c x = 1 from if_pos (.inr h2)]
      go_enter Try.func12, Try.ntmps12
      go_wp2
      go_ret
      exact ⟨rfl, rfl⟩
    · rw [if_neg (by omega), show tickK c x = 0 from if_neg (by omega)]
      have h3 : x ≤ 1099511627776 - c := by omega
      have h4 : 0 ≤ x := by omega
      clear h1 h2
      go_enter Try.func12, Try.ntmps12
      go_wp2
      go_ret
      exact ⟨rfl, rfl⟩

/-- What Tick leaves. -/
def Ticked (w : World) (T : TypeId) (p b n : Nat) (S : Nat → Int) (c x : Int) (e : Ending) (w' : World) : Prop := e = .returned (errV (tickK c x)) ∧ Left w w' T p b n S (ticked c x)

theorem tick_any (p b n : Nat) (S : Nat → Int) (c x : Int) (w : World) (hc : Cw w 46 p b n S c) (hC : OkC c) :
    Calls Try.prog 12 #[.pointer (some ⟨p, 0, none⟩), .int .i64 x] w (Ticked w 46 p b n S c x) :=
  (tick_raw p c x w hC hc.clk hc.frz).mono fun e w' ⟨he, hw⟩ => ⟨he, by
    subst hw
    unfold ticked
    split
    · exact Left.same hc
    · exact Left.clock hc (by decide) _⟩

set_option maxHeartbeats 400000 in
theorem now_any (T : TypeId) (p b n : Nat) (S : Nat → Int) (c : Int) (w : World) (hc : Cw w T p b n S c) :
    Calls Try.prog 19 #[.pointer (some ⟨p, 0, none⟩)] w fun e w' => e = .returned (.int .i64 c) ∧ w = w' := by
  have hp := hc.clk
  clear hc
  go_enter Try.func19, Try.ntmps19
  go_wp2
  go_ret
  exact ⟨rfl, rfl⟩

set_option maxHeartbeats 400000 in
theorem len_any (T : TypeId) (p b n : Nat) (S : Nat → Int) (c : Int) (w : World) (hc : Cw w T p b n S c) :
    Calls Try.prog 20 #[.pointer (some ⟨p, 0, none⟩)] w fun e w' => e = .returned (.int .i64 n) ∧ w = w' := by
  have hp := hc.ptr
  clear hc
  go_enter Try.func20, Try.ntmps20
  go_wp2
  go_ret
  exact ⟨rfl, rfl⟩

theorem Try.info3 : (Try.prog.info? 3).map (fun i => (i.zero, i.size, i.bytes)) = some (some (.int .i64 0), 1, 8) := by kernel_rfl

/-- What New leaves. -/
def Newed (w w' : World) (T : TypeId) (n : Nat) : Prop :=
  Cw w' T (w.heap.size + 1) w.heap.size n (fun _ => 0) 0 ∧ Below w.heap.size w w' ∧ w'.heap.size = w.heap.size + 2

theorem newed (w : World) (T : TypeId) (n : Nat) : Newed w ((w.alloc (.cells (madeCells #[.int .i64 0] n) 3)).alloc (.cells #[.slice (some ⟨w.heap.size, 0, none⟩) n n, .int .i64 0] T)) T n := by
  refine ⟨⟨?_, ?_⟩, ?_, ?_⟩
  · rw [show w.heap.size + 1 = (w.alloc (.cells (madeCells #[.int .i64 0] n) 3)).heap.size by simp]
    exact Deep.blk_alloc_new _ _
  · exact (World.rowIs_made w (.int .i64 0) n 3).alloc _
  · exact ((Below.refl _ _).alloc (Nat.le_refl _) _).alloc (by simp) _
  · simp

set_option maxHeartbeats 400000 in
theorem new_ok (n : Int) (w : World) (h1 : 1 ≤ n) (h2 : n ≤ 16) :
    Calls Try.prog 6 #[.int .i64 n] w fun e w' => e = .returned (.tuple #[.pointer (some ⟨w.heap.size + 1, 0, none⟩), .nilIface]) ∧ Newed w w' 46 n.toNat := by
  obtain ⟨m, rfl⟩ := Int.eq_ofNat_of_zero_le (show 0 ≤ n by omega)
  rw [Int.toNat_natCast]
  have hmk := run_make_row' (P := Try.prog) 31 3 (.int .i64 0) 8 Try.underlying31 Try.info3 rfl .i64 .i64 m (by omega) (by omega)
  go_enter Try.func6, Try.ntmps6
  go_wp2
  go_ret2
  exact ⟨rfl, newed w _ m⟩

set_option maxHeartbeats 400000 in
theorem new_no (n : Int) (w : World) (h : n < 1 ∨ 16 < n) :
    Calls Try.prog 6 #[.int .i64 n] w fun e w' => e = .returned (.tuple #[.pointer none, .iface 29 (.int .i64 1)]) ∧ w = w' := by
  rcases h with h | h
  · go_enter Try.func6, Try.ntmps6
    go_wp2
    go_ret2
    exact ⟨rfl, rfl⟩
  · have h' : ¬ n < 1 := by omega
    go_enter Try.func6, Try.ntmps6
    go_wp2
    go_ret2
    exact ⟨rfl, rfl⟩
end Go.Proofs.Ytjehpdandidkmaa
