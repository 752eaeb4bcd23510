/- The walk of CrewPlays: it returns true, and nothing that was there before the call is changed. -/
import Derived.Test.YtjehpdandidkmaaDeadW
import Derived.BigRegion
import Derived.Deep.QuietTactic
import Derived.BigQuiet
namespace Go.Proofs.Ytjehpdandidkmaa
open Go.RowKit
set_option linter.unusedVariables false

theorem quiet_left {P : Program} {f : FuncId} {args : Array Value} {w : World} {n : Nat} {v : Value}
    (h : Calls P f args (w.drewN n) fun e w' => e = .returned v ∧ w.drewN n = w') : Calls P f args (w.drewN n) fun e w'' => e = .returned v ∧ ∃ m, w'' = w.drewN m :=
  h.mono fun _ _ ⟨he, hm⟩ => ⟨he, n, hm.symm⟩

theorem Cw.drewN {w : World} {T : TypeId} {p b n : Nat} {S : Nat → Int} {c : Int} (h : Cw w T p b n S c) (k : Nat) : Cw (w.drewN k) T p b n S c := h
theorem Cw.alloc {w : World} {T : TypeId} {p b n : Nat} {S : Nat → Int} {c : Int} (h : Cw w T p b n S c) (o : Obj) : Cw (w.alloc o) T p b n S c :=
  h.of_blocks (Below.heap_alloc _ _ _ h.lt.1) (Below.heap_alloc _ _ _ h.lt.2)
theorem Cw.two {w w' : World} {T : TypeId} {p b n p' b' : Nat} {S : Nat → Int} {c : Int} (h : Cw w T p b n S c) (t : Two w w' p' b') (h1 : p ≠ p') (h2 : p ≠ b') (h3 : b ≠ p') (h4 : b ≠ b') : Cw w' T p b n S c :=
  h.of_blocks (t.block p h1 h2) (t.block b h3 h4)

/-- The crew, and the document's own, hold the same. -/
def Rel (p q N : Nat) (w wr : World) (S : Nat → Int) (c : Int) : Prop :=
  Cw wr 46 (p + 1) p N S c ∧ Cw wr 33 (q + 1) q N S c ∧ OkS S ∧ OkC c ∧ Below w.heap.size w wr

/-- Where all lies: the crew ahead of the document's own, both behind what was there. -/
def Lie (w : World) (p q : Nat) : Prop := w.heap.size ≤ p ∧ p + 2 ≤ q

theorem Rel.alloc {p q N : Nat} {w wr : World} {S : Nat → Int} {c : Int} (h : Rel p q N w wr S c) (o : Obj) : Rel p q N w (wr.alloc o) S c :=
  ⟨h.1.alloc o, h.2.1.alloc o, h.2.2.1, h.2.2.2.1, h.2.2.2.2.alloc h.2.2.2.2.size _⟩
theorem Rel.drewN {p q N : Nat} {w wr : World} {S : Nat → Int} {c : Int} (h : Rel p q N w wr S c) (k : Nat) : Rel p q N w (wr.drewN k) S c :=
  ⟨h.1, h.2.1, h.2.2.1, h.2.2.2.1, ⟨h.2.2.2.2.os, h.2.2.2.2.tape, h.2.2.2.2.output, h.2.2.2.2.size, h.2.2.2.2.block⟩⟩
theorem Rel.both {p q N : Nat} {w wr w4 w5 : World} {S S' : Nat → Int} {c c' : Int} (h : Rel p q N w wr S c) (hl : Lie w p q) (hS : OkS S') (hC : OkC c')
    (h4 : Left wr w4 46 (p + 1) p N S' c') (h5 : Left w4 w5 33 (q + 1) q N S' c') : Rel p q N w w5 S' c' := by
  obtain ⟨h1, h2⟩ := hl
  exact ⟨h4.1.two h5.2 (by omega) (by omega) (by omega) (by omega), h5.1, hS, hC, (h.2.2.2.2.trans (h4.2.below (by omega) (by omega))).trans (h5.2.below (by omega) (by omega))⟩
theorem Rel.mid {p q N : Nat} {w wr w4 : World} {S S' : Nat → Int} {c c' : Int} (h : Rel p q N w wr S c) (hl : Lie w p q) (h4 : Left wr w4 46 (p + 1) p N S' c') : Cw w4 33 (q + 1) q N S c := by
  obtain ⟨h1, h2⟩ := hl
  exact h.2.1.two h4.2 (by omega) (by omega) (by omega) (by omega)

/-- The copied deed is still there behind the two calls. -/
theorem deed_mid {wr w4 : World} {p q N : Nat} {w : World} {S S' : Nat → Int} {c c' a b d : Int} (h : Rel p q N w wr S c)
    (h4 : Left (wr.alloc (.cells #[.int .i64 a, .int .i64 b, .int .i64 d] 35)) w4 46 (p + 1) p N S' c') :
    w4.cell? ⟨wr.heap.size, 1, none⟩ = some (.int .i64 b) ∧ w4.cell? ⟨wr.heap.size, 1 + 1, none⟩ = some (.int .i64 d) ∧ w4.heap[wr.heap.size]? = some (.cells #[.int .i64 a, .int .i64 b, .int .i64 d] 35 (0, 0)) := by
  have hl := h.1.lt
  have hx := h4.2.block wr.heap.size (by omega) (by omega)
  rw [Deep.blk_alloc_new] at hx
  exact ⟨by simp [World.cell?, hx], by simp [World.cell?, hx], hx⟩
theorem deed_end {wr w4 w5 : World} {p q N : Nat} {w : World} {S S' : Nat → Int} {c c' a b d : Int} (h : Rel p q N w wr S c)
    (h4 : w4.heap[wr.heap.size]? = some (.cells #[.int .i64 a, .int .i64 b, .int .i64 d] 35 (0, 0)))
    (h5 : Left w4 w5 33 (q + 1) q N S' c') : w5.cell? ⟨wr.heap.size, 1, none⟩ = some (.int .i64 b) := by
  have hl := h.2.1.lt
  have hx := h5.2.block wr.heap.size (by omega) (by omega)
  rw [h4] at hx
  simp [World.cell?, hx]

set_option maxRecDepth 100000 in
set_option maxHeartbeats 1000000 in
theorem plays_some (n : Int) (b off len cap : Nat) (w : World) (h1 : 1 ≤ n) (h2 : n ≤ 16) (hlen : len ≤ 300) (hb : b < w.heap.size)
    (hcell : ∀ j, j < len → ∃ wh at' x, DeedAt w b (off + j * 3) wh at' x) :
    Calls Try.prog 3 #[.int .i64 n, .slice (some ⟨b, off, none⟩) len cap] w fun e w' => e = .returned (.bool true) ∧ Below w.heap.size w w' := by
  obtain ⟨N, rfl⟩ := Int.eq_ofNat_of_zero_le (show 0 ≤ n by omega)
  have HC := Lib.hid hcell
  clear hcell
  have h300 : decide (300 < (len : Int)) = false := by simp; omega
  have hn1 : decide ((N : Int) < 1) = false := by simp; omega
  have hn2 : decide (16 < (N : Int)) = false := by simp; omega
  have hmk := run_make_row' (P := Try.prog) 31 3 (.int .i64 0) 8 Try.underlying31 Try.info3 rfl .i64 .i64 N (by omega) (by omega)
  go_enter Try.func3, Try.ntmps3
  go_wp2_with fail
  refine (up_any _).mono ?_
  rintro e w1 ⟨rfl, hb1⟩
  go_wp2_with fail
  refine (new_ok N _ (by omega) (by omega)).mono ?_
  rintro e w2 ⟨rfl, hn⟩
  rw [Int.toNat_natCast] at hn
  have hn := Lib.hid hn
  go_wp2_with fail
  have hr0 : Rel w1.heap.size w2.heap.size N w ((w2.alloc (.cells (madeCells #[.int .i64 0] N) 3)).alloc (.cells #[.slice (some ⟨w2.heap.size, 0, none⟩) N N, .int .i64 0] 33)) (fun _ => 0) 0 := by
    have hs1 := hb1.size
    have hn := hn.out
    have h3 := newed w2 33 N
    exact ⟨(hn.1.alloc _).alloc _, h3.1, ok0, okc0, (hb1.trans (hn.2.1.mono hs1)).trans (h3.2.1.mono (by have := hn.2.2; omega))⟩
  have hli : Lie w w1.heap.size w2.heap.size := ⟨hb1.size, by have := hn.out.2.2; omega⟩
  clear hb1 hn
  generalize (fun _ : Nat => (0 : Int)) = S0 at hr0
  go_loopw [9] (fun i wr => ∃ (k : Nat) (S : Nat → Int) (c : Int), k ≤ len ∧ i = .int .i64 k ∧ Rel w1.heap.size w2.heap.size N w wr S c) (fun i _ => len - (intOf i).toNat)
  case atStart => exact ⟨0, S0, 0, Nat.zero_le _, rfl, hr0⟩
  case round =>
    clear hr0
    obtain ⟨k, S, c, hk, rfl, hr⟩ := hrel
    by_cases hlt : k < len
    · obtain ⟨wh, at', x, d0, d1, d2, hwh⟩ := HC.out k hlt
      have c0 := (hr.2.2.2.2.cell (by exact hb)).trans d0
      have c1 := (hr.2.2.2.2.cell (by exact hb)).trans d1
      have c2 := (hr.2.2.2.2.cell (by exact hb)).trans d2
      clear d0 d1 d2
      have hpk := pk_lt wh 4 (by omega)
      have hp4 : pk wh 4 = 0 ∨ pk wh 4 = 1 ∨ pk wh 4 = 2 ∨ pk wh 4 = 3 := by omega
      clear hpk
      go_wp2_with fail
      have hxr := hr.alloc (.cells #[.int .i64 wh, .int .i64 at', .int .i64 x] 35)
      rcases hp4 with hp | hp | hp | hp
      · refine (pick_any wh 4 0 _ hwh.1 hwh.2 (by omega) (by omega) hp).mono ?_
        rintro e w4 ⟨rfl, rfl⟩
        clear hp
        go_wp2_with fail
        refine (stall_any _ _ N S c at' _ hxr.1 hxr.2.2.1).mono ?_
        rintro e w4 ⟨rfl, hw4⟩
        obtain ⟨y1, y2, hx4⟩ := deed_mid hr hw4
        have hm4 := hxr.mid hli hw4
        go_wp2_with fail
        refine (rturn_any _ _ N S c at' 1 _ hm4 hxr.2.2.1).mono ?_
        rintro e w5 ⟨rfl, hw5⟩
        have y5 := deed_end hr hx4 hw5
        have hR := hxr.both hli (turned_ok hxr.2.2.1 (.inr (.inl rfl))) hxr.2.2.2.1 hw4 hw5
        clear hm4 hw5 hxr
        obtain ⟨hk1, hk2⟩ := turnK_le (stOf N S at')
        generalize turned N S at' 1 = S4 at hR hw4
        generalize turnK (stOf N S at') = kk at hk1 hk2
        obtain ⟨c4, rfl⟩ : ∃ c4, c4 = c := ⟨c, rfl⟩
        clear hw4 y1 y2 hx4
        go_wp2_with fail
        have hnow := hR.2.1.clk
        go_quiet (first
          | (go_at_call 14; with_reducible exact quiet_left (code_any kk _ hk1 hk2))
          | (go_at_call 15; exact quiet_left (state_any _ _ _ N S4 c4 at' _ _ (hR.1.drewN _) rfl))
          | (go_at_call 16; exact quiet_left (rstate_any _ _ _ N S4 c4 at' _ _ (hR.2.1.drewN _) rfl))
          | (go_at_call 17; exact quiet_left (may_any _ _ _ N S4 c4 at' _ (hR.1.drewN _) hR.2.2.1))
          | (go_at_call 14; with_reducible exact quiet_left (code_any (mayK (stOf N S4 at')) _ (mayK_le _).1 (mayK_le _).2))
          | (go_at_call 18; exact quiet_left (rmay_any _ _ _ N S4 c4 at' _ (hR.2.1.drewN _) hR.2.2.1))
          | (go_at_call 19; exact quiet_left (now_any _ _ _ N S4 c4 _ (hR.1.drewN _)))
          | (go_at_call 20; exact quiet_left (len_any _ _ _ N S4 c4 _ (hR.1.drewN _))))
        go_wp2
        go_roundw
        case rel => exact ⟨k + 1, S4, c4, by omega, by go_num, hR.drewN _⟩
        case measure => simp [intOf]; omega
      · refine (pick_any wh 4 1 _ hwh.1 hwh.2 (by omega) (by omega) hp).mono ?_
        rintro e w4 ⟨rfl, rfl⟩
        clear hp
        go_wp2_with fail
        refine (wake_any _ _ N S c at' _ hxr.1 hxr.2.2.1).mono ?_
        rintro e w4 ⟨rfl, hw4⟩
        obtain ⟨y1, y2, hx4⟩ := deed_mid hr hw4
        have hm4 := hxr.mid hli hw4
        go_wp2_with fail
        refine (rturn_any _ _ N S c at' 0 _ hm4 hxr.2.2.1).mono ?_
        rintro e w5 ⟨rfl, hw5⟩
        have y5 := deed_end hr hx4 hw5
        have hR := hxr.both hli (turned_ok hxr.2.2.1 (.inl rfl)) hxr.2.2.2.1 hw4 hw5
        clear hm4 hw5 hxr
        obtain ⟨hk1, hk2⟩ := turnK_le (stOf N S at')
        generalize turned N S at' 0 = S4 at hR hw4
        generalize turnK (stOf N S at') = kk at hk1 hk2
        obtain ⟨c4, rfl⟩ : ∃ c4, c4 = c := ⟨c, rfl⟩
        clear hw4 y1 y2 hx4
        go_wp2_with fail
        have hnow := hR.2.1.clk
        go_quiet (first
          | (go_at_call 14; with_reducible exact quiet_left (code_any kk _ hk1 hk2))
          | (go_at_call 15; exact quiet_left (state_any _ _ _ N S4 c4 at' _ _ (hR.1.drewN _) rfl))
          | (go_at_call 16; exact quiet_left (rstate_any _ _ _ N S4 c4 at' _ _ (hR.2.1.drewN _) rfl))
          | (go_at_call 17; exact quiet_left (may_any _ _ _ N S4 c4 at' _ (hR.1.drewN _) hR.2.2.1))
          | (go_at_call 14; with_reducible exact quiet_left (code_any (mayK (stOf N S4 at')) _ (mayK_le _).1 (mayK_le _).2))
          | (go_at_call 18; exact quiet_left (rmay_any _ _ _ N S4 c4 at' _ (hR.2.1.drewN _) hR.2.2.1))
          | (go_at_call 19; exact quiet_left (now_any _ _ _ N S4 c4 _ (hR.1.drewN _)))
          | (go_at_call 20; exact quiet_left (len_any _ _ _ N S4 c4 _ (hR.1.drewN _))))
        go_wp2
        go_roundw
        case rel => exact ⟨k + 1, S4, c4, by omega, by go_num, hR.drewN _⟩
        case measure => simp [intOf]; omega
      · refine (pick_any wh 4 2 _ hwh.1 hwh.2 (by omega) (by omega) hp).mono ?_
        rintro e w4 ⟨rfl, rfl⟩
        clear hp
        go_wp2_with fail
        refine (kill_any _ _ N S c at' _ hxr.1 hxr.2.2.1).mono ?_
        rintro e w4 ⟨rfl, hw4⟩
        obtain ⟨y1, y2, hx4⟩ := deed_mid hr hw4
        have hm4 := hxr.mid hli hw4
        go_wp2_with fail
        refine (rturn_any _ _ N S c at' 2 _ hm4 hxr.2.2.1).mono ?_
        rintro e w5 ⟨rfl, hw5⟩
        have y5 := deed_end hr hx4 hw5
        have hR := hxr.both hli (turned_ok hxr.2.2.1 (.inr (.inr rfl))) hxr.2.2.2.1 hw4 hw5
        clear hm4 hw5 hxr
        obtain ⟨hk1, hk2⟩ := turnK_le (stOf N S at')
        generalize turned N S at' 2 = S4 at hR hw4
        generalize turnK (stOf N S at') = kk at hk1 hk2
        obtain ⟨c4, rfl⟩ : ∃ c4, c4 = c := ⟨c, rfl⟩
        clear hw4 y1 y2 hx4
        go_wp2_with fail
        have hnow := hR.2.1.clk
        go_quiet (first
          | (go_at_call 14; with_reducible exact quiet_left (code_any kk _ hk1 hk2))
          | (go_at_call 15; exact quiet_left (state_any _ _ _ N S4 c4 at' _ _ (hR.1.drewN _) rfl))
          | (go_at_call 16; exact quiet_left (rstate_any _ _ _ N S4 c4 at' _ _ (hR.2.1.drewN _) rfl))
          | (go_at_call 17; exact quiet_left (may_any _ _ _ N S4 c4 at' _ (hR.1.drewN _) hR.2.2.1))
          | (go_at_call 14; with_reducible exact quiet_left (code_any (mayK (stOf N S4 at')) _ (mayK_le _).1 (mayK_le _).2))
          | (go_at_call 18; exact quiet_left (rmay_any _ _ _ N S4 c4 at' _ (hR.2.1.drewN _) hR.2.2.1))
          | (go_at_call 19; exact quiet_left (now_any _ _ _ N S4 c4 _ (hR.1.drewN _)))
          | (go_at_call 20; exact quiet_left (len_any _ _ _ N S4 c4 _ (hR.1.drewN _))))
        go_wp2
        go_roundw
        case rel => exact ⟨k + 1, S4, c4, by omega, by go_num, hR.drewN _⟩
        case measure => simp [intOf]; omega
      · refine (pick_any wh 4 3 _ hwh.1 hwh.2 (by omega) (by omega) hp).mono ?_
        rintro e w4 ⟨rfl, rfl⟩
        clear hp
        go_wp2_with fail
        refine (tick_any _ _ N S c x _ hxr.1 hxr.2.2.2.1).mono ?_
        rintro e w4 ⟨rfl, hw4⟩
        obtain ⟨y1, y2, hx4⟩ := deed_mid hr hw4
        have hm4 := hxr.mid hli hw4
        go_wp2_with fail
        refine (rtick_any _ _ N S c x _ hm4 hxr.2.2.2.1).mono ?_
        rintro e w5 ⟨rfl, hw5⟩
        have y5 := deed_end hr hx4 hw5
        have hR := hxr.both hli hxr.2.2.1 (ticked_ok hxr.2.2.2.1) hw4 hw5
        clear hm4 hw5 hxr
        obtain ⟨hk1, hk2⟩ := tickK_le c x
        generalize ticked c x = c4 at hR hw4
        generalize tickK c x = kk at hk1 hk2
        obtain ⟨S4, rfl⟩ : ∃ S4, S4 = S := ⟨S, rfl⟩
        clear hw4 y1 y2 hx4
        go_wp2_with fail
        have hnow := hR.2.1.clk
        go_quiet (first
          | (go_at_call 14; with_reducible exact quiet_left (code_any kk _ hk1 hk2))
          | (go_at_call 15; exact quiet_left (state_any _ _ _ N S4 c4 at' _ _ (hR.1.drewN _) rfl))
          | (go_at_call 16; exact quiet_left (rstate_any _ _ _ N S4 c4 at' _ _ (hR.2.1.drewN _) rfl))
          | (go_at_call 17; exact quiet_left (may_any _ _ _ N S4 c4 at' _ (hR.1.drewN _) hR.2.2.1))
          | (go_at_call 14; with_reducible exact quiet_left (code_any (mayK (stOf N S4 at')) _ (mayK_le _).1 (mayK_le _).2))
          | (go_at_call 18; exact quiet_left (rmay_any _ _ _ N S4 c4 at' _ (hR.2.1.drewN _) hR.2.2.1))
          | (go_at_call 19; exact quiet_left (now_any _ _ _ N S4 c4 _ (hR.1.drewN _)))
          | (go_at_call 20; exact quiet_left (len_any _ _ _ N S4 c4 _ (hR.1.drewN _))))
        go_wp2
        go_roundw
        case rel => exact ⟨k + 1, S4, c4, by omega, by go_num, hR.drewN _⟩
        case measure => simp [intOf]; omega
    · go_wp2
      go_ret
      exact ⟨rfl, hr.2.2.2.2⟩

set_option maxRecDepth 100000 in
set_option maxHeartbeats 1000000 in
theorem plays_bad (n : Int) (a : Option Addr) (len cap : Nat) (w : World) (h : n < 1 ∨ 16 < n) :
    Calls Try.prog 3 #[.int .i64 n, .slice a len cap] w fun e w' => e = .returned (.bool true) ∧ Below w.heap.size w w' := by
  have HE := Lib.hid eql_err
  have HN := Lib.hid h
  have hd : decide (n < 1) = true ∨ decide (n < 1) = false ∧ decide (16 < n) = true := by
    by_cases e : n < 1
    · exact .inl (by simpa using e)
    · exact .inr ⟨by simp; omega, by simp; omega⟩
  clear h
  rcases hd with h1 | ⟨h1, h2⟩
  all_goals
    go_enter Try.func3, Try.ntmps3
    go_wp2_with fail
    refine (up_any _).mono ?_
    rintro e w1 ⟨rfl, hb1⟩
    go_wp2_with fail
    refine (new_no n _ HN.out).mono ?_
    rintro e w2 ⟨rfl, rfl⟩
    have he := HE.out
    go_wp2
    go_ret
    exact ⟨rfl, hb1⟩

set_option maxRecDepth 100000 in
set_option maxHeartbeats 1000000 in
theorem plays_long (n : Int) (a : Option Addr) (len cap : Nat) (w : World) (h1 : 1 ≤ n) (h2 : n ≤ 16) (hlen : 300 < len) (hm : len ≤ maxLen) :
    Calls Try.prog 3 #[.int .i64 n, .slice a len cap] w fun e w' => e = .returned (.bool true) ∧ Below w.heap.size w w' := by
  unfold maxLen at hm
  have h300 : decide (300 < (len : Int)) = true := by simp; omega
  have hn1 : decide (n < 1) = false := by simp; omega
  have hn2 : decide (16 < n) = false := by simp; omega
  go_enter Try.func3, Try.ntmps3
  go_wp2_with fail
  refine (up_any _).mono ?_
  rintro e w1 ⟨rfl, hb1⟩
  go_wp2_with fail
  refine (new_ok n _ (by omega) (by omega)).mono ?_
  rintro e w2 ⟨rfl, hn⟩
  have hbl := hb1.trans (hn.2.1.mono hb1.size)
  clear hb1 hn
  go_wp2
  go_ret
  exact ⟨rfl, hbl⟩

set_option maxRecDepth 100000 in
set_option maxHeartbeats 1000000 in
theorem plays_zero (n : Int) (a : Option Addr) (cap : Nat) (w : World) (h1 : 1 ≤ n) (h2 : n ≤ 16) :
    Calls Try.prog 3 #[.int .i64 n, .slice a 0 cap] w fun e w' => e = .returned (.bool true) ∧ Below w.heap.size w w' := by
  obtain ⟨N, rfl⟩ := Int.eq_ofNat_of_zero_le (show 0 ≤ n by omega)
  have hn1 : decide ((N : Int) < 1) = false := by simp; omega
  have hn2 : decide (16 < (N : Int)) = false := by simp; omega
  have hmk := run_make_row' (P := Try.prog) 31 3 (.int .i64 0) 8 Try.underlying31 Try.info3 rfl .i64 .i64 N (by omega) (by omega)
  go_enter Try.func3, Try.ntmps3
  go_wp2_with fail
  refine (up_any _).mono ?_
  rintro e w1 ⟨rfl, hb1⟩
  go_wp2_with fail
  refine (new_ok N _ (by omega) (by omega)).mono ?_
  rintro e w2 ⟨rfl, hn⟩
  have hbl := hb1.trans (hn.2.1.mono hb1.size)
  have hb2 := hbl.size
  clear hb1 hn
  go_wp2_with fail
  refine wp_loop_rounds 1 ?_
  rw [rounds_succ]
  go_wp2
  go_ret
  exact ⟨rfl, (hbl.alloc hb2 _).alloc (by simp; omega) _⟩
end Go.Proofs.Ytjehpdandidkmaa
