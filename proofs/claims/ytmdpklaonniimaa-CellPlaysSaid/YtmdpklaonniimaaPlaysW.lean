/- The walk of CellPlays: it returns true, and nothing that was there before the call is changed. -/
import Derived.Test.YtmdpklaonniimaaW2
import Derived.BigRegion
namespace Go.Proofs.Ytmdpklaonniimaa
open Go.RowKit

/-- The cells, and the document's own row, hold the same. -/
def PlaysRel (p b mb N : Nat) (w wr : World) (k : Nat) (V S : Nat → Int) : Prop :=
  Cl wr p b N V S ∧ wr.rowIs mb 35 (N * 2) (mix V S) ∧ Below w.heap.size w wr ∧ ∀ j, 0 ≤ S j ∧ S j ≤ k

/-- A deed, as four cells from an offset on. -/
def DeedAt (w : World) (b off : Nat) (wh at' od v : Int) : Prop :=
  w.cell? ⟨b, off, none⟩ = some (.int .i64 wh) ∧ w.cell? ⟨b, off + 1, none⟩ = some (.int .i64 at') ∧ w.cell? ⟨b, off + 1 + 1, none⟩ = some (.int .u64 od) ∧ w.cell? ⟨b, off + 1 + 1 + 1, none⟩ = some (.int .u64 v) ∧
    (-9223372036854775808 ≤ wh ∧ wh ≤ 9223372036854775807)

theorem pick_is (c r : Int) (w : World) (h1 : -9223372036854775808 ≤ c) (h2 : c ≤ 9223372036854775807) (h : pk c = r) :
    Calls Try.prog 8 #[.int .i64 c, .int .i64 4] w fun e w' => e = .returned (.int .i64 r) ∧ w = w' := by
  subst h
  exact pick_any c w h1 h2

theorem PlaysRel.more {p b mb N : Nat} {w wr : World} {k : Nat} {V S : Nat → Int} (h : PlaysRel p b mb N w wr k V S) : PlaysRel p b mb N w wr (k + 1) V S :=
  ⟨h.1, h.2.1, h.2.2.1, fun j => ⟨(h.2.2.2 j).1, by have := (h.2.2.2 j).2; omega⟩⟩

theorem PlaysRel.alloc {p b mb N : Nat} {w wr : World} {k : Nat} {V S : Nat → Int} (h : PlaysRel p b mb N w wr k V S) (o : Obj) : PlaysRel p b mb N w (wr.alloc o) k V S := by
  refine ⟨⟨?_, h.1.2.alloc _⟩, h.2.1.alloc _, h.2.2.1.alloc h.2.2.1.size _, h.2.2.2⟩
  have hlt : p < wr.heap.size := (Array.getElem?_eq_some_iff.1 h.1.1).1
  rw [Below.heap_alloc _ _ _ hlt]
  exact h.1.1

theorem PlaysRel.apart {p b mb N : Nat} {w wr : World} {k : Nat} {V S : Nat → Int} (h : PlaysRel p b mb N w wr k V S) : b ≠ mb ∧ p ≠ mb := by
  obtain ⟨c, hc, _⟩ := h.2.1
  obtain ⟨d, hd, _⟩ := h.1.2
  constructor
  · rintro rfl
    rw [hc] at hd
    simp at hd
  · rintro rfl
    have h1 := h.1.1
    rw [hc] at h1
    simp at h1

theorem PlaysRel.wrote {p b mb N : Nat} {w wx w4 : World} {k j : Nat} {V S : Nat → Int} {x : Int} (h : PlaysRel p b mb N w wx k V S) (hb : w.heap.size ≤ b) (hmb : w.heap.size ≤ mb)
    (h4 : Wrote wx w4 p b N V S j x) :
    PlaysRel p b mb N w ((w4.setCell ⟨mb, j * 2, none⟩ (.int .u64 x)).setCell ⟨mb, j * 2 + 1, none⟩ (.int .i64 (S j + 1))) (k + 1) (upd V j x) (upd S j (S j + 1)) := by
  obtain ⟨ab, ap⟩ := h.apart
  have hblk : w4.heap[mb]? = wx.heap[mb]? := h4.2.1.block mb h.2.1.lt (by simpa using fun e => ab e.symm)
  refine ⟨⟨?_, ?_⟩, row_set (h.2.1.of_block hblk) j x _, ?_, fun i => ?_⟩
  · rw [Below.heap_setCell _ _ _ _ (by simpa using ap), Below.heap_setCell _ _ _ _ (by simpa using ap)]
    exact h4.1.1
  · exact (h4.1.2.setOther (by simpa using ab) _).setOther (by simpa using ab) _
  · exact ((h.2.2.1.trans (grown_below h4.2.1 hb h.2.2.1.size)).setCell (by simpa using hmb) _).setCell (by simpa using hmb) _
  · have hi := h.2.2.2 i
    have hj := h.2.2.2 j
    by_cases e : i = j
    · subst e
      rw [upd_same]
      omega
    · rw [upd_other _ _ _ _ e]
      omega

theorem PlaysRel.drew {p b mb N : Nat} {w wr : World} {k : Nat} {V S : Nat → Int} (h : PlaysRel p b mb N w wr k V S) : PlaysRel p b mb N w wr.drew k V S :=
  ⟨⟨h.1.1, h.1.2.drew⟩, h.2.1.drew, h.2.2.1.drew, h.2.2.2⟩

/-- What the walk asks for behind a call that wrote. -/
theorem behind {p b mb N : Nat} {w wr w4 : World} {k j : Nat} {V S : Nat → Int} {x wh at' od v : Int} (h : PlaysRel p b mb N w wr k V S) (hj : j < N)
    (h4 : Wrote (wr.alloc (.cells #[.int .i64 wh, .int .i64 at', .int .u64 od, .int .u64 v] 33)) w4 p b N V S j x) :
    w4.cell? ⟨wr.heap.size, 1, none⟩ = some (.int .i64 at') ∧ w4.cell? ⟨wr.heap.size, 1 + 1, none⟩ = some (.int .u64 od) ∧ w4.cell? ⟨wr.heap.size, 1 + 1 + 1, none⟩ = some (.int .u64 v) ∧
      w4.cell? ⟨mb, j * 2, none⟩ = some (.int .u64 (V j)) ∧ w4.cell? ⟨mb, j * 2 + 1, none⟩ = some (.int .i64 (S j)) ∧ (∀ o, w4.frozen? ⟨mb, o, none⟩ = false) ∧ mb ≠ wr.heap.size := by
  have hx := h.alloc (.cells #[.int .i64 wh, .int .i64 at', .int .u64 od, .int .u64 v] 33)
  obtain ⟨ab, _⟩ := h.apart
  have hblk := h4.2.1.block mb hx.2.1.lt (by simpa using fun e => ab e.symm)
  have hrow := hx.2.1.of_block hblk
  have hbs : b < wr.heap.size := h.1.2.lt
  have hms : mb < wr.heap.size := h.2.1.lt
  have hxb := h4.2.1.block wr.heap.size (by simp) (by simp; omega)
  rw [Deep.blk_alloc_new] at hxb
  refine ⟨by simp [World.cell?, hxb], by simp [World.cell?, hxb], by simp [World.cell?, hxb], row_val hrow hj, row_stp hrow hj, fun o => hrow.frozen o, by omega⟩

theorem behind2 {w4 : World} {a mb j : Nat} {at' s x : Int} (x1 : w4.cell? ⟨a, 1, none⟩ = some (.int .i64 at')) (n1 : w4.cell? ⟨mb, j * 2 + 1, none⟩ = some (.int .i64 s))
    (nf : ∀ o, w4.frozen? ⟨mb, o, none⟩ = false) :
    (w4.setCell ⟨mb, j * 2, none⟩ (.int .u64 x)).cell? ⟨a, 1, none⟩ = some (.int .i64 at') ∧ (w4.setCell ⟨mb, j * 2, none⟩ (.int .u64 x)).cell? ⟨mb, j * 2 + 1, none⟩ = some (.int .i64 s) ∧
      (∀ o, (w4.setCell ⟨mb, j * 2, none⟩ (.int .u64 x)).frozen? ⟨mb, o, none⟩ = false) := by
  refine ⟨?_, ?_, ?_⟩
  · rw [World.cell?_setCell_other _ _ _ _ (by simp)]
    exact x1
  · rw [World.cell?_setCell_other _ _ _ _ (by simp)]
    exact n1
  · intro o
    rw [← nf o]
    exact World.frozen?_setCell _ _ _ _

set_option maxRecDepth 100000 in
set_option maxHeartbeats 1000000 in
theorem plays_some (n : Int) (b off len cap : Nat) (w : World) (h1 : 1 ≤ n) (h2 : n ≤ 1000) (hlen : len ≤ 300) (hb : b < w.heap.size)
    (hcell : ∀ j, j < len → ∃ wh at' od v, DeedAt w b (off + j * 4) wh at' od v) :
    Calls Try.prog 3 #[.int .i64 n, .slice (some ⟨b, off, none⟩) len cap] w fun e w' => e = .returned (.bool true) ∧ Below w.heap.size w w' := by
  obtain ⟨N, rfl⟩ := Int.eq_ofNat_of_zero_le (show 0 ≤ n by omega)
  have HC := Lib.hid hcell
  clear hcell
  have h300 : decide (300 < (len : Int)) = false := by simp; omega
  have hn1 : decide ((N : Int) < 1) = false := by simp; omega
  have hn2 : decide (1000 < (N : Int)) = false := by simp; omega
  have hmk := run_make_pairs 30 35 Try.underlying30 Try.info35 N (by omega)
  go_enter Try.func3, Try.ntmps3
  go_wp2_with fail
  refine (up_any _).mono ?_
  rintro e w1 ⟨rfl, hb1⟩
  go_wp2_with fail
  refine (new_ok N _ (by omega) (by omega)).mono ?_
  rintro e w2 ⟨rfl, hn⟩
  rw [Int.toNat_natCast] at hn
  have hn := Lib.hid hn
  go_wp2_with fail
  go_loopw [9] (fun i wr => ∃ (k : Nat) (V S : Nat → Int), k ≤ len ∧ i = .int .i64 k ∧ PlaysRel (w1.heap.size + 1) w1.heap.size w2.heap.size N w wr k V S) (fun i _ => len - (intOf i).toNat)
  case atStart =>
    have hs1 := hb1.size
    have hn := hn.out
    refine ⟨0, fun _ => 0, fun _ => 0, Nat.zero_le _, rfl, ⟨?_, hn.1.2.alloc _⟩, made_row w2 N 35, (hb1.trans (hn.2.1.mono hs1)).alloc (by have := hn.2.2; omega) _, fun j => ⟨Int.le_refl _, Int.le_refl _⟩⟩
    rw [Below.heap_alloc _ _ _ (by have := hn.2.2; omega)]
    exact hn.1.1
  case round =>
    obtain ⟨k, V, S, hk, rfl, hr⟩ := hrel
    by_cases hlt : k < len
    · obtain ⟨wh, at', od, v, d0, d1, d2, d3, hwh⟩ := HC.out k hlt
      have c0 := (hr.2.2.1.cell (by exact hb)).trans d0
      have c1 := (hr.2.2.1.cell (by exact hb)).trans d1
      have c2 := (hr.2.2.1.cell (by exact hb)).trans d2
      have c3 := (hr.2.2.1.cell (by exact hb)).trans d3
      clear d0 d1 d2 d3
      have hsz := hb1.size
      have hN2 := Lib.hid hn.out.2.2
      by_cases hin : 0 ≤ at' ∧ at' < N
      · obtain ⟨j, rfl⟩ := Int.eq_ofNat_of_zero_le hin.1
        have hj : j < N := by omega
        clear hin
        have hmb : w2.heap.size < wr.heap.size := hr.2.1.lt
        have m0 := row_val hr.2.1 hj
        have m1 := row_stp hr.2.1 hj
        have hS := hr.2.2.2 j
        go_wp2_with fail
        refine (stamp_in _ _ N j V S _ (by omega) (by omega) (hr.alloc _).1).mono ?_
        rintro e w3 ⟨rfl, rfl⟩
        rw [Int.toNat_natCast]
        go_wp2_with fail
        have hxr := hr.alloc (.cells #[.int .i64 wh, .int .i64 j, .int .u64 od, .int .u64 v] 33)
        obtain ⟨hS0, hS1⟩ := hS
        rcases pk_cases wh with hp | hp | hp | hp
        · refine (pick_is wh 0 _ hwh.1 hwh.2 hp).mono ?_
          rintro e w3 ⟨rfl, rfl⟩
          clear hp
          go_wp2_with fail
          refine (load_in _ _ N j V S _ (by omega) (by omega) hxr.1).mono ?_
          rintro e w3 ⟨rfl, rfl⟩
          rw [Int.toNat_natCast]
          go_wp2
          go_roundw
          case rel => exact ⟨k + 1, V, S, by omega, by go_num, hxr.more⟩
          case measure => simp [intOf]; omega
        · refine (pick_is wh 1 _ hwh.1 hwh.2 hp).mono ?_
          rintro e w3 ⟨rfl, rfl⟩
          clear hp
          go_wp2_with fail
          refine (store_in _ _ N j v V S _ (by omega) (by omega) hxr.1 hS0 (by rw [Int.toNat_natCast]; omega)).mono ?_
          rintro e w4 ⟨rfl, hw4⟩
          try rw [Int.toNat_natCast] at hw4
          have R := hxr.wrote hsz (by have := hN2.out; omega) hw4
          obtain ⟨x1, x2, x3, n0, n1, nf, hne⟩ := behind hr hj hw4
          clear hw4 m0 m1
          go_wp2_with fail
          obtain ⟨y1, y2, yf⟩ := behind2 (x := v) x1 n1 nf
          clear x1 x2 x3 n0 n1 nf
          generalize w4.setCell ⟨w2.heap.size, j * 2, none⟩ (.int .u64 v) = w5 at *
          go_region
          go_wp2
          go_roundw
          case rel => exact ⟨k + 1, _, _, by omega, by go_num, R.drew⟩
          case measure => simp [intOf]; omega
        · by_cases hod : V j = od
          · subst hod
            refine (pick_is wh 2 _ hwh.1 hwh.2 hp).mono ?_
            rintro e w3 ⟨rfl, rfl⟩
            clear hp
            go_wp2_with fail
            refine (swap_yes _ _ N j v V S _ (by omega) (by omega) hxr.1 hS0 (by rw [Int.toNat_natCast]; omega)).mono ?_
            rintro e w4 ⟨rfl, hw4⟩
            try rw [Int.toNat_natCast] at hw4
            have R := hxr.wrote hsz (by have := hN2.out; omega) hw4
            obtain ⟨x1, x2, x3, n0, n1, nf, hne⟩ := behind hr hj hw4
            clear hw4 m0 m1
            go_wp2_with fail
            obtain ⟨y1, y2, yf⟩ := behind2 (x := v) x1 n1 nf
            clear x1 x2 x3 n0 n1 nf
            generalize w4.setCell ⟨w2.heap.size, j * 2, none⟩ (.int .u64 v) = w5 at *
            go_region
            go_wp2
            go_roundw
            case rel => exact ⟨k + 1, _, _, by omega, by go_num, R.drew⟩
            case measure => simp [intOf]; omega
          · have hob : (V j == od) = false := by simpa using hod
            have HO := Lib.hid hod
            clear hod
            refine (pick_is wh 2 _ hwh.1 hwh.2 hp).mono ?_
            rintro e w3 ⟨rfl, rfl⟩
            clear hp
            go_wp2_with fail
            refine (swap_no _ _ N j od v V S _ (by omega) (by omega) hxr.1 (by rw [Int.toNat_natCast]; exact HO.out)).mono ?_
            rintro e w3 ⟨rfl, rfl⟩
            go_wp2
            go_roundw
            case rel => exact ⟨k + 1, V, S, by omega, by go_num, hxr.more⟩
            case measure => simp [intOf]; omega
        · refine (pick_is wh 3 _ hwh.1 hwh.2 hp).mono ?_
          rintro e w3 ⟨rfl, rfl⟩
          clear hp
          go_wp2_with fail
          refine (add_in _ _ N j v V S _ (by omega) (by omega) hxr.1 hS0 (by rw [Int.toNat_natCast]; omega)).mono ?_
          rintro e w4 ⟨rfl, hw4⟩
          try rw [Int.toNat_natCast] at hw4
          have R := hxr.wrote hsz (by have := hN2.out; omega) hw4
          obtain ⟨x1, x2, x3, n0, n1, nf, hne⟩ := behind hr hj hw4
          clear hw4 m0 m1
          go_wp2_with fail
          obtain ⟨y1, y2, yf⟩ := behind2 (x := (IntKind.u64.wrap (V j + v))) x1 n1 nf
          clear x1 x2 x3 n0 n1 nf
          generalize w4.setCell ⟨w2.heap.size, j * 2, none⟩ (.int .u64 (IntKind.u64.wrap (V j + v))) = w5 at *
          go_region
          go_wp2
          go_roundw
          case rel => exact ⟨k + 1, _, _, by omega, by go_num, R.drew⟩
          case measure => simp [intOf]; omega
      · have hout : at' < 0 ∨ (N : Int) ≤ at' := by omega
        have HO := Lib.hid hout
        have hxr := hr.alloc (.cells #[.int .i64 wh, .int .i64 at', .int .u64 od, .int .u64 v] 33)
        have h0d : (at' < 0) ∨ (0 ≤ at' ∧ decide (at' < (N : Int)) = false) := by
          by_cases h : at' < 0
          · exact .inl h
          · exact .inr ⟨by omega, by simp; omega⟩
        clear hin hout
        rcases h0d with hlo | ⟨hlo, hhi⟩
        all_goals
          go_wp2_with fail
          refine (stamp_out _ _ N at' V S _ HO.out hxr.1).mono ?_
          rintro e w3 ⟨rfl, rfl⟩
          go_wp2_with fail
          rcases pk_cases wh with hp | hp | hp | hp
          · refine (pick_is wh 0 _ hwh.1 hwh.2 hp).mono ?_
            rintro e w3 ⟨rfl, rfl⟩
            clear hp
            go_wp2_with fail
            refine (load_out _ _ N at' V S _ HO.out hxr.1).mono ?_
            rintro e w3 ⟨rfl, rfl⟩
            go_wp2_with fail
            refine (code_six _).mono ?_
            rintro e w3 ⟨rfl, rfl⟩
            go_wp2
            go_roundw
            case rel => exact ⟨k + 1, V, S, by omega, by go_num, hxr.more⟩
            case measure => simp [intOf]; omega
          · refine (pick_is wh 1 _ hwh.1 hwh.2 hp).mono ?_
            rintro e w3 ⟨rfl, rfl⟩
            clear hp
            go_wp2_with fail
            refine (store_out _ _ N at' v V S _ HO.out hxr.1).mono ?_
            rintro e w3 ⟨rfl, rfl⟩
            go_wp2_with fail
            refine (code_six _).mono ?_
            rintro e w3 ⟨rfl, rfl⟩
            go_wp2
            go_roundw
            case rel => exact ⟨k + 1, V, S, by omega, by go_num, hxr.more⟩
            case measure => simp [intOf]; omega
          · refine (pick_is wh 2 _ hwh.1 hwh.2 hp).mono ?_
            rintro e w3 ⟨rfl, rfl⟩
            clear hp
            go_wp2_with fail
            refine (swap_out _ _ N at' od v V S _ HO.out hxr.1).mono ?_
            rintro e w3 ⟨rfl, rfl⟩
            go_wp2_with fail
            refine (code_six _).mono ?_
            rintro e w3 ⟨rfl, rfl⟩
            go_wp2
            go_roundw
            case rel => exact ⟨k + 1, V, S, by omega, by go_num, hxr.more⟩
            case measure => simp [intOf]; omega
          · refine (pick_is wh 3 _ hwh.1 hwh.2 hp).mono ?_
            rintro e w3 ⟨rfl, rfl⟩
            clear hp
            go_wp2_with fail
            refine (add_out _ _ N at' v V S _ HO.out hxr.1).mono ?_
            rintro e w3 ⟨rfl, rfl⟩
            go_wp2_with fail
            refine (code_six _).mono ?_
            rintro e w3 ⟨rfl, rfl⟩
            go_wp2
            go_roundw
            case rel => exact ⟨k + 1, V, S, by omega, by go_num, hxr.more⟩
            case measure => simp [intOf]; omega
    · go_wp2
      go_ret
      exact ⟨rfl, hr.2.2.1⟩
end Go.Proofs.Ytmdpklaonniimaa
