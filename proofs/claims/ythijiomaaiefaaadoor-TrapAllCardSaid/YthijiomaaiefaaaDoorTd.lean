/- The law's told: it is told of a way what the way comes to. The library's variables hold what the program's text lays (the statement's own condition). -/
import Derived.Test.YthijiomaaiefaaaDoorTt
import Derived.Test.YthijiomaaiefaaaDoorTe
import Derived.Test.YthijiomaaiefaaaDoorTa
import Derived.Test.YthijiomaaiefaaaDoorTg
import Derived.Deep.QuietTactic
import Derived.BigQuiet
namespace Go.Proofs.YthijiomaaiefaaaDoor
open Go.RowKit

theorem quiet_left {P : Program} {f : FuncId} {args : Array Value} {w : World} {n : Nat} {v : Value}
    (h : Calls P f args (w.drewN n) fun e w' => e = .returned v ∧ w.drewN n = w') : Calls P f args (w.drewN n) fun e w'' => e = .returned v ∧ ∃ m, w'' = w.drewN m :=
  h.mono fun _ _ ⟨he, hm⟩ => ⟨he, n, hm.symm⟩

theorem eql_code_same (a : Int) (w : World) : (binOp .eql 20 (.iface 42 (.int .i64 a)) (.iface 42 (.int .i64 a))).run Tryd.prog w = .ok (.bool true) w := by
  rw [eql_code]; simp

/-- What errors.As leaves: the variable is set; else only what is new. -/
theorem as_any (tb tt : Nat) (old : Value) (w : World) (hl : Libs w) (ht0 : w.heap[tt]? = some (.cells #[old] 44 (0, 0))) :
    Calls Tryd.prog 20 #[.iface 44 (.pointer (some ⟨tb, 0, none⟩)), .iface 49 (.pointer (some ⟨tt, 0, none⟩))] w fun e w' =>
      e = .returned (.bool true) ∧ w.grownBy w' (some tt) ∧ w'.heap[tt]? = some (.cells #[.pointer (some ⟨tb, 0, none⟩)] 44 (0, 0)) := by
  have hlt := block_lt ht0
  refine (as_hit ⟨tb, 0, none⟩ ⟨tt, 0, none⟩ old w hl.et (cell_block ht0) (free_block ht0)).mono ?_
  rintro e w' ⟨rfl, rfl⟩
  refine ⟨rfl, ⟨rfl, rfl, rfl, by simp [World.setCell]; omega, ?_⟩, ?_⟩
  · intro k hk hne
    rw [Below.heap_setCell _ _ _ _ (by intro h; exact hne (by rw [h]))]
    rw [Below.heap_alloc _ _ _ (by simp; omega), Below.heap_alloc _ _ _ (by simp; omega), Below.heap_alloc _ _ _ (by simp; omega), Below.heap_alloc _ _ _ hk]
  · simp only [World.setCell, Array.getElem?_modify, if_true]
    rw [Below.heap_alloc _ _ _ (by simp; omega), Below.heap_alloc _ _ _ (by simp; omega), Below.heap_alloc _ _ _ (by simp; omega), Below.heap_alloc _ _ _ hlt, ht0]
    rfl

set_option maxHeartbeats 800000 in
/-- told of a way that comes back. -/
theorem told_back (wh cd : Int) (tx : ByteArray) (w : World) (h1 : -9223372036854775808 ≤ wh) (h2 : wh ≤ 9223372036854775807) (hk : pk wh 5 < 2) :
    Calls Tryd.prog 11 #[wayV wh cd tx, .nilIface] w fun e w' => e = .returned (.bool true) ∧ Below w.heap.size w w' := by
  obtain ⟨r, hr⟩ : ∃ r, pk wh 5 = r := ⟨_, rfl⟩
  rw [hr] at hk
  have HR := Lib.hid hr
  clear hr
  go_enter Tryd.func11, Tryd.ntmps11
  go_wp2_with (go_at_call 12; refine (pick_any _ 5 r _ (by omega) (by omega) (by omega) (by omega) HR.out).mono ?_; rintro e w' ⟨rfl, rfl⟩)
  go_ret
  exact ⟨rfl, ((Below.refl _ _).alloc (Nat.le_refl _) _).alloc (by simp) _⟩

theorem panic_prefix (s : ByteArray) : ((⟨#[112, 97, 110, 105, 99]⟩ : ByteArray) ++ s).extract 0 5 = ⟨#[112, 97, 110, 105, 99]⟩ := by
  exact ByteArray.extract_append_eq_left rfl

theorem below_drewN {B n : Nat} {w w' : World} (h : Below B w w') : Below B w (w'.drewN n) := ⟨h.os, h.tape, h.output, h.size, h.block⟩

/-- What told knows once the Trapped is found. -/
structure Found (w : World) (tb : Nat) (v : Value) (wh cd : Int) (tx : ByteArray) (w3 : World) : Prop where
  c0 : w3.cell? ⟨w.heap.size, 0, none⟩ = some (.int .i64 wh)
  c1 : w3.cell? ⟨w.heap.size, 0 + 1, none⟩ = some (.int .i64 cd)
  c2 : w3.cell? ⟨w.heap.size, 0 + 1 + 1, none⟩ = some (.string tx)
  ct : w3.cell? ⟨w.heap.size + 1, 0, none⟩ = some (.pointer (some ⟨tb, 0, none⟩))
  cv : w3.cell? ⟨tb, 0, none⟩ = some v
  libs : Libs w3
  bel : Below w.heap.size w w3
  size : w.heap.size + 2 ≤ w3.heap.size
  lt : tb < w.heap.size

theorem Found.on {w : World} {tb : Nat} {v : Value} {wh cd : Int} {tx : ByteArray} {w3 w4 : World} (h : Found w tb v wh cd tx w3) (hb : Below w3.heap.size w3 w4) : Found w tb v wh cd tx w4 := by
  have hs := h.size
  have hlt := h.lt
  refine ⟨?_, ?_, ?_, ?_, ?_, h.libs.below hb (by omega), h.bel.trans (hb.mono (by omega)), Nat.le_trans hs hb.size, hlt⟩
  · rw [hb.cell (by show w.heap.size < _; omega)]; exact h.c0
  · rw [hb.cell (by show w.heap.size < _; omega)]; exact h.c1
  · rw [hb.cell (by show w.heap.size < _; omega)]; exact h.c2
  · rw [hb.cell (by show w.heap.size + 1 < _; omega)]; exact h.ct
  · rw [hb.cell (by show tb < _; omega)]; exact h.cv

theorem found_of {w : World} {tb : Nat} {v : Value} {wh cd : Int} {tx : ByteArray} {w3 : World} (hl : Libs w) (hc : w.cell? ⟨tb, 0, none⟩ = some v)
    (hgr : ((w.alloc (wayB wh cd tx)).alloc (.cells #[.pointer none] 44)).grownBy w3 (some (w.heap.size + 1)))
    (htt : w3.heap[w.heap.size + 1]? = some (.cells #[.pointer (some ⟨tb, 0, none⟩)] 44 (0, 0))) : Found w tb v wh cd tx w3 := by
  have hlt := World.block_lt_of_cell? w _ hc
  have hsz := hgr.size
  simp at hsz
  have hold : ∀ k, k < w.heap.size → w3.heap[k]? = w.heap[k]? := fun k hk => by
    rw [hgr.block k (by simp; omega) (by simp; omega), Below.heap_alloc _ _ _ (by simp; omega), Below.heap_alloc _ _ _ hk]
  have hway : w3.heap[w.heap.size]? = some (wayB wh cd tx) := by
    rw [hgr.block w.heap.size (by simp; omega) (by simp), Below.heap_alloc _ _ _ (by simp)]
    exact heap_alloc_new w _
  refine ⟨?_, ?_, ?_, cell_block htt, ?_, hl.on (fun k hk => hold k (by have := hl.size; omega)), ⟨hgr.os, hgr.tape, hgr.output, by omega, hold⟩, by omega, hlt⟩
  · simp [World.cell?, hway]
  · simp [World.cell?, hway]
  · simp [World.cell?, hway]
  · rw [World.cell?_of_block (w := w) (hold tb hlt)]; exact hc

set_option maxHeartbeats 2000000 in
set_option maxRecDepth 100000 in
/-- told of a way that panics with a number. -/
theorem told_code (wh cd : Int) (tx : ByteArray) (tb : Nat) (v : Value) (w : World) (h1 : -9223372036854775808 ≤ wh) (h2 : wh ≤ 9223372036854775807) (h3 : -9223372036854775808 ≤ cd) (h4 : cd ≤ 9223372036854775807)
    (ht : tx.size ≤ 140737488351232) (hl : Libs w) (hk : pk wh 5 = 2) (hv : v = .iface 42 (.int .i64 cd)) (hc : w.cell? ⟨tb, 0, none⟩ = some v) :
    Calls Tryd.prog 11 #[wayV wh cd tx, .iface 44 (.pointer (some ⟨tb, 0, none⟩))] w fun e w' => e = .returned (.bool true) ∧ Below w.heap.size w w' := by
  have hpv : PV wh cd tx v := .inl ⟨hk, hv⟩
  subst hv
  have HR := Lib.hid hk
  clear hk
  have hAs := as_any tb (w.heap.size + 1) (.pointer none) _ ((hl.alloc (wayB wh cd tx)).alloc (.cells #[.pointer none] 44)) (by have := heap_alloc_new (w.alloc (wayB wh cd tx)) (.cells #[.pointer none] 44); simpa using this)
  have HC := Lib.hid hc
  clear hc
  have heq := eql_code_same
  go_enter Tryd.func11, Tryd.ntmps11
  go_wp2_with (first | (go_at_call 12; refine (pick_any _ 5 2 _ (by omega) (by omega) (by omega) (by omega) HR.out).mono ?_; rintro e w' ⟨rfl, rfl⟩) | (go_at_call 20; refine hAs.mono ?_; rintro e w3 ⟨rfl, hgr, htt⟩; refine Hid.out ?_))
  have F := found_of hl HC.out hgr htt
  clear hgr htt hAs
  have ct := F.ct
  refine Lib.hid ?_
  go_wp2_with (go_at_call 21; refine (error_any tb wh cd tx _ h3 h4 ht _ F.libs hpv F.cv).mono ?_; clear ct; rintro e w4 ⟨s, hs, rfl, hb⟩; refine Hid.out ?_)
  have F4 := F.on hb
  clear hb F
  obtain ⟨c0, c1, c2, ct, cv, _, hbel, _, _⟩ := F4
  have hp := panic_prefix s
  refine Lib.hid ?_
  go_wp2
  go_quiet ((go_at_call 17; exact quiet_left (is_same tb _ cd _ (EO.code cd) cv)))
  go_wp2
  go_ret
  exact ⟨rfl, below_drewN hbel⟩

set_option maxHeartbeats 2000000 in
set_option maxRecDepth 100000 in
/-- told of a way that panics with a text. -/
theorem told_text (wh cd : Int) (tx : ByteArray) (tb : Nat) (v : Value) (w : World) (h1 : -9223372036854775808 ≤ wh) (h2 : wh ≤ 9223372036854775807) (h3 : -9223372036854775808 ≤ cd) (h4 : cd ≤ 9223372036854775807)
    (ht : tx.size ≤ 140737488351232) (hl : Libs w) (hk : pk wh 5 = 3) (hv : v = .iface 9 (.string tx)) (hc : w.cell? ⟨tb, 0, none⟩ = some v) :
    Calls Tryd.prog 11 #[wayV wh cd tx, .iface 44 (.pointer (some ⟨tb, 0, none⟩))] w fun e w' => e = .returned (.bool true) ∧ Below w.heap.size w w' := by
  have hpv : PV wh cd tx v := .inr (.inl ⟨hk, hv⟩)
  subst hv
  have HR := Lib.hid hk
  clear hk
  have hAs := as_any tb (w.heap.size + 1) (.pointer none) _ ((hl.alloc (wayB wh cd tx)).alloc (.cells #[.pointer none] 44)) (by have := heap_alloc_new (w.alloc (wayB wh cd tx)) (.cells #[.pointer none] 44); simpa using this)
  have HC := Lib.hid hc
  clear hc
  have heq := eql_text
  go_enter Tryd.func11, Tryd.ntmps11
  go_wp2_with (first | (go_at_call 12; refine (pick_any _ 5 3 _ (by omega) (by omega) (by omega) (by omega) HR.out).mono ?_; rintro e w' ⟨rfl, rfl⟩) | (go_at_call 20; refine hAs.mono ?_; rintro e w3 ⟨rfl, hgr, htt⟩; refine Hid.out ?_))
  have F := found_of hl HC.out hgr htt
  clear hgr htt hAs
  have ct := F.ct
  refine Lib.hid ?_
  go_wp2_with (go_at_call 21; refine (error_any tb wh cd tx _ h3 h4 ht _ F.libs hpv F.cv).mono ?_; clear ct; rintro e w4 ⟨s, hs, rfl, hb⟩; refine Hid.out ?_)
  have F4 := F.on hb
  clear hb F
  obtain ⟨c0, c1, c2, ct, cv, _, hbel, _, _⟩ := F4
  have hp := panic_prefix s
  refine Lib.hid ?_
  go_wp2
  go_quiet ((go_at_call 17; exact quiet_left (is_same tb _ 11 _ (EO.text tx) cv)))
  go_wp2
  go_ret
  exact ⟨rfl, below_drewN hbel⟩

set_option maxHeartbeats 2000000 in
set_option maxRecDepth 100000 in
/-- told of a way that panics by a list without a place. -/
theorem told_out (wh cd : Int) (tx : ByteArray) (tb : Nat) (v : Value) (w : World) (h1 : -9223372036854775808 ≤ wh) (h2 : wh ≤ 9223372036854775807) (h3 : -9223372036854775808 ≤ cd) (h4 : cd ≤ 9223372036854775807)
    (ht : tx.size ≤ 140737488351232) (hl : Libs w) (x : Value) (hk : pk wh 5 = 4) (hv : v = .iface 8 x) (hc : w.cell? ⟨tb, 0, none⟩ = some v) :
    Calls Tryd.prog 11 #[wayV wh cd tx, .iface 44 (.pointer (some ⟨tb, 0, none⟩))] w fun e w' => e = .returned (.bool true) ∧ Below w.heap.size w w' := by
  have hpv : PV wh cd tx v := .inr (.inr ⟨hk, x, hv⟩)
  subst hv
  have HR := Lib.hid hk
  clear hk
  have hAs := as_any tb (w.heap.size + 1) (.pointer none) _ ((hl.alloc (wayB wh cd tx)).alloc (.cells #[.pointer none] 44)) (by have := heap_alloc_new (w.alloc (wayB wh cd tx)) (.cells #[.pointer none] 44); simpa using this)
  have HC := Lib.hid hc
  clear hc
  go_enter Tryd.func11, Tryd.ntmps11
  go_wp2_with (first | (go_at_call 12; refine (pick_any _ 5 4 _ (by omega) (by omega) (by omega) (by omega) HR.out).mono ?_; rintro e w' ⟨rfl, rfl⟩) | (go_at_call 20; refine hAs.mono ?_; rintro e w3 ⟨rfl, hgr, htt⟩; refine Hid.out ?_))
  have F := found_of hl HC.out hgr htt
  clear hgr htt hAs
  have ct := F.ct
  refine Lib.hid ?_
  go_wp2_with (go_at_call 21; refine (error_any tb wh cd tx _ h3 h4 ht _ F.libs hpv F.cv).mono ?_; clear ct; rintro e w4 ⟨s, hs, rfl, hb⟩; refine Hid.out ?_)
  have F4 := F.on hb
  clear hb F
  obtain ⟨c0, c1, c2, ct, cv, _, hbel, _, _⟩ := F4
  have hp := panic_prefix s
  refine Lib.hid ?_
  go_wp2_with (first | (go_at_call 17; refine (is_out tb _ 11 _ cv).mono ?_; rintro e w' ⟨rfl, rfl⟩) | (go_at_call 22; refine (errors_unwrap tb _ _ _ (EO.out x) cv).mono ?_; rintro e w' ⟨rfl, rfl⟩))
  go_ret
  exact ⟨rfl, hbel⟩

/-- told of a way that panics. -/
theorem told_dies (wh cd : Int) (tx : ByteArray) (tb : Nat) (v : Value) (w : World) (h1 : -9223372036854775808 ≤ wh) (h2 : wh ≤ 9223372036854775807) (h3 : -9223372036854775808 ≤ cd) (h4 : cd ≤ 9223372036854775807)
    (ht : tx.size ≤ 140737488351232) (hl : Libs w) (hv : PV wh cd tx v) (hc : w.cell? ⟨tb, 0, none⟩ = some v) :
    Calls Tryd.prog 11 #[wayV wh cd tx, .iface 44 (.pointer (some ⟨tb, 0, none⟩))] w fun e w' => e = .returned (.bool true) ∧ Below w.heap.size w w' := by
  rcases hv with ⟨hk, hv⟩ | ⟨hk, hv⟩ | ⟨hk, x, hv⟩
  · exact told_code wh cd tx tb v w h1 h2 h3 h4 ht hl hk hv hc
  · exact told_text wh cd tx tb v w h1 h2 h3 h4 ht hl hk hv hc
  · exact told_out wh cd tx tb v w h1 h2 h3 h4 ht hl x hk hv hc
end Go.Proofs.YthijiomaaiefaaaDoor
