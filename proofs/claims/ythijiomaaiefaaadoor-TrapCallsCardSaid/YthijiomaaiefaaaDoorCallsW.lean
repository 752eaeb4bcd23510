/- The walk of the law TrapCalls. The library's variables hold what the program's text lays (the statement's own condition). -/
import Derived.Test.YthijiomaaiefaaaDoorTs
namespace Go.Proofs.YthijiomaaiefaaaDoor
open Go.RowKit

/-- What the law knows between its calls. -/
structure St (w : World) (nb : Nat) (wh cd : Int) (tx : ByteArray) (k : Int) (wr : World) : Prop where
  way : wr.heap[w.heap.size]? = some (wayB wh cd tx)
  cnt : wr.heap[nb]? = some (cntB k)
  libs : Libs wr
  bel : Below w.heap.size w wr
  lt : w.heap.size < nb

theorem St.grown {w : World} {nb : Nat} {wh cd : Int} {tx : ByteArray} {k k' : Int} {wr w' : World} (h : St w nb wh cd tx k wr) (hl : Libs w) (hg : wr.grownBy w' (some nb)) (hn : w'.heap[nb]? = some (cntB k')) : St w nb wh cd tx k' w' := by
  have hlt := h.lt
  have h1 := block_lt h.cnt
  have hs := hl.size
  refine ⟨?_, hn, ?_, ?_, hlt⟩
  · rw [hg.block _ (by omega) (by simp; omega)]; exact h.way
  · exact h.libs.on fun j hj => hg.block j (by omega) (by simp; omega)
  · exact h.bel.trans ⟨hg.os, hg.tape, hg.output, hg.size, fun j hj => hg.block j (by omega) (by simp; omega)⟩

theorem St.below {w : World} {nb : Nat} {wh cd : Int} {tx : ByteArray} {k : Int} {wr w' : World} (h : St w nb wh cd tx k wr) (hl : Libs w) (hb : Below wr.heap.size wr w') : St w nb wh cd tx k w' :=
  h.grown hl ⟨hb.os, hb.tape, hb.output, hb.size, fun j hj _ => hb.block j hj⟩ (by rw [hb.block _ (block_lt h.cnt)]; exact h.cnt)

section
variable {w : World} {nb : Nat} {wh cd : Int} {tx : ByteArray} {k : Int} {wr : World}

theorem call_step_back (h : St w nb wh cd tx k wr) (hl : Libs w) (h1 : -9223372036854775808 ≤ wh) (h2 : wh ≤ 9223372036854775807) (h3 : -9223372036854775808 ≤ cd) (h4 : cd ≤ 9223372036854775807) (ht : tx.size ≤ 140737488351232)
    (hk : pk wh 5 < 2) (hk0 : 0 ≤ k) (hk1 : k ≤ 1000) :
    Calls Tryd.prog 6 #[.func (.func 7) #[] #[.pointer (some ⟨w.heap.size, 0, none⟩), .pointer (some ⟨nb, 0, none⟩)]] wr fun e w' => e = .returned .nilIface ∧ St w nb wh cd tx (k + 1) w' := by
  have hb := block_lt h.cnt
  have hlt := h.lt
  have hn : (wr.alloc (.cells #[.nilIface] 26)).heap[nb]? = some (cntB k) := by rw [Below.heap_alloc _ _ _ hb]; exact h.cnt
  refine (callG_back _ _ nb wh cd tx k wr hent1 h.cnt (clo_back w.heap.size nb wh cd tx k _ (WayAt.of_block ?_ h1 h2 h3 h4 ht) hk hk0 hk1 (cell_block hn) (free_block hn) (by simp; omega))).mono ?_
  · rw [Below.heap_alloc _ _ _ (by omega)]; exact h.way
  · rintro e w' ⟨rfl, hg, hc⟩
    exact ⟨rfl, h.grown hl hg hc⟩

theorem call_step_dies (h : St w nb wh cd tx k wr) (h1 : -9223372036854775808 ≤ wh) (h2 : wh ≤ 9223372036854775807) (h3 : -9223372036854775808 ≤ cd) (h4 : cd ≤ 9223372036854775807) (ht : tx.size ≤ 140737488351232)
    (hk : 2 ≤ pk wh 5) :
    Calls Tryd.prog 6 #[.func (.func 7) #[] #[.pointer (some ⟨w.heap.size, 0, none⟩), .pointer (some ⟨nb, 0, none⟩)]] wr (TellsW wh cd tx id wr) := by
  have hb := block_lt h.cnt
  have hlt := h.lt
  refine callG_dies _ _ wh cd tx wr hent1 ?_
  have := clo_dies w.heap.size nb wh cd tx (wr.alloc (.cells #[.nilIface] 26)) (WayAt.of_block (by rw [Below.heap_alloc _ _ _ (by omega)]; exact h.way) h1 h2 h3 h4 ht) hk
  simpa using this

theorem get_step_back (h : St w nb wh cd tx k wr) (hl : Libs w) (h1 : -9223372036854775808 ≤ wh) (h2 : wh ≤ 9223372036854775807) (h3 : -9223372036854775808 ≤ cd) (h4 : cd ≤ 9223372036854775807) (ht : tx.size ≤ 140737488351232)
    (hk : pk wh 5 < 2) (hk0 : 0 ≤ k) (hk1 : k ≤ 1000) :
    Calls Tryd.prog 9 #[.func (.func 10) #[] #[.pointer (some ⟨w.heap.size, 0, none⟩), .pointer (some ⟨nb, 0, none⟩)]] wr fun e w' => e = .returned (.tuple #[.int .i64 7, .nilIface]) ∧ St w nb wh cd tx (k + 1) w' := by
  have hb := block_lt h.cnt
  have hlt := h.lt
  have hn : (inGet 10 #[.pointer (some ⟨w.heap.size, 0, none⟩), .pointer (some ⟨nb, 0, none⟩)] wr).heap[nb]? = some (cntB k) := by rw [Below.heap_alloc _ _ _ (by simp; omega), Below.heap_alloc _ _ _ (by simp; omega), Below.heap_alloc _ _ _ hb]; exact h.cnt
  refine (getG_back _ _ nb wh cd tx k 7 wr hent2 h.cnt (clo2_back w.heap.size nb wh cd tx k _ (WayAt.of_block ?_ h1 h2 h3 h4 ht) hk hk0 hk1 (cell_block hn) (free_block hn) (by simp; omega))).mono ?_
  · rw [Below.heap_alloc _ _ _ (by simp; omega), Below.heap_alloc _ _ _ (by simp; omega), Below.heap_alloc _ _ _ (by omega)]; exact h.way
  · rintro e w' ⟨rfl, hg, hc⟩
    exact ⟨rfl, h.grown hl hg hc⟩

theorem get_step_dies (h : St w nb wh cd tx k wr) (h1 : -9223372036854775808 ≤ wh) (h2 : wh ≤ 9223372036854775807) (h3 : -9223372036854775808 ≤ cd) (h4 : cd ≤ 9223372036854775807) (ht : tx.size ≤ 140737488351232)
    (hk : 2 ≤ pk wh 5) :
    Calls Tryd.prog 9 #[.func (.func 10) #[] #[.pointer (some ⟨w.heap.size, 0, none⟩), .pointer (some ⟨nb, 0, none⟩)]] wr (TellsW wh cd tx (fun v => .tuple #[.int .i64 0, v]) wr) := by
  have hb := block_lt h.cnt
  have hlt := h.lt
  refine getG_dies _ _ wh cd tx wr hent2 ?_
  have := clo2_dies w.heap.size nb wh cd tx (inGet 10 #[.pointer (some ⟨w.heap.size, 0, none⟩), .pointer (some ⟨nb, 0, none⟩)] wr)
    (WayAt.of_block (by rw [Below.heap_alloc _ _ _ (by simp; omega), Below.heap_alloc _ _ _ (by simp; omega), Below.heap_alloc _ _ _ (by omega)]; exact h.way) h1 h2 h3 h4 ht) hk
  simpa using this
end

set_option maxHeartbeats 2000000 in
set_option maxRecDepth 100000 in
theorem calls_back (wh cd : Int) (tx : ByteArray) (w : World) (hl : Libs w) (h1 : -9223372036854775808 ≤ wh) (h2 : wh ≤ 9223372036854775807) (h3 : -9223372036854775808 ≤ cd) (h4 : cd ≤ 9223372036854775807) (ht : tx.size ≤ 140737488351232) (hk : pk wh 5 < 2) :
    Calls Tryd.prog 3 #[wayV wh cd tx] w fun e w' => e = .returned (.bool true) ∧ Below w.heap.size w w' := by
  have hmf : ∀ (fn : Fn) (first cap : Array Value) (w : World), (Instr.makeFunc fn first cap).run Tryd.prog w = .ok (.func fn first cap) w := fun _ _ _ _ => rfl
  have hup := up_any (w.alloc (wayB wh cd tx))
  go_enter Tryd.func3, Tryd.ntmps3
  go_wp2_with (go_at_call 5; refine hup.mono ?_; rintro e w2 ⟨rfl, hb2⟩; refine Hid.out ?_)
  clear hup
  have hs2 := hb2.size
  simp at hs2
  have S3 : St w w2.heap.size wh cd tx 0 (w2.alloc (.cells #[.int .i64 0] 3)) := by
    have hbb : Below w.heap.size w w2 := ((Below.refl _ _).alloc (Nat.le_refl _) _).trans (hb2.mono (by simp))
    refine ⟨?_, heap_alloc_new w2 _, ?_, hbb.alloc (by omega) _, by omega⟩
    · rw [Below.heap_alloc _ _ _ (by omega), hb2.block _ (by simp)]
      exact heap_alloc_new w _
    · exact (hl.below hbb (by have := hl.size; omega)).alloc _
  clear hb2
  refine Lib.hid ?_
  go_wp2_with (go_at_call 6; refine (call_step_back S3 hl h1 h2 h3 h4 ht hk (by omega) (by omega)).mono ?_; rintro e w4 ⟨rfl, S4⟩; refine Hid.out ?_)
  clear S3
  refine Lib.hid ?_
  go_wp2_with (go_at_call 9; refine (get_step_back S4 hl h1 h2 h3 h4 ht hk (by omega) (by omega)).mono ?_; rintro e w5 ⟨rfl, S5⟩; refine Hid.out ?_)
  clear S4
  obtain ⟨c0, c1, c2, _⟩ := WayAt.of_block S5.way h1 h2 h3 h4 ht
  refine Lib.hid ?_
  go_wp2_with (go_at_call 11; refine (told_back wh cd tx _ h1 h2 hk).mono ?_; clear c0 c1 c2; rintro e w6 ⟨rfl, hb6⟩; refine Hid.out ?_)
  have S6 := S5.below hl hb6
  clear S5 hb6
  obtain ⟨c0, c1, c2, _⟩ := WayAt.of_block S6.way h1 h2 h3 h4 ht
  refine Lib.hid ?_
  go_wp2_with (go_at_call 11; refine (told_back wh cd tx _ h1 h2 hk).mono ?_; clear c0 c1 c2; rintro e w7 ⟨rfl, hb7⟩; refine Hid.out ?_)
  have S7 := S6.below hl hb7
  clear S6 hb7
  obtain ⟨c0, c1, c2, _⟩ := WayAt.of_block S7.way h1 h2 h3 h4 ht
  have hbel := S7.bel
  have hcn : w7.cell? ⟨w2.heap.size, 0, none⟩ = some (.int .i64 2) := cell_block S7.cnt
  clear S7
  obtain ⟨r, hr⟩ : ∃ r, pk wh 5 = r := ⟨_, rfl⟩
  rw [hr] at hk
  have HR := Lib.hid hr
  clear hr
  refine Lib.hid ?_
  go_wp2_with (go_at_call 12; refine (pick_any _ 5 r _ (by omega) (by omega) (by omega) (by omega) HR.out).mono ?_; rintro e w' ⟨rfl, rfl⟩)
  go_ret
  exact ⟨rfl, hbel⟩

set_option maxHeartbeats 2000000 in
set_option maxRecDepth 100000 in
theorem calls_dies (wh cd : Int) (tx : ByteArray) (w : World) (hl : Libs w) (h1 : -9223372036854775808 ≤ wh) (h2 : wh ≤ 9223372036854775807) (h3 : -9223372036854775808 ≤ cd) (h4 : cd ≤ 9223372036854775807) (ht : tx.size ≤ 140737488351232) (hk : 2 ≤ pk wh 5) :
    Calls Tryd.prog 3 #[wayV wh cd tx] w fun e w' => e = .returned (.bool true) ∧ Below w.heap.size w w' := by
  have hmf : ∀ (fn : Fn) (first cap : Array Value) (w : World), (Instr.makeFunc fn first cap).run Tryd.prog w = .ok (.func fn first cap) w := fun _ _ _ _ => rfl
  have hup := up_any (w.alloc (wayB wh cd tx))
  go_enter Tryd.func3, Tryd.ntmps3
  go_wp2_with (go_at_call 5; refine hup.mono ?_; rintro e w2 ⟨rfl, hb2⟩; refine Hid.out ?_)
  clear hup
  have hs2 := hb2.size
  simp at hs2
  have S3 : St w w2.heap.size wh cd tx 0 (w2.alloc (.cells #[.int .i64 0] 3)) := by
    have hbb : Below w.heap.size w w2 := ((Below.refl _ _).alloc (Nat.le_refl _) _).trans (hb2.mono (by simp))
    refine ⟨?_, heap_alloc_new w2 _, ?_, hbb.alloc (by omega) _, by omega⟩
    · rw [Below.heap_alloc _ _ _ (by omega), hb2.block _ (by simp)]
      exact heap_alloc_new w _
    · exact (hl.below hbb (by have := hl.size; omega)).alloc _
  clear hb2
  refine Lib.hid ?_
  go_wp2_with (go_at_call 6; refine (call_step_dies S3 h1 h2 h3 h4 ht hk).mono ?_; rintro e w4 ⟨tb, v, hv, rfl, htb, hge, hb4⟩; refine Hid.out ?_)
  have S4 := S3.below hl hb4
  clear S3 hb4 hge
  refine Lib.hid ?_
  go_wp2_with (go_at_call 9; refine (get_step_dies S4 h1 h2 h3 h4 ht hk).mono ?_; rintro e w5 ⟨tb2, v2, hv2, rfl, htb2, hge2, hb5⟩; refine Hid.out ?_)
  have S5 := S4.below hl hb5
  have htb5 : w5.heap[tb]? = some (.cells #[v] 46 (0, 0)) := by rw [hb5.block _ (block_lt htb)]; exact htb
  clear S4 hb5 hge2 htb
  obtain ⟨c0, c1, c2, _⟩ := WayAt.of_block S5.way h1 h2 h3 h4 ht
  have hct := cell_block htb5
  have HT := Lib.hid htb2
  clear htb5 htb2
  refine Lib.hid ?_
  go_wp2_with (go_at_call 11; refine (told_dies wh cd tx tb v _ h1 h2 h3 h4 ht S5.libs hv hct).mono ?_; clear c0 c1 c2 hct; rintro e w6 ⟨rfl, hb6⟩; refine Hid.out ?_)
  have S6 := S5.below hl hb6
  have htb6 : w6.heap[tb2]? = some (.cells #[v2] 46 (0, 0)) := by rw [hb6.block _ (block_lt HT.out)]; exact HT.out
  have hct := cell_block htb6
  clear S5 hb6 HT htb6
  obtain ⟨c0, c1, c2, _⟩ := WayAt.of_block S6.way h1 h2 h3 h4 ht
  refine Lib.hid ?_
  go_wp2_with (go_at_call 11; refine (told_dies wh cd tx tb2 v2 _ h1 h2 h3 h4 ht S6.libs hv2 hct).mono ?_; clear c0 c1 c2 hct; rintro e w7 ⟨rfl, hb7⟩; refine Hid.out ?_)
  have S7 := S6.below hl hb7
  clear S6 hb7
  obtain ⟨c0, c1, c2, _⟩ := WayAt.of_block S7.way h1 h2 h3 h4 ht
  have hbel := S7.bel
  have hcn : w7.cell? ⟨w2.heap.size, 0, none⟩ = some (.int .i64 0) := cell_block S7.cnt
  clear S7
  obtain ⟨r, hr⟩ : ∃ r, pk wh 5 = r := ⟨_, rfl⟩
  rw [hr] at hk
  have HR := Lib.hid hr
  clear hr
  refine Lib.hid ?_
  go_wp2_with (go_at_call 12; refine (pick_any _ 5 r _ (by omega) (by omega) (by omega) (by omega) HR.out).mono ?_; rintro e w' ⟨rfl, rfl⟩)
  go_ret
  exact ⟨rfl, hbel⟩

/-- The law TrapCalls is true of every way. -/
theorem calls_any (wh cd : Int) (tx : ByteArray) (w : World) (hl : Libs w) (h1 : -9223372036854775808 ≤ wh) (h2 : wh ≤ 9223372036854775807) (h3 : -9223372036854775808 ≤ cd) (h4 : cd ≤ 9223372036854775807) (ht : tx.size ≤ 140737488351232) :
    Calls Tryd.prog 3 #[wayV wh cd tx] w fun e w' => e = .returned (.bool true) ∧ Below w.heap.size w w' := by
  by_cases hk : pk wh 5 < 2
  · exact calls_back wh cd tx w hl h1 h2 h3 h4 ht hk
  · exact calls_dies wh cd tx w hl h1 h2 h3 h4 ht (by omega)
end Go.Proofs.YthijiomaaiefaaaDoor
