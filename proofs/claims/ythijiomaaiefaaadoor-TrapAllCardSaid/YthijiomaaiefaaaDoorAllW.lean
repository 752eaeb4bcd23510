/- The walk of the law TrapAll. The library's variables hold what the program's text lays (the statement's own condition). -/
import Derived.Test.YthijiomaaiefaaaDoorTl
import Derived.OwnWalk
import Derived.Laws.OwnMore
import Derived.StillTailTactics
namespace Go.Proofs.YthijiomaaiefaaaDoor
open Go.RowKit

/-- A way that came in. -/
structure LWay (w : World) (b off : Nat) (wh cd : Int) (tx : ByteArray) : Prop where
  c0 : w.cell? ⟨b, off, none⟩ = some (.int .i64 wh)
  c1 : w.cell? ⟨b, off + 1, none⟩ = some (.int .i64 cd)
  c2 : w.cell? ⟨b, off + 1 + 1, none⟩ = some (.string tx)
  h1 : -9223372036854775808 ≤ wh ∧ wh ≤ 9223372036854775807
  h3 : -9223372036854775808 ≤ cd ∧ cd ≤ 9223372036854775807
  ht : tx.size ≤ 140737488351232

theorem LWay.below {w w' : World} {b off B : Nat} {wh cd : Int} {tx : ByteArray} (h : LWay w b off wh cd tx) (hb : Below B w w') (hB : b < B) : LWay w' b off wh cd tx :=
  ⟨by rw [hb.cell hB]; exact h.c0, by rw [hb.cell hB]; exact h.c1, by rw [hb.cell hB]; exact h.c2, h.h1, h.h3, h.ht⟩

/-- A block of another type is not the row's. -/
theorem ownBlock_ne {w : World} {base : Nat} {e : TypeId} {size : Nat} {v : Value} {n : Nat} {xs : List Value} (h : w.ownsRow base e size v n xs) {q : Nat} {c : Array Value} {t : TypeId} {fr : Nat × Nat} (hq : w.heap[q]? = some (.cells c t fr)) (hne : t ≠ e) : some q ≠ v.ownBlock := by
  rcases h.2 with ⟨rfl, _⟩ | ⟨g, cap, cur, rfl, _, hh, _⟩
  · simp [Value.ownBlock]
  · intro he
    simp only [Value.ownBlock, Option.some.injEq] at he
    subst he
    rw [hq] at hh
    injection hh with hh
    injection hh with _ ht _
    exact hne ht

/-- What holds behind k closures. -/
def LInv (w : World) (nb : Nat) (wh cd : Nat → Int) (tx : Nat → ByteArray) (k : Nat) (v : Value) (wr : World) : Prop :=
  ∃ pb : Nat → Nat, wr.ownsRow (nb + 1) 1 1 v k ((List.range k).map (fnV nb pb)) ∧ (∀ j, j < k → wr.heap[pb j]? = some (wayB (wh j) (cd j) (tx j))) ∧ wr.heap[nb]? = some (cntB 0) ∧ Below w.heap.size w wr

section
variable {w : World} {nb : Nat} {wh cd : Nat → Int} {tx : Nat → ByteArray} {k : Nat} {v : Value} {wr : World}

theorem l_step (pb : Nat → Nat) (hown : wr.ownsRow (nb + 1) 1 1 v k ((List.range k).map (fnV nb pb))) (hways : ∀ j, j < k → wr.heap[pb j]? = some (wayB (wh j) (cd j) (tx j))) (hn : wr.heap[nb]? = some (cntB 0)) (hb : Below w.heap.size w wr)
    (hw : w.heap.size ≤ nb) {o : Obj} {v' : Value} {w1 : World}
    (hown' : w1.ownsRow (nb + 1) 1 1 v' (k + 1) ((List.range k).map (fnV nb pb) ++ [.func (.func 13) #[] #[.pointer (some ⟨wr.heap.size, 0, none⟩), .pointer (some ⟨nb, 0, none⟩)]]))
    (hgr : ((wr.alloc (wayB (wh k) (cd k) (tx k))).alloc o).grownBy w1 v.ownBlock) : LInv w nb wh cd tx (k + 1) v' w1 := by
  have hlt := hown.lt
  have hnl := block_lt hn
  refine ⟨fun j => if j = k then wr.heap.size else pb j, ?_, ?_, ?_, ?_⟩
  · have e : (List.range (k + 1)).map (fnV nb fun j => if j = k then wr.heap.size else pb j) = (List.range k).map (fnV nb pb) ++ [.func (.func 13) #[] #[.pointer (some ⟨wr.heap.size, 0, none⟩), .pointer (some ⟨nb, 0, none⟩)]] := by
      rw [List.range_succ, List.map_append]
      congr 1
      · refine List.map_congr_left fun j hj => ?_
        have : j < k := List.mem_range.1 hj
        simp [fnV, show ¬ j = k by omega]
      · simp [fnV]
    rw [e]
    exact hown'
  · intro j hj
    by_cases hjk : j = k
    · subst hjk
      simp only [if_true]
      rw [hgr.block _ (by simp; omega) (fun e => by have := hlt _ e.symm; omega), Below.heap_alloc _ _ _ (by simp)]
      exact heap_alloc_new wr _
    · simp only [hjk, if_false]
      have hj' := hways j (by omega)
      have hl := block_lt hj'
      rw [hgr.block _ (by simp; omega) (ownBlock_ne hown hj' (by decide)), Below.heap_alloc _ _ _ (by simp; omega), Below.heap_alloc _ _ _ hl]
      exact hj'
  · rw [hgr.block _ (by simp; omega) (ownBlock_ne hown hn (by decide)), Below.heap_alloc _ _ _ (by simp; omega), Below.heap_alloc _ _ _ hnl]
    exact hn
  · have hsz := hb.size
    exact ((hb.alloc (by omega) _).alloc (by simp; omega) _).grown hgr (by simp; omega) (fun j e => by have := hlt j e; omega)
end

theorem Tryd.infoFn : (Tryd.prog.info? 1).map (fun i => (i.zero, i.size, i.bytes)) = some (some .nilFunc, 1, 8) := by kernel_rfl

set_option maxHeartbeats 4000000 in
set_option maxRecDepth 100000 in
theorem all_some (a : Option Addr) (b off len cap : Nat) (w : World) (hl : Libs w) (hlen : len ≤ 100) (wh cd : Nat → Int) (tx : Nat → ByteArray) (ha : 0 < len → a = some ⟨b, off, none⟩ ∧ b < w.heap.size)
    (hc : ∀ i, i < len → LWay w b (off + i * 3) (wh i) (cd i) (tx i)) :
    Calls Tryd.prog 4 #[.slice a len cap] w fun e w' => e = .returned (.bool true) ∧ Below w.heap.size w w' := by
  have hmf : ∀ (fn : Fn) (first cap : Array Value) (w : World), (Instr.makeFunc fn first cap).run Tryd.prog w = .ok (.func fn first cap) w := fun _ _ _ _ => rfl
  obtain ⟨i0, hi, hz0, hz1, hz2⟩ := info_parts Tryd.infoFn
  have HI := Lib.hid hi
  have HZ := Lib.hid (And.intro hz0 (And.intro hz1 hz2))
  have HA := Lib.hid ha
  have HC := Lib.hid hc
  clear ha hc hi hz0 hz1 hz2
  go_enter Tryd.func4, Tryd.ntmps4
  go_wp2_with (go_at_call 5; refine (up_any w).mono ?_; rintro e w1 ⟨rfl, hb1⟩; refine Hid.out ?_)
  have hs1 := hb1.size
  have hst : LInv w w1.heap.size wh cd tx 0 (.slice none 0 0) (w1.alloc (.cells #[.int .i64 0] 3)) :=
    ⟨fun _ => 0, World.ownsRow_nil _ _ _ _, fun j hj => by omega, heap_alloc_new w1 _, hb1.alloc hs1 _⟩
  clear hb1
  refine Lib.hid ?_
  go_wp2
  go_loopw [5, 6, 7] (fun bc v i wr => ∃ k : Nat, k ≤ len ∧ i = .int .i64 k ∧ bc = .int .i64 (bk wh k) ∧ LInv w w1.heap.size wh cd tx k v wr) (fun _ _ i _ => len - (intOf i).toNat)
  case atStart => exact ⟨0, Nat.zero_le _, rfl, rfl, hst⟩
  case round =>
    obtain ⟨k, hk, rfl, rfl, pb, hown, hways, hn, hb⟩ := hrel
    clear hst
    have hbl := bk_le wh k
    by_cases hlt : k < len
    · obtain ⟨rfl, hbw⟩ := HA.out (by omega)
      obtain ⟨c0, c1, c2, ⟨h1, h2⟩, _, _⟩ := (HC.out k hlt).below hb hbw
      have HO := Lib.hid hown
      have HW := Lib.hid hways
      have HN := Lib.hid hn
      clear hown hways hn
      have hsz := hb.size
      have hnl := block_lt HN.out
      by_cases hp : pk (wh k) 5 < 2
      · have HP := Lib.hid hp
        go_wp2_with (first
          | (go_at_call 12; refine (pick_any _ 5 (pk (wh k) 5) _ (by omega) (by omega) (by omega) (by omega) rfl).mono ?_; rintro e w' ⟨rfl, rfl⟩)
          | (at_builtin; refine wpList_append_own _ rfl _ _ 37 rfl (w1.heap.size + 1) 1 i0 .nilFunc 1 8 Tryd.underlying37 HI.out HZ.out.1 HZ.out.2.1 HZ.out.2.2 rfl (by decide) _ _ _ rfl ((HO.out.alloc _).alloc _) ⟨wr.heap.size + 1, 0, none⟩ 1 1 [.func (.func 13) #[] #[.pointer (some ⟨wr.heap.size, 0, none⟩), .pointer (some ⟨w1.heap.size, 0, none⟩)]] rfl rfl ?c1 ?c2 ?c3 ?c4 ?c5 ?_))
        case c1 =>
          intro j u hu
          rcases j with _ | j
          · simp at hu
            subst hu
            simp [Addr.add]
          · simp at hu
        case c2 =>
          intro u hu
          simp at hu
          subst hu
          rfl
        case c3 => unfold maxLen; omega
        case c4 => omega
        case c5 => simp; omega
        intro v' w2 hown' hgr _
        have hnew := l_step pb HO.out HW.out HN.out hb (by omega) hown' hgr
        clear hown' hgr
        go_wp2
        go_roundw
        case rel => exact ⟨k + 1, by omega, by go_num, by rw [bk_yes HP.out], hnew⟩
        case measure => simp [intOf]; omega
      · have HP := Lib.hid hp
        go_wp2_with (first
          | (go_at_call 12; refine (pick_any _ 5 (pk (wh k) 5) _ (by omega) (by omega) (by omega) (by omega) rfl).mono ?_; rintro e w' ⟨rfl, rfl⟩)
          | (at_builtin; refine wpList_append_own _ rfl _ _ 37 rfl (w1.heap.size + 1) 1 i0 .nilFunc 1 8 Tryd.underlying37 HI.out HZ.out.1 HZ.out.2.1 HZ.out.2.2 rfl (by decide) _ _ _ rfl ((HO.out.alloc _).alloc _) ⟨wr.heap.size + 1, 0, none⟩ 1 1 [.func (.func 13) #[] #[.pointer (some ⟨wr.heap.size, 0, none⟩), .pointer (some ⟨w1.heap.size, 0, none⟩)]] rfl rfl ?c1 ?c2 ?c3 ?c4 ?c5 ?_))
        case c1 =>
          intro j u hu
          rcases j with _ | j
          · simp at hu
            subst hu
            simp [Addr.add]
          · simp at hu
        case c2 =>
          intro u hu
          simp at hu
          subst hu
          rfl
        case c3 => unfold maxLen; omega
        case c4 => omega
        case c5 => simp; omega
        intro v' w2 hown' hgr _
        have hnew := l_step pb HO.out HW.out HN.out hb (by omega) hown' hgr
        clear hown' hgr
        go_wp2
        go_roundw
        case rel => exact ⟨k + 1, by omega, by go_num, by rw [bk_no (by have := HP.out; omega)], hnew⟩
        case measure => simp [intOf]; omega
    · obtain rfl : k = len := by omega
      have hnl := block_lt hn
      have hsz := hb.size
      have hv : ∃ a' cap' g, u6 = .slice a' k cap' ∧ (0 < k → a' = some ⟨g, 0, none⟩) ∧ (0 < k → g < wr.heap.size ∧ g ≠ w1.heap.size) ∧ ∀ j, j < k → wr.cell? ⟨g, j, none⟩ = some (fnV w1.heap.size pb j) := by
        rcases id hown with ⟨_, ⟨rfl, h0⟩ | ⟨g, cap', cur, rfl, hge, hh, _⟩⟩
        · subst h0
          exact ⟨none, 0, 0, rfl, fun h => by omega, fun h => by omega, fun j hj => by omega⟩
        · refine ⟨_, cap', g, rfl, fun _ => rfl, fun _ => ⟨block_lt hh, by omega⟩, fun j hj => ?_⟩
          rw [hown.cellAt j (by omega)]
          simp [hj]
      obtain ⟨a', cap', g, rfl, hva, hvg, hvc⟩ := hv
      have hea := each_any wr w1.heap.size k wh cd tx pb a' cap' g hlen hn hva hvg hvc hways (fun j hj => ⟨(HC.out j hj).h1, (HC.out j hj).h3, (HC.out j hj).ht⟩)
      clear hown hways hn hva hvg hvc
      go_wp2_with (go_at_call 14; refine hea.mono ?_; clear hea; rintro e w2 ⟨rfl, E, hrow, htold, hgr, hcnt⟩; refine Hid.out ?_)
      have hb2 : Below w.heap.size w w2 := hb.trans ⟨hgr.os, hgr.tape, hgr.output, hgr.size, fun j hj => hgr.block j (by omega) (by simp; omega)⟩
      have hl2 := hl.below hb2 (by have := hl.size; omega)
      have hcn := cell_block hcnt
      have hlr := hrow.lt
      have hs2 := hb2.size
      have HT := Lib.hid htold
      clear hb hgr hcnt htold
      refine Lib.hid ?_
      go_wp2
      obtain ⟨wo, rfl⟩ : ∃ wo : World, wo = wr := ⟨_, rfl⟩
      go_loopw [10] (fun i wx => ∃ n : Nat, n ≤ k ∧ i = .int .i64 n ∧ Below w2.heap.size w2 wx) (fun i _ => k - (intOf i).toNat)
      case atStart => exact ⟨0, Nat.zero_le _, rfl, Below.refl _ _⟩
      case round =>
        obtain ⟨n, hnk, rfl, hbx⟩ := hrel
        by_cases hln : n < k
        · obtain ⟨rfl, hbw⟩ := HA.out (by omega)
          obtain ⟨c0, c1, c2, ⟨h1, h2⟩, ⟨h3, h4⟩, ht⟩ := ((HC.out n hln).below hb2 hbw).below hbx (by omega)
          have hec : wr.cell? ⟨wo.heap.size, n, none⟩ = some (E n) := by rw [hbx.cell hlr]; exact hrow.cell hln
          have hlx : Libs wr.drew := by
            have := hl2.below hbx (by have := hl2.size; omega)
            exact ⟨this.et, this.tab⟩
          have hsx := hbx.size
          rcases HT.out n hln with ⟨hp, hE⟩ | ⟨hp, tb, v, hv, hE, htb⟩
          · rw [hE] at hec
            go_wp2
            go_still_tail 8, (by kernel_rfl)
            change wpList _ _ _ _ _ wr.drew
            go_wp2_with (go_at_call 11; refine (told_back (wh n) (cd n) (tx n) _ h1 h2 hp).mono ?_; rintro e w3 ⟨rfl, hb3⟩)
            go_roundw
            case rel => exact ⟨n + 1, by omega, by go_num, hbx.drew.trans (hb3.mono hsx)⟩
            case measure => simp [intOf]; omega
          · rw [hE] at hec
            have htc : wr.drew.cell? ⟨tb, 0, none⟩ = some v := by
              show wr.cell? ⟨tb, 0, none⟩ = some v
              rw [hbx.cell (block_lt htb)]
              exact cell_block htb
            have HV := Lib.hid htc
            clear htc htb hE
            go_wp2
            go_still_tail 8, (by kernel_rfl)
            change wpList _ _ _ _ _ wr.drew
            go_wp2_with (go_at_call 11; refine (told_dies (wh n) (cd n) (tx n) tb v _ h1 h2 h3 h4 ht hlx hv HV.out).mono ?_; rintro e w3 ⟨rfl, hb3⟩)
            go_roundw
            case rel => exact ⟨n + 1, by omega, by go_num, hbx.drew.trans (hb3.mono hsx)⟩
            case measure => simp [intOf]; omega
        · obtain rfl : n = k := by omega
          go_wp2
          go_ret
          exact ⟨rfl, hb2.trans (hbx.mono hs2)⟩

set_option maxHeartbeats 800000 in
/-- More than a hundred ways are let go. -/
theorem all_long (a : Option Addr) (len cap : Nat) (w : World) (hlen : 100 < len) (hm : len ≤ maxLen) :
    Calls Tryd.prog 4 #[.slice a len cap] w fun e w' => e = .returned (.bool true) ∧ Below w.heap.size w w' := by
  unfold maxLen at hm
  go_enter Tryd.func4, Tryd.ntmps4
  go_wp2_with (go_at_call 5; refine (up_any w).mono ?_; rintro e w1 ⟨rfl, hb1⟩)
  go_ret
  exact ⟨rfl, hb1⟩
end Go.Proofs.YthijiomaaiefaaaDoor
