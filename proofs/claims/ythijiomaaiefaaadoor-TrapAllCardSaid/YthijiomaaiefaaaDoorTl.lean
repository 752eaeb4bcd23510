/- Package trap's Each over the law's closures, by a contract. No condition but that integers and texts are ones of their kinds. -/
import Derived.Test.YthijiomaaiefaaaDoorTs
import Derived.Deep.OwnRows
namespace Go.Proofs.YthijiomaaiefaaaDoor
open Go.RowKit

/-- How many of the first ways come back. -/
def bk (wh : Nat → Int) : Nat → Int
  | 0 => 0
  | k + 1 => bk wh k + if pk (wh k) 5 < 2 then 1 else 0
theorem bk_le (wh : Nat → Int) (k : Nat) : 0 ≤ bk wh k ∧ bk wh k ≤ k := by
  induction k with
  | zero => simp [bk]
  | succ k ih => simp only [bk]; split <;> omega
theorem bk_yes {wh : Nat → Int} {k : Nat} (h : pk (wh k) 5 < 2) : bk wh (k + 1) = bk wh k + 1 := by simp [bk, h]
theorem bk_no {wh : Nat → Int} {k : Nat} (h : ¬ pk (wh k) 5 < 2) : bk wh (k + 1) = bk wh k := by simp [bk, h]

/-- The closure of one way. -/
def fnV (nb : Nat) (pb : Nat → Nat) (j : Nat) : Value := .func (.func 13) #[] #[.pointer (some ⟨pb j, 0, none⟩), .pointer (some ⟨nb, 0, none⟩)]

/-- What a way comes to, as it lies in a world. -/
def ToldE (w : World) (wh cd : Int) (tx : ByteArray) (E : Value) : Prop :=
  (pk wh 5 < 2 ∧ E = .nilIface) ∨ (2 ≤ pk wh 5 ∧ ∃ tb v, PV wh cd tx v ∧ E = .iface 44 (.pointer (some ⟨tb, 0, none⟩)) ∧ w.heap[tb]? = some (.cells #[v] 46 (0, 0)))

theorem ToldE.on {w w' : World} {wh cd : Int} {tx : ByteArray} {E : Value} (h : ToldE w wh cd tx E) (hb : ∀ (tb : Nat) (v : Value), w.heap[tb]? = some (.cells #[v] 46 (0, 0)) → w'.heap[tb]? = w.heap[tb]?) : ToldE w' wh cd tx E := by
  rcases h with h | ⟨hk, tb, v, hv, he, hh⟩
  · exact .inl h
  · exact .inr ⟨hk, tb, v, hv, he, by rw [hb tb v hh]; exact hh⟩

/-- What holds behind i calls. -/
def EachInv (w : World) (nb k : Nat) (wh cd : Nat → Int) (tx : Nat → ByteArray) (i : Nat) (wr : World) : Prop :=
  ∃ E, wr.rowIs w.heap.size 26 k E ∧ (∀ j, j < i → ToldE wr (wh j) (cd j) (tx j) (E j)) ∧ w.grownBy wr (some nb) ∧ wr.heap[nb]? = some (cntB (bk wh i))

theorem grown_trans {a b c : World} {nb : Nat} (h : a.grownBy b (some nb)) (h' : b.grownBy c (some nb)) : a.grownBy c (some nb) :=
  ⟨h'.os.trans h.os, h'.tape.trans h.tape, h'.output.trans h.output, Nat.le_trans h.size h'.size, fun k hk hne => (h'.block k (Nat.lt_of_lt_of_le hk h.size) hne).trans (h.block k hk hne)⟩
theorem grown_set {a b : World} {nb eb i : Nat} (h : a.grownBy b (some nb)) (he : a.heap.size ≤ eb) (v : Value) : a.grownBy (b.setCell ⟨eb, i, none⟩ v) (some nb) :=
  ⟨h.os, h.tape, h.output, by simpa [World.setCell] using h.size, fun k hk hne => by rw [Below.heap_setCell _ _ _ _ (by show k ≠ eb; omega)]; exact h.block k hk hne⟩
theorem grown_below {a b : World} {nb : Nat} (h : Below a.heap.size a b) : a.grownBy b (some nb) := ⟨h.os, h.tape, h.output, h.size, fun k hk _ => h.block k hk⟩

section
variable {w : World} {nb k : Nat} {wh cd : Nat → Int} {tx : Nat → ByteArray} {i : Nat} {wr w1 : World}

/-- One more call, whatever it told. -/
theorem each_step (h : EachInv w nb k wh cd tx i wr) (hnb : nb < w.heap.size) (hg : wr.grownBy w1 (some nb)) (hn : w1.heap[nb]? = some (cntB (bk wh (i + 1)))) {E1 : Value} (ht : ToldE w1 (wh i) (cd i) (tx i) E1) :
    EachInv w nb k wh cd tx (i + 1) (w1.setCell ⟨w.heap.size, i, none⟩ E1) := by
  obtain ⟨E, hrow, htold, hgr, hcnt⟩ := h
  have hb1 : w1.heap[w.heap.size]? = wr.heap[w.heap.size]? := hg.block _ hrow.lt (by simp; omega)
  have hrow1 := hrow.of_block hb1
  have hset : ∀ (tb : Nat) (v : Value), w1.heap[tb]? = some (.cells #[v] 46 (0, 0)) → (w1.setCell ⟨w.heap.size, i, none⟩ E1).heap[tb]? = w1.heap[tb]? := fun tb v hh => by
    refine Below.heap_setCell _ _ _ _ ?_
    intro e
    obtain ⟨c, hc, _⟩ := hrow1
    have e' : tb = w.heap.size := e
    rw [e', hc] at hh
    cases hh
  refine ⟨_, hrow1.set i E1, fun j hj => ?_, grown_set (grown_trans hgr hg) (Nat.le_refl _) _, ?_⟩
  · by_cases hji : j = i
    · subst hji
      simp only [if_true]
      exact ht.on hset
    · simp only [hji, if_false]
      refine ((htold j (by omega)).on ?_).on hset
      intro tb v hh
      refine hg.block tb (block_lt hh) ?_
      intro e
      injection e with e
      subst e
      rw [hcnt] at hh
      cases hh
  · rw [Below.heap_setCell _ _ _ _ (by show nb ≠ w.heap.size; omega)]
    exact hn
end

/-- What Each tells, and has done. -/
def EachPost (w : World) (nb k : Nat) (wh cd : Nat → Int) (tx : Nat → ByteArray) (e : Ending) (w' : World) : Prop :=
  e = .returned (.slice (some ⟨w.heap.size, 0, none⟩) k k) ∧ EachInv w nb k wh cd tx k w'

theorem Tryd.infoError : (Tryd.prog.info? 26).map (fun i => (i.zero, i.size, i.bytes)) = some (some .nilIface, 1, 16) := by kernel_rfl

set_option maxHeartbeats 2000000 in
set_option maxRecDepth 100000 in
theorem each_any (w : World) (nb k : Nat) (wh cd : Nat → Int) (tx : Nat → ByteArray) (pb : Nat → Nat) (a : Option Addr) (cap g : Nat) (hk : k ≤ 100) (hn : w.heap[nb]? = some (cntB 0))
    (ha : 0 < k → a = some ⟨g, 0, none⟩) (hg : 0 < k → g < w.heap.size ∧ g ≠ nb) (hf : ∀ j, j < k → w.cell? ⟨g, j, none⟩ = some (fnV nb pb j))
    (hw : ∀ j, j < k → w.heap[pb j]? = some (wayB (wh j) (cd j) (tx j)))
    (hr : ∀ j, j < k → (-9223372036854775808 ≤ wh j ∧ wh j ≤ 9223372036854775807) ∧ (-9223372036854775808 ≤ cd j ∧ cd j ≤ 9223372036854775807) ∧ (tx j).size ≤ 140737488351232) :
    Calls Tryd.prog 14 #[.slice a k cap] w (EachPost w nb k wh cd tx) := by
  have hnb := block_lt hn
  have hmk := fun W : World => run_make_row' (P := Tryd.prog) 38 26 .nilIface 16 Tryd.underlying38 Tryd.infoError rfl .i64 .i64 k (by omega) (by omega) W
  have hst : EachInv w nb k wh cd tx 0 (w.alloc (.cells (madeCells #[.nilIface] k) 26)) :=
    ⟨fun _ => .nilIface, World.rowIs_made w .nilIface k _, fun j hj => by omega, grown_below ((Below.refl _ _).alloc (Nat.le_refl _) _), by rw [Below.heap_alloc _ _ _ hnb]; exact hn⟩
  have HA := Lib.hid ha
  have HN := Lib.hid hn
  have HF := Lib.hid hf
  have HW := Lib.hid hw
  have HR := Lib.hid hr
  clear ha hn hf hw hr
  go_enter Tryd.func14, Tryd.ntmps14
  go_wp2
  go_loopw [11] (fun i wr => ∃ n : Nat, n ≤ k ∧ i = .int .i64 n ∧ EachInv w nb k wh cd tx n wr) (fun i _ => k - (intOf i).toNat)
  case atStart => exact ⟨0, Nat.zero_le _, rfl, hst⟩
  case round =>
    obtain ⟨n, hnk, rfl, hinv⟩ := hrel
    clear hst hmk
    by_cases hlt : n < k
    · obtain ⟨E, hrow, htold, hgr, hcnt⟩ := id hinv
      have hcell : wr.cell? ⟨g, n, none⟩ = some (fnV nb pb n) := hgr.cell (HF.out n hlt) (by simp; exact (hg (by omega)).2)
      have hway : wr.heap[pb n]? = some (wayB (wh n) (cd n) (tx n)) := by
        rw [hgr.block _ (block_lt (HW.out n hlt)) ?_]
        · exact HW.out n hlt
        · intro e
          injection e with e
          have h1 := HW.out n hlt
          rw [e, HN.out] at h1
          simp at h1
      have hlr := hrow.lt
      have hwl := block_lt hway
      have hnl := block_lt hcnt
      obtain ⟨⟨h1, h2⟩, ⟨h3, h4⟩, ht⟩ := HR.out n hlt
      have hbl := bk_le wh n
      obtain rfl := HA.out (by omega)
      have HC := Lib.hid hcnt
      have HT := Lib.hid hway
      clear hcnt hway htold hgr
      by_cases hp : pk (wh n) 5 < 2
      · have hcall := callG_back 13 #[.pointer (some ⟨pb n, 0, none⟩), .pointer (some ⟨nb, 0, none⟩)] nb (wh n) (cd n) (tx n) (bk wh n) wr hent3 HC.out
          (clo3_back (pb n) nb (wh n) (cd n) (tx n) (bk wh n) _ (WayAt.of_block (by rw [Below.heap_alloc _ _ _ hwl]; exact HT.out) h1 h2 h3 h4 ht) hp (by omega) (by omega) (cell_block (x := .int .i64 (bk wh n)) (t := 3) (by rw [Below.heap_alloc _ _ _ hnl]; exact HC.out)) (free_block (x := .int .i64 (bk wh n)) (t := 3) (by rw [Below.heap_alloc _ _ _ hnl]; exact HC.out)) (by simp; omega))
        have HP := Lib.hid hp
        clear hp
        go_wp2_with (go_at_call 6; refine hcall.mono ?_; clear hcall; rintro e w1 ⟨rfl, hg1, hn1⟩; refine Hid.out ?_)
        have hrow1 := hrow.of_block (hg1.block _ hlr (by simp; omega))
        have hec := hrow1.cell hlt
        have hef := hrow1.frozen n
        have hnew := each_step hinv hnb hg1 (by rw [bk_yes HP.out]; exact hn1) (E1 := .nilIface) (.inl ⟨HP.out, rfl⟩)
        clear hn1 hrow1 hrow hg1
        refine Lib.hid ?_
        go_wp2
        go_roundw
        case rel => exact ⟨n + 1, by omega, by go_num, hnew⟩
        case measure => simp [intOf]; omega
      · have hcall := callG_dies 13 #[.pointer (some ⟨pb n, 0, none⟩), .pointer (some ⟨nb, 0, none⟩)] (wh n) (cd n) (tx n) wr hent3
          (by simpa using clo3_dies (pb n) nb (wh n) (cd n) (tx n) (wr.alloc (.cells #[.nilIface] 26)) (WayAt.of_block (by rw [Below.heap_alloc _ _ _ hwl]; exact HT.out) h1 h2 h3 h4 ht) (by omega))
        have HP := Lib.hid hp
        clear hp
        go_wp2_with (go_at_call 6; refine hcall.mono ?_; clear hcall; rintro e w1 ⟨tb, v, hv, rfl, htb, hge, hb1⟩; refine Hid.out ?_)
        have hrow1 := hrow.of_block (hb1.block _ hlr)
        have hec := hrow1.cell hlt
        have hef := hrow1.frozen n
        have hnew := each_step hinv hnb (grown_below hb1) (by rw [bk_no (by have := HP.out; omega), hb1.block _ hnl]; exact HC.out) (E1 := .iface 44 (.pointer (some ⟨tb, 0, none⟩))) (.inr ⟨by have := HP.out; omega, tb, v, hv, rfl, htb⟩)
        clear htb hrow1 hrow hb1
        refine Lib.hid ?_
        go_wp2
        go_roundw
        case rel => exact ⟨n + 1, by omega, by go_num, hnew⟩
        case measure => simp [intOf]; omega
    · obtain rfl : n = k := by omega
      go_wp2
      go_ret
      exact ⟨rfl, hinv⟩
end Go.Proofs.YthijiomaaiefaaaDoor
