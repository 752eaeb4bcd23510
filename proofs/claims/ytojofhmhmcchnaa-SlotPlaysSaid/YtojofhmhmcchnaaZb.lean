/- Contracts of package slot's State, Len, First and serves, and of the document's own First. Condition: slots of which there are at most 32. -/
import Derived.Test.YtojofhmhmcchnaaZa
namespace Go.Proofs.Ytojofhmhmcchnaa
open Go.RowKit
set_option linter.unusedVariables false
set_option maxRecDepth 100000

/-- Slots as an object: a block with the slice, and the slots that it leads to. -/
def SlO (C : Nat → Prop) (w : World) (p b n : Nat) (L : List Sl) : Prop :=
  w.heap[p]? = some (.cells #[.slice (some ⟨b, 0, none⟩) n n] 68 (0, 0)) ∧ p ≠ b ∧ n ≤ 32 ∧ SlM C w 73 b n L
theorem SlO.ptr {C : Nat → Prop} {w : World} {p b n : Nat} {L : List Sl} (h : SlO C w p b n L) : w.cell? ⟨p, 0, none⟩ = some (.slice (some ⟨b, 0, none⟩) n n) := by
  simp [World.cell?, h.1]
theorem SlO.lt {C : Nat → Prop} {w : World} {p b n : Nat} {L : List Sl} (h : SlO C w p b n L) : p < w.heap.size := (Array.getElem?_eq_some_iff.1 h.1).1
theorem SlO.len {C : Nat → Prop} {w : World} {p b n : Nat} {L : List Sl} (h : SlO C w p b n L) : L.length = n := h.2.2.2.len
theorem SlO.keep {C : Nat → Prop} {w w' : World} {p b n : Nat} {L : List Sl} (h : SlO C w p b n L) (ha : Agree C w w') (hp : w'.heap[p]? = w.heap[p]?) (hb : w'.heap[b]? = w.heap[b]?) : SlO C w' p b n L := ⟨hp.trans h.1, h.2.1, h.2.2.1, h.2.2.2.keep ha hb⟩
theorem SlO.below {C : Nat → Prop} {w w' : World} {p b n : Nat} {L : List Sl} (h : SlO C w p b n L) (hb : Below w.heap.size w w') : SlO C w' p b n L := h.keep (below_all hb) (hb.block p h.lt) (hb.block b h.2.2.2.lt)
/-- Some of a slot's cells are stored into. -/
theorem SlO.put {C : Nat → Prop} {w : World} {p b n : Nat} {L : List Sl} (hm : SlO C w p b n L) (hC : ¬ C b) {i o : Nat} (hi : i < n) {us : List Value} {x : Sl} {h h' : Qh} {k k' : Sh} (ho : o + us.length ≤ 14)
    (hx : SlAt w b (i * 14) h k (sl L i)) (he : ∀ t, t < 14 → (slC h' k' x)[t]? = if o ≤ t ∧ t < o + us.length then us[t - o]? else (slC h k (sl L i))[t]?) (r1 : On C w (RqR · h' x.r)) (r2 : On C w (AnR · k' x.a)) :
    SlO C (stores w b (i * 14 + o) us) p b n (L.set i x) :=
  ⟨(stores_other hm.2.1 us w _).trans hm.1, hm.2.1, hm.2.2.1, hm.2.2.2.put hC hi ho hx he r1 r2⟩

set_option maxHeartbeats 400000 in
theorem state_in {C : Nat → Prop} {w : World} {p b n j : Nat} {L : List Sl} (h : SlO C w p b n L) (hj : j < n) :
    Calls Try.prog 22 #[.pointer (some ⟨p, 0, none⟩), .int .i64 j] w fun e w' => e = .returned (.int .i64 (sl L j).st) ∧ w = w' := by
  have hp := h.ptr
  have hn := h.2.2.1
  obtain ⟨h1, k1, hx, -, -⟩ := h.2.2.2.at_ hj
  have x0 := hx.1
  clear hx h
  generalize (sl L j).st = st at x0 ⊢
  go_enter Try.func22, Try.ntmps22
  go_wp2
  go_ret
  exact ⟨rfl, rfl⟩
set_option maxHeartbeats 400000 in
theorem state_out {C : Nat → Prop} {w : World} {p b n : Nat} {L : List Sl} (h : SlO C w p b n L) {i : Int} (hi : i < 0 ∨ (n : Int) ≤ i) :
    Calls Try.prog 22 #[.pointer (some ⟨p, 0, none⟩), .int .i64 i] w fun e w' => e = .returned (.int .i64 (-1)) ∧ w = w' := by
  have hp := h.ptr
  clear h
  rcases hi with hi | hi
  · go_enter Try.func22, Try.ntmps22
    go_wp2
    go_ret
    exact ⟨rfl, rfl⟩
  · have h0 : 0 ≤ i := by omega
    have h1 : decide ((n : Int) ≤ i) = true := by simp; omega
    go_enter Try.func22, Try.ntmps22
    go_wp2
    go_ret
    exact ⟨rfl, rfl⟩
theorem state_any {C : Nat → Prop} {w : World} {p b n : Nat} {L : List Sl} (h : SlO C w p b n L) (i : Int) :
    Calls Try.prog 22 #[.pointer (some ⟨p, 0, none⟩), .int .i64 i] w fun e w' => e = .returned (.int .i64 (stOf L i)) ∧ w = w' := by
  have hl := h.len
  rcases in_out n i with ⟨j, rfl, hj⟩ | hi
  · rw [stOf_in (by omega)]
    exact state_in h hj
  · rw [stOf_out (by omega)]
    exact state_out h hi
set_option maxHeartbeats 400000 in
theorem slen_any {C : Nat → Prop} {w : World} {p b n : Nat} {L : List Sl} (h : SlO C w p b n L) :
    Calls Try.prog 20 #[.pointer (some ⟨p, 0, none⟩)] w fun e w' => e = .returned (.int .i64 n) ∧ w = w' := by
  have hp := h.ptr
  clear h
  go_enter Try.func20, Try.ntmps20
  go_wp2
  go_ret
  exact ⟨rfl, rfl⟩

def slV (h : Qh) (k : Sh) (x : Sl) : Value :=
  .agg #[.int .i64 x.st, .int .i64 x.r.cl, .int .i64 x.r.sq, .int .i64 x.r.kind, .slice h.A h.n h.c, .slice h.B h.m h.d, .slice h.C h.o h.p, .slice h.D h.q h.s, .int .i64 x.r.limit, .int .i64 x.a.code, .bool x.a.found, .slice k.A k.n k.c, .slice k.B k.m k.d, .int .u64 x.a.stamp]

set_option maxHeartbeats 400000 in
theorem first_fn {w : World} {c : Nat} {s : Int} (h : Qh) (k : Sh) (x : Sl) (hc : w.cell? ⟨c, 0, none⟩ = some (.int .i64 s)) (hl : c < w.heap.size) :
    Calls Try.prog 35 #[slV h k x, .pointer (some ⟨c, 0, none⟩)] w fun e w' => e = .returned (.bool (x.st == s)) ∧ Below w.heap.size w w' := by
  have hne : ¬ (c = w.heap.size) := by omega
  unfold slV
  go_enter Try.func35, Try.ntmps35
  go_wp2
  go_ret
  exact ⟨rfl, (Below.refl _ _).alloc (Nat.le_refl _) _⟩
set_option maxHeartbeats 400000 in
theorem serves_fn {w : World} {c : Nat} {s : Int} (h : Qh) (k : Sh) (x : Sl) (hc : w.cell? ⟨c, 0, none⟩ = some (.int .i64 s)) (hl : c < w.heap.size) :
    Calls Try.prog 41 #[slV h k x, .pointer (some ⟨c, 0, none⟩)] w fun e w' => e = .returned (.bool (x.st != 0 && x.r.cl == s)) ∧ Below w.heap.size w w' := by
  have hne : ¬ (c = w.heap.size) := by omega
  unfold slV
  cases hz : (x.st != 0)
  all_goals
    go_enter Try.func41, Try.ntmps41
    go_wp2
    go_ret
    exact ⟨rfl, (Below.refl _ _).alloc (Nat.le_refl _) _⟩

set_option maxHeartbeats 2000000 in
theorem first_at {C : Nat → Prop} {w : World} {p b n c : Nat} {s : Int} {L : List Sl} (h : SlO C w p b n L) (hc : w.cell? ⟨c, 0, none⟩ = some (.int .i64 s)) (hl : c < w.heap.size) :
    Calls Try.prog 34 #[.slice (some ⟨b, 0, none⟩) n n, .func (.func 35) #[] #[.pointer (some ⟨c, 0, none⟩)]] w fun e w' => e = .returned (.int .i64 (firstS L s)) ∧ Below w.heap.size w w' := by
  have hn := h.2.2.1
  have H := Lib.hid h
  have HC := Lib.hid hc
  have hlen := h.len
  have HF := Lib.hid (And.intro (fun (j : Nat) (h1 : (sl L j).st = s) (h2 : ∀ k, k < j → (sl L k).st ≠ s) (h3 : j < n) => show firstS L s = j from fst_at (p := fun k => (sl L k).st == s) (by simpa using h1) (fun k hk => by simpa using h2 k hk) (by rw [hlen]; exact h3))
    (fun (h1 : ∀ k, k < n → (sl L k).st ≠ s) => show firstS L s = -1 from fst_no (p := fun k => (sl L k).st == s) (fun k hk => by simpa using h1 k (by omega))))
  clear h hc hlen
  go_enter Try.func34, Try.ntmps34
  go_wp2
  go_loopw [8] (fun i wr => ∃ j : Nat, j ≤ n ∧ i = .int .i64 j ∧ Hid (∀ k, k < j → (sl L k).st ≠ s) ∧ Below w.heap.size w wr) (fun i _ => n - (intOf i).toNat)
  case atStart => exact ⟨0, Nat.zero_le _, rfl, Lib.hid (fun k hk => absurd hk (by omega)), Below.refl _ _⟩
  case round =>
    obtain ⟨j, hj, rfl, HI, hb⟩ := hrel
    have HB := Lib.hid hb
    clear hb
    by_cases hlt : j < n
    · obtain ⟨h1, k1, hx, -, -⟩ := (H.out.below HB.out).2.2.2.at_ hlt
      have HFN := Lib.hid (first_fn (w := wr) h1 k1 (sl L j) ((HB.out.cell (p := ⟨c, 0, none⟩) hl).trans HC.out) (Nat.lt_of_lt_of_le hl HB.out.size))
      have HJ := Lib.hid (And.intro (HF.out.1 j) (show ∀ k, k < j + 1 → k < j ∨ k = j from fun k hk => by omega))
      obtain ⟨x, hxe⟩ : ∃ x, x = sl L j := ⟨_, rfl⟩
      rw [← hxe] at hx HFN HJ
      obtain ⟨e0, e1, e2, e3, e4, e5, e6, e7, e8, e9, e10, e11, e12, e13⟩ := hx
      have HX := Lib.hid hxe
      unfold slV at HFN
      clear hxe
      cases hz : (x.st == s)
      all_goals
        rw [hz] at HFN
        have HZ := Lib.hid hz
        clear hz
        go_wp2_with fail
        refine HFN.out.mono ?_
        rintro e w2 ⟨rfl, hb2⟩
        have HB2 := Lib.hid (HB.out.trans (hb2.mono HB.out.size))
        clear hb2 HFN e0 e1 e2 e3 e4 e5 e6 e7 e8 e9 e10 e11 e12 e13
      · go_wp2
        go_roundw
        case rel => exact ⟨j + 1, by omega, by go_num, Lib.hid (fun k hk => by
          rcases HJ.out.2 k hk with hk | rfl
          · exact HI.out k hk
          · rw [← HX.out]; simpa using HZ.out), HB2.out⟩
        case measure => simp [intOf]; omega
      · go_wp2
        go_ret
        exact ⟨ret_int (HJ.out.1 (by simpa using HZ.out) HI.out hlt).symm, HB2.out⟩
    · obtain rfl : j = n := by omega
      go_wp2
      go_ret
      exact ⟨ret_int (HF.out.2 HI.out).symm, HB.out⟩

set_option maxHeartbeats 2000000 in
theorem served_at {C : Nat → Prop} {w : World} {p b n c : Nat} {s : Int} {L : List Sl} (h : SlO C w p b n L) (hc : w.cell? ⟨c, 0, none⟩ = some (.int .i64 s)) (hl : c < w.heap.size) :
    Calls Try.prog 34 #[.slice (some ⟨b, 0, none⟩) n n, .func (.func 41) #[] #[.pointer (some ⟨c, 0, none⟩)]] w fun e w' => e = .returned (.int .i64 (fst (fun k => (sl L k).st != 0 && (sl L k).r.cl == s) n)) ∧ Below w.heap.size w w' := by
  have hn := h.2.2.1
  have H := Lib.hid h
  have HC := Lib.hid hc
  obtain ⟨P, hP⟩ : ∃ P : Nat → Bool, P = fun k => (sl L k).st != 0 && (sl L k).r.cl == s := ⟨_, rfl⟩
  rw [← hP]
  have HPE := Lib.hid (show ∀ j, ((sl L j).st != 0 && (sl L j).r.cl == s) = P j from fun j => by rw [hP])
  have HF := Lib.hid (And.intro (fun (j : Nat) (h1 : P j = true) (h2 : ∀ k, k < j → P k = false) (h3 : j < n) => fst_at h1 h2 h3) (fun (h1 : ∀ k, k < n → P k = false) => fst_no h1))
  generalize fst P n = res at HF ⊢
  clear h hc hP
  go_enter Try.func34, Try.ntmps34
  go_wp2
  go_loopw [8] (fun i wr => ∃ j : Nat, j ≤ n ∧ i = .int .i64 j ∧ Hid (∀ k, k < j → P k = false) ∧ Below w.heap.size w wr) (fun i _ => n - (intOf i).toNat)
  case atStart => exact ⟨0, Nat.zero_le _, rfl, Lib.hid (fun k hk => absurd hk (by omega)), Below.refl _ _⟩
  case round =>
    obtain ⟨j, hj, rfl, HI, hb⟩ := hrel
    have HB := Lib.hid hb
    clear hb
    by_cases hlt : j < n
    · obtain ⟨h1, k1, hx, -, -⟩ := (H.out.below HB.out).2.2.2.at_ hlt
      have HFN := serves_fn (w := wr) h1 k1 (sl L j) ((HB.out.cell (p := ⟨c, 0, none⟩) hl).trans HC.out) (Nat.lt_of_lt_of_le hl HB.out.size)
      rw [HPE.out j] at HFN
      have HJ := Lib.hid (And.intro (HF.out.1 j) (show ∀ k, k < j + 1 → k < j ∨ k = j from fun k hk => by omega))
      obtain ⟨x, hxe⟩ : ∃ x, x = sl L j := ⟨_, rfl⟩
      rw [← hxe] at hx HFN
      obtain ⟨e0, e1, e2, e3, e4, e5, e6, e7, e8, e9, e10, e11, e12, e13⟩ := hx
      unfold slV at HFN
      have HFN := Lib.hid HFN
      clear hxe
      cases hz : P j
      all_goals
        rw [hz] at HFN
        have HZ := Lib.hid hz
        clear hz
        go_wp2_with fail
        refine HFN.out.mono ?_
        rintro e w2 ⟨rfl, hb2⟩
        have HB2 := Lib.hid (HB.out.trans (hb2.mono HB.out.size))
        clear hb2 HFN e0 e1 e2 e3 e4 e5 e6 e7 e8 e9 e10 e11 e12 e13
      · go_wp2
        go_roundw
        case rel => exact ⟨j + 1, by omega, by go_num, Lib.hid (fun k hk => by
          rcases HJ.out.2 k hk with hk | rfl
          · exact HI.out k hk
          · exact HZ.out), HB2.out⟩
        case measure => simp [intOf]; omega
      · go_wp2
        go_ret
        exact ⟨ret_int (HJ.out.1 HZ.out HI.out hlt).symm, HB2.out⟩
    · obtain rfl : j = n := by omega
      go_wp2
      go_ret
      exact ⟨ret_int (HF.out.2 HI.out).symm, HB.out⟩
end Go.Proofs.Ytojofhmhmcchnaa
