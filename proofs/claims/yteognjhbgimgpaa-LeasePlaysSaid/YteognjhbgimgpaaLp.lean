/- The walk of LeasePlays: it returns true, and nothing that was there before the call is changed. -/
import Derived.Test.YteognjhbgimgpaaLe
import Derived.Deep.RegionHeld3
import Derived.Deep.DeepCutAuto
import Derived.Deep.CutBlock
namespace Go.Proofs.Yteognjhbgimgpaa
open Go.RowKit
set_option linter.unusedVariables false

theorem quiet_more {P : Program} {f : FuncId} {args : Array Value} {w : World} {k n : Nat} {v : Value}
    (h : Calls P f args (w.drewN (k + n)) fun e w' => e = .returned v ∧ w.drewN (k + n) = w') : Calls P f args (w.drewN (k + n)) fun e w'' => e = .returned v ∧ ∃ m, w'' = w.drewN (k + m) :=
  h.mono fun _ _ ⟨he, hm⟩ => ⟨he, n, hm.symm⟩

/-- The lease, and the document's own, hold the same; both lie behind what was there. -/
structure Rel (p q : Nat) (w wr : World) (L E H U : Int) : Prop where
  a : LeM wr 51 p L E H U
  b : LeM wr 33 q L E H U
  ok : OkL L E H U
  out : Below w.heap.size w wr
  lo : w.heap.size ≤ p
  ne : p < q
theorem Rel.alloc {p q : Nat} {w wr : World} {L E H U : Int} (h : Rel p q w wr L E H U) (o : Obj) : Rel p q w (wr.alloc o) L E H U :=
  ⟨h.a.alloc o, h.b.alloc o, h.ok, h.out.alloc h.out.size _, h.lo, h.ne⟩
theorem Rel.drewN {p q : Nat} {w wr : World} {L E H U : Int} (h : Rel p q w wr L E H U) (k : Nat) : Rel p q w (wr.drewN k) L E H U :=
  ⟨h.a, h.b, h.ok, ⟨h.out.os, h.out.tape, h.out.output, h.out.size, h.out.block⟩, h.lo, h.ne⟩
theorem Rel.drew {p q : Nat} {w wr : World} {L E H U : Int} (h : Rel p q w wr L E H U) : Rel p q w wr.drew L E H U :=
  ⟨h.a, h.b, h.ok, ⟨h.out.os, h.out.tape, h.out.output, h.out.size, h.out.block⟩, h.lo, h.ne⟩
theorem Rel.one {p q : Nat} {w wr w4 : World} {L E H U L' E' H' U' : Int} (h : Rel p q w wr L E H U) (h4 : Left wr w4 51 p L' E' H' U') : LeM w4 33 q L E H U :=
  h.b.of_block (h4.2.block q (by have := h.ne; omega))
theorem Rel.both {p q : Nat} {w wr w4 w5 : World} {L E H U E' H' U' : Int} (h : Rel p q w wr L E H U) (ok : OkL L E' H' U')
    (h4 : Left wr w4 51 p L E' H' U') (h5 : Left w4 w5 33 q L E' H' U') : Rel p q w w5 L E' H' U' := by
  have := h.ne
  have := h.lo
  exact ⟨h4.1.of_block (h5.2.block p (by omega)), h5.1, ok, (h.out.trans (h4.2.below (by omega))).trans (h5.2.below (by omega)), h.lo, h.ne⟩

/-- A deed: what, who, which epoch, when. -/
def deedV (a x ep now : Int) : Obj := .cells #[.int .i64 a, .int .i64 x, .int .u64 ep, .int .i64 now] 35 (0, 0)
theorem deed_keep {p g : Nat} {w4 w5 : World} {o : Obj} (h : w4.heap[g]? = some o) (h5 : One w4 w5 p) (hne : g ≠ p) : w5.heap[g]? = some o := (h5.block g hne).trans h
theorem deed_cell {g : Nat} {w4 : World} {a x ep now : Int} (h : w4.heap[g]? = some (deedV a x ep now)) :
    w4.cell? ⟨g, 1, none⟩ = some (.int .i64 x) ∧ w4.cell? ⟨g, 2, none⟩ = some (.int .u64 ep) ∧ w4.cell? ⟨g, 3, none⟩ = some (.int .i64 now) := by
  unfold deedV at h
  simp [World.cell?, h]
theorem deed_new (w : World) (a x ep now : Int) : (w.alloc (.cells #[.int .i64 a, .int .i64 x, .int .u64 ep, .int .i64 now] 35)).heap[w.heap.size]? = some (deedV a x ep now) := Deep.blk_alloc_new _ _

/-- What is told of one deed. -/
def DeedAt (w : World) (b o : Nat) (a x ep now : Int) : Prop :=
  w.cell? ⟨b, o, none⟩ = some (.int .i64 a) ∧ w.cell? ⟨b, o + 1, none⟩ = some (.int .i64 x) ∧ w.cell? ⟨b, o + 2, none⟩ = some (.int .u64 ep) ∧ w.cell? ⟨b, o + 3, none⟩ = some (.int .i64 now) ∧
  (-9223372036854775808 ≤ a ∧ a ≤ 9223372036854775807) ∧ x ≤ 9223372036854775807

/-- What Holder tells, by the three ways. -/
theorem ho_ways (H U now : Int) : (hoV H U now = H ∧ heldB H U now = true ∧ decide (0 ≤ H) = true ∧ decide (now < U) = true) ∨ (hoV H U now = 0 ∧ heldB H U now = false ∧ decide (0 ≤ H) = false) ∨
    (hoV H U now = 0 ∧ heldB H U now = false ∧ decide (0 ≤ H) = true ∧ decide (now < U) = false) := by
  unfold hoV
  rcases heldB_cases H U now with ⟨hb, a, b⟩ | ⟨hb, a | ⟨a, b⟩⟩
  · exact .inl ⟨by rw [hb]; rfl, hb, by simpa using a, by simpa using b⟩
  · exact .inr (.inl ⟨by rw [hb]; rfl, hb, by simpa using a⟩)
  · exact .inr (.inr ⟨by rw [hb]; rfl, hb, by simpa using a, by simpa using b⟩)

/-- Renew's three ways, beside the document's own. -/
theorem ren_three (L E H U x ep now : Int) : (frB x now = false ∧ renK E H x ep now = 1 ∧ renU L E H U x ep now = U) ∨ (frB x now = true ∧ chK E H x ep = 0 ∧ renK E H x ep now = 0 ∧ renU L E H U x ep now = now + L ∧ 0 ≤ now ∧ now ≤ 1099511627776) ∨
    (frB x now = true ∧ (chK E H x ep == 0) = false ∧ renK E H x ep now = chK E H x ep ∧ renU L E H U x ep now = U) := by
  unfold renU renK
  rcases frB_cases x now with ⟨hf, -, h1, h2⟩ | ⟨hf, -⟩
  · rw [hf]
    by_cases hc : chK E H x ep = 0
    · exact .inr (.inl ⟨rfl, hc, by simp [hc], by simp [hc], h1, h2⟩)
    · exact .inr (.inr ⟨rfl, by simpa using hc, rfl, by simp [hc]⟩)
  · exact .inl ⟨hf, by simp [hf], by simp [hf]⟩
/-- Release's two ways. -/
theorem rel_two (E H x ep : Int) : (chK E H x ep = 0 ∧ relH E H x ep = -1) ∨ ((chK E H x ep == 0) = false ∧ relH E H x ep = H) := by
  unfold relH
  by_cases hc : chK E H x ep = 0
  · exact .inl ⟨hc, if_pos hc⟩
  · exact .inr ⟨by simpa using hc, if_neg hc⟩
theorem set3_zero {w : World} {T : TypeId} {q : Nat} {L E H U : Int} (h : LeM w T q L E H U) (v : Value) : (w.setCell ⟨q, 3, none⟩ v).cell? ⟨q, 0, none⟩ = some (.int .i64 L) := by
  have h' : w.heap[q]? = _ := h
  simp [World.cell?, World.setCell, Array.getElem?_modify, h']
theorem set3_far {w : World} {q g : Nat} {x : Value} (h : w.cell? ⟨g, 3, none⟩ = some x) (hne : g ≠ q) (v : Value) : (w.setCell ⟨q, 3, none⟩ v).cell? ⟨g, 3, none⟩ = some x := by
  rw [← h]
  have : (w.setCell ⟨q, 3, none⟩ v).heap[g]? = w.heap[g]? := Below.heap_setCell _ _ _ _ (by simpa using hne)
  simp [World.cell?, this]
/-- Behind the switch: the code, the error, and both leases. -/
def Dun (p q g : Nat) (w : World) (n now : Int) (k : Nat) (c f : Value) (wx : World) : Prop :=
  ∃ kk E4 H4 U4 : Int, c = .int .i64 kk ∧ f = errV kk ∧ 0 ≤ kk ∧ kk ≤ 11 ∧ E4 ≤ k + 1 ∧ Rel p q w wx n E4 H4 U4 ∧ wx.cell? ⟨g, 3, none⟩ = some (.int .i64 now)
theorem add_lit (b o n : Nat) : (⟨b, o, none⟩ : Addr).add n = ⟨b, o + n, none⟩ := by
  unfold Addr.add
  split
  · next h => rw [h]; rfl
  · rfl

set_option maxRecDepth 100000 in
set_option maxHeartbeats 4000000 in
theorem plays_some (n : Int) (a : Option Addr) (len cap : Nat) (w : World) (h1 : 1 ≤ n) (h2 : n ≤ 1000) (hlen : len ≤ 300)
    (hcell : 0 < len → ∃ b off, a = some ⟨b, off, none⟩ ∧ b < w.heap.size ∧ ∀ j, j < len → ∃ a x ep now, DeedAt w b (off + j * 4) a x ep now) :
    Calls Try.prog 3 #[.int .i64 n, .slice a len cap] w fun e w' => e = .returned (.bool true) ∧ Below w.heap.size w w' := by
  have HC := Lib.hid hcell
  clear hcell
  have h300 : decide (300 < (len : Int)) = false := by simp; omega
  have hn1 : decide (n < 1) = false := by simp; omega
  have hn2 : decide (1000 < n) = false := by simp; omega
  go_enter Try.func3, Try.ntmps3
  go_wp2_with fail
  refine (up_any _).mono ?_
  rintro e w1 ⟨rfl, hb1⟩
  go_wp2_with fail
  refine (new_ok n _ (by omega) (by omega)).mono ?_
  rintro e w2 ⟨rfl, hn, hbn, hsn⟩
  have hnn := Lib.hid (And.intro hn (And.intro hbn hsn))
  clear hsn hn hbn
  go_wp2_with fail
  have hr0 : Rel w1.heap.size w2.heap.size w (w2.alloc (.cells #[.int .i64 n, .int .u64 0, .int .i64 (-1), .int .i64 0] 33)) n 0 (-1) 0 := by
    have hs1 := hb1.size
    obtain ⟨hn, hbn, hsn⟩ := hnn.out
    have hbl := hb1.trans (hbn.mono hs1)
    exact ⟨hn.alloc _, lem_new _ _ _ _ _ _, ⟨by omega, by omega, by omega, by omega, by omega, by omega, by omega, by omega⟩, hbl.alloc hbl.size _, hs1, by omega⟩
  clear hb1 hnn
  go_loopw [9] (fun i wr => ∃ (k : Nat) (E H U : Int), k ≤ len ∧ E ≤ k ∧ i = .int .i64 k ∧ Rel w1.heap.size w2.heap.size w wr n E H U) (fun i _ => len - (intOf i).toNat)
  case atStart => exact ⟨0, 0, -1, 0, Nat.zero_le _, by omega, rfl, hr0⟩
  case round =>
    clear hr0
    obtain ⟨k, E, H, U, hk, hE0, rfl, hr⟩ := hrel
    by_cases hlt : k < len
    · obtain ⟨b, off, rfl, hb, hcell⟩ := HC.out (by omega)
      obtain ⟨a, x, ep, now, d0, d1, d2, d3, ha, hx2⟩ := hcell k hlt
      clear hcell HC
      have c0 := (hr.out.cell (by exact hb)).trans d0
      have c1 := (hr.out.cell (by exact hb)).trans d1
      have c2 := (hr.out.cell (by exact hb)).trans d2
      have c3 := (hr.out.cell (by exact hb)).trans d3
      clear d0 d1 d2 d3
      obtain ⟨u, hu⟩ : ∃ u, u = pk a 4 := ⟨_, rfl⟩
      have hpk := pk_lt a 4 (by omega)
      rw [← hu] at hpk
      have HU := Lib.hid hu.symm
      have HPK := Lib.hid hpk
      clear hpk hu
      have hxr := hr.alloc (.cells #[.int .i64 a, .int .i64 x, .int .u64 ep, .int .i64 now] 35)
      have HXR := Lib.hid hxr
      have HG := Lib.hid (And.intro (show wr.heap.size ≠ w1.heap.size from Nat.ne_of_gt hr.a.lt) (show wr.heap.size ≠ w2.heap.size from Nat.ne_of_gt hr.b.lt))
      have HE := Lib.hid (show E < 1000000 by omega)
      have HE0 := Lib.hid hE0
      have HK := Lib.hid (chK_le E H x ep)
      have HA := Lib.hid (And.intro ha hx2)
      clear hxr hr hE0 ha hx2
      go_wp2_with (first | (go_at_call 6; refine (fair_any x now _).mono ?_; rintro e w' ⟨rfl, rfl⟩) | (go_at_call 7; refine (dcheck_any HXR.out.b x ep).mono ?_; rintro e w' ⟨rfl, rfl⟩) | (go_at_call 9; refine (check_any HXR.out.a x ep).mono ?_; rintro e w' ⟨rfl, rfl⟩) | (go_at_call 8; refine (code_any (chK E H x ep) _ HK.out.1 HK.out.2).mono ?_; rintro e w' ⟨rfl, rfl⟩))
      refine (pick_any a 4 u _ HA.out.1.1 HA.out.1.2 (by omega) (by omega) HU.out).mono ?_
      rintro e w4 ⟨rfl, rfl⟩
      clear c0 c1 c2 c3
      go_upto_block 2 with fail
      go_cut [11, 12, 13, 14, 15, 16, 17, 18] (fun c f _ _ _ _ _ _ wx => Dun w1.heap.size w2.heap.size wr.heap.size w n now k c f wx)
      case first =>
        have hcase : u = 0 ∨ u = 1 ∨ u = 2 ∨ u = 3 := by have := HPK.out; omega
        clear HPK HU
        rcases hcase with rfl | rfl | rfl | rfl
        · as_aux_lemma =>
          have HT := Lib.hid (take_any (x := x) (now := now) HXR.out.a HXR.out.ok HA.out.2 HE.out)
          unfold TakeO at HT
          go_wp2_with fail
          refine HT.out.mono ?_
          rintro e w4 ⟨rfl, hl4⟩
          have hg4 := deed_keep (deed_new wr a x ep now) hl4.2 HG.out.1
          have HT5 := Lib.hid (dtake_any (x := x) (now := now) (HXR.out.one hl4) HXR.out.ok HE.out)
          unfold DTakeO at HT5
          obtain ⟨y1, y2, y3⟩ := deed_cell hg4
          have HL4 := Lib.hid hl4
          have HG4 := Lib.hid hg4
          clear hl4 hg4 HT
          go_wp2_with fail
          refine HT5.out.mono ?_
          rintro e w5 ⟨rfl, hl5⟩
          obtain ⟨-, -, g3⟩ := deed_cell (deed_keep HG4.out hl5.2 HG.out.2)
          have hR := HXR.out.both (take_ok HXR.out.ok HE.out HA.out.2) HL4.out hl5
          have hE : takeE E H U x now ≤ k + 1 := Int.le_trans (take_le ..) (by have := HE0.out; omega)
          obtain ⟨hk1, hk2⟩ := takeK_le H U x now
          clear hl5 HT5 HL4 HG4 y1 y2 y3 HXR HE HE0 HK HA HG
          generalize takeE E H U x now = E4 at hR hE
          generalize takeH H U x now = H4 at hR
          generalize takeU n H U x now = U4 at hR
          generalize takeK H U x now = kk at hk1 hk2 ⊢
          generalize told E H U x now = tt
          go_wp2
          go_meet
          exact ⟨kk, E4, H4, U4, rfl, rfl, hk1, hk2, hE, hR, g3⟩
        · as_aux_lemma =>
          have HT := Lib.hid (take_any (x := x) (now := now) HXR.out.a HXR.out.ok HA.out.2 HE.out)
          unfold TakeO at HT
          go_wp2_with fail
          refine HT.out.mono ?_
          rintro e w4 ⟨rfl, hl4⟩
          have hg4 := deed_keep (deed_new wr a x ep now) hl4.2 HG.out.1
          have HT5 := Lib.hid (dtake_any (x := x) (now := now) (HXR.out.one hl4) HXR.out.ok HE.out)
          unfold DTakeO at HT5
          obtain ⟨y1, y2, y3⟩ := deed_cell hg4
          have HL4 := Lib.hid hl4
          have HG4 := Lib.hid hg4
          clear hl4 hg4 HT
          go_wp2_with fail
          refine HT5.out.mono ?_
          rintro e w5 ⟨rfl, hl5⟩
          obtain ⟨-, -, g3⟩ := deed_cell (deed_keep HG4.out hl5.2 HG.out.2)
          have hR := HXR.out.both (take_ok HXR.out.ok HE.out HA.out.2) HL4.out hl5
          have hE : takeE E H U x now ≤ k + 1 := Int.le_trans (take_le ..) (by have := HE0.out; omega)
          obtain ⟨hk1, hk2⟩ := takeK_le H U x now
          clear hl5 HT5 HL4 HG4 y1 y2 y3 HXR HE HE0 HK HA HG
          generalize takeE E H U x now = E4 at hR hE
          generalize takeH H U x now = H4 at hR
          generalize takeU n H U x now = U4 at hR
          generalize takeK H U x now = kk at hk1 hk2 ⊢
          generalize told E H U x now = tt
          go_wp2
          go_meet
          exact ⟨kk, E4, H4, U4, rfl, rfl, hk1, hk2, hE, hR, g3⟩
        · as_aux_lemma =>
          have HT := Lib.hid (renew_any (x := x) (ep := ep) (now := now) HXR.out.a HXR.out.ok)
          unfold RenO at HT
          go_wp2_with fail
          refine HT.out.mono ?_
          rintro e w4 ⟨rfl, hl4⟩
          have hg4 := deed_keep (deed_new wr a x ep now) hl4.2 HG.out.1
          obtain ⟨y1, y2, y3⟩ := deed_cell hg4
          have hb4 := HXR.out.one hl4
          have HOK := Lib.hid (ren_ok (x := x) (e := ep) (now := now) HXR.out.ok)
          have HL4 := Lib.hid hl4
          have HG4 := Lib.hid hg4
          have HB4 := Lib.hid hb4
          clear hl4 hg4 HT hb4
          rcases ren_three n E H U x ep now with ⟨f1, f2, f3⟩ | ⟨f1, f2, f3, f4, f5, f6⟩ | ⟨f1, f2, f3, f4⟩
          · rw [f3] at HOK HL4
            rw [f2] at *
            rw [f1] at *
            clear f1 f2 f3
            have hR := HXR.out.both HOK.out HL4.out (Left.same HB4.out)
            have hE : E ≤ k + 1 := by have := HE0.out; omega
            have g3 := y3
            have hk1 : (0 : Int) ≤ 1 := by omega
            have hk2 : (1 : Int) ≤ 11 := by omega
            clear HL4 HG4 HB4 y1 y2 HXR HE HE0 HK HA HG HOK
            go_wp2
            go_meet
            exact ⟨1, E, H, U, rfl, rfl, hk1, hk2, hE, hR, g3⟩
          · rw [f4] at HOK HL4
            rw [f3] at *
            rw [f1] at *
            rw [f2] at *
            rw [errV_zero] at *
            clear f1 f2 f3 f4
            have HL5 := Lib.hid ((Left.same HB4.out).set3 (now + n))
            have m0 := HB4.out.c0
            have m3 := HB4.out.c3
            have HY0 := Lib.hid (set3_zero HB4.out)
            have HY3 := Lib.hid (fun v => set3_far y3 HG.out.2 v)
            have hwr := IntWalk.i64_in (now + n) (by omega)
            have mf := HB4.out.frz
            have hgq := HG.out.2
            have hqg : w2.heap.size ≠ wr.heap.size := fun e => hgq e.symm
            go_wp2_with fail
            go_region_held3 (fun w' => w'.cell? ⟨wr.heap.size, 3, none⟩ = some (.int .i64 now) ∧ w'.cell? ⟨w2.heap.size, 0, none⟩ = some (.int .i64 n)) (first | exact ⟨HY3.out _, HY0.out _⟩ | go_keep) (fail)
            have g3 : (w4.setCell ⟨w2.heap.size, 3, none⟩ (.int .i64 (now + n))).drew.cell? ⟨wr.heap.size, 3, none⟩ = some (.int .i64 now) := HY3.out _
            have hR := (HXR.out.both HOK.out HL4.out HL5.out).drew
            have hE : E ≤ k + 1 := by have := HE0.out; omega
            rename_i hHeld
            have hk1 : (0 : Int) ≤ 0 := by omega
            have hk2 : (0 : Int) ≤ 11 := by omega
            go_wp2
            go_meet
            exact ⟨0, E, H, _, rfl, rfl, hk1, hk2, hE, hR, g3⟩
          · rw [f4] at HOK HL4
            rw [f3] at *
            rw [f1] at *
            clear f1 f3 f4
            have hR := HXR.out.both HOK.out HL4.out (Left.same HB4.out)
            have hE : E ≤ k + 1 := by have := HE0.out; omega
            have g3 := y3
            obtain ⟨hk1, hk2⟩ := HK.out
            clear HL4 HG4 HB4 y1 y2 HXR HE HE0 HK HA HG HOK
            generalize chK E H x ep = kk at hk1 hk2 f2 ⊢
            go_wp2
            go_meet
            exact ⟨kk, E, H, U, rfl, rfl, hk1, hk2, hE, hR, g3⟩
        · as_aux_lemma =>
          have HT := Lib.hid (release_any (x := x) (ep := ep) HXR.out.a)
          unfold RelO at HT
          go_wp2_with fail
          refine HT.out.mono ?_
          rintro e w4 ⟨rfl, hl4⟩
          have hg4 := deed_keep (deed_new wr a x ep now) hl4.2 HG.out.1
          obtain ⟨y1, y2, y3⟩ := deed_cell hg4
          have hb4 := HXR.out.one hl4
          have HOK := Lib.hid (rel_ok (x := x) (e := ep) HXR.out.ok)
          have HL4 := Lib.hid hl4
          have HG4 := Lib.hid hg4
          have HB4 := Lib.hid hb4
          clear hl4 hg4 HT hb4
          rcases rel_two E H x ep with ⟨f1, f2⟩ | ⟨f1, f2⟩
          · rw [f2] at HOK HL4
            rw [f1] at *
            rw [errV_zero] at *
            clear f1 f2
            have HL5 := Lib.hid ((Left.same HB4.out).set2 (-1))
            have m2 := HB4.out.c2
            have mf := HB4.out.frz
            obtain ⟨-, -, g3⟩ := deed_cell (deed_keep HG4.out HL5.out.2 HG.out.2)
            have hR := HXR.out.both HOK.out HL4.out HL5.out
            have hE : E ≤ k + 1 := by have := HE0.out; omega
            have hk1 : (0 : Int) ≤ 0 := by omega
            have hk2 : (0 : Int) ≤ 11 := by omega
            go_wp2
            go_meet
            exact ⟨0, E, -1, U, rfl, rfl, hk1, hk2, hE, hR, g3⟩
          · rw [f2] at HOK HL4
            clear f2
            have hR := HXR.out.both HOK.out HL4.out (Left.same HB4.out)
            have hE : E ≤ k + 1 := by have := HE0.out; omega
            have g3 := y3
            obtain ⟨hk1, hk2⟩ := HK.out
            clear HL4 HG4 HB4 y1 y2 HXR HE HE0 HK HA HG HOK
            generalize chK E H x ep = kk at hk1 hk2 f1 ⊢
            go_wp2
            go_meet
            exact ⟨kk, E, H, U, rfl, rfl, hk1, hk2, hE, hR, g3⟩
      case rest =>
        clear HXR HG HE HE0 HK HA HU HPK
        obtain ⟨kk, E4, H4, U4, rfl, rfl, hk1, hk2, hE, hR, g3⟩ := hcut
        have HO := holder_any (w := wc) hR.a hR.ok.h1 now
        rcases ho_ways H4 U4 now with ⟨v1, v2, d1, d2⟩ | ⟨v1, v2, d1⟩ | ⟨v1, v2, d1, d2⟩
        all_goals
          rw [v1, v2] at HO
          have HX := Lib.hid HO
          clear HO v1 v2
          have m1 := hR.b.c1
          have m2 := hR.b.c2
          have m3 := hR.b.c3
          have HR := Lib.hid hR
          have HE := Lib.hid hE
          clear hR hE
          go_wp2_with fail
          refine HX.out.mono ?_
          rintro e w6 ⟨rfl, rfl⟩
          clear HX
          go_wp2_with fail
          go_quiet (fail)
          go_wp2_with fail
          go_quiet (first | (go_at_call 8; exact quiet_more (code_any kk _ hk1 hk2)) | (go_at_call 16; exact quiet_more (epoch_any (HR.out.a.drewN _))))
          go_wp2
          go_roundw
          case rel => exact ⟨k + 1, E4, H4, U4, by omega, HE.out, by go_num, HR.out.drewN _⟩
          case measure => simp [intOf]; omega
    · obtain rfl : k = len := by omega
      have HO := Lib.hid hr.out
      clear hr
      go_wp2
      go_ret
      exact ⟨rfl, HO.out⟩

set_option maxRecDepth 100000 in
set_option maxHeartbeats 1000000 in
theorem plays_long (n : Int) (a : Option Addr) (len cap : Nat) (w : World) (h1 : 1 ≤ n) (h2 : n ≤ 1000) (hlen : 300 < len) (hm : len ≤ maxLen) :
    Calls Try.prog 3 #[.int .i64 n, .slice a len cap] w fun e w' => e = .returned (.bool true) ∧ Below w.heap.size w w' := by
  unfold maxLen at hm
  have h300 : decide (300 < (len : Int)) = true := by simp; omega
  have hn1 : decide (n < 1) = false := by simp; omega
  have hn2 : decide (1000 < n) = false := by simp; omega
  go_enter Try.func3, Try.ntmps3
  go_wp2_with fail
  refine (up_any _).mono ?_
  rintro e w1 ⟨rfl, hb1⟩
  go_wp2_with fail
  refine (new_ok n _ (by omega) (by omega)).mono ?_
  rintro e w2 ⟨rfl, -, hbn, -⟩
  have hbl := hb1.trans (hbn.mono hb1.size)
  clear hb1 hbn
  go_wp2
  go_ret
  exact ⟨rfl, hbl⟩

set_option maxRecDepth 100000 in
set_option maxHeartbeats 1000000 in
theorem plays_bad (n : Int) (a : Option Addr) (len cap : Nat) (w : World) (h : n < 1 ∨ 1000 < n) :
    Calls Try.prog 3 #[.int .i64 n, .slice a len cap] w fun e w' => e = .returned (.bool true) ∧ Below w.heap.size w w' := by
  have HE := Lib.hid eql_err
  have HN := Lib.hid h
  have hd : decide (n < 1) = true ∨ decide (n < 1) = false ∧ decide (1000 < n) = true := by
    by_cases e : n < 1
    · exact .inl (by simpa using e)
    · exact .inr ⟨by simp; omega, by simp; omega⟩
  clear h
  rcases hd with h1 | ⟨h1, h2⟩
  all_goals
    go_enter Try.func3, Try.ntmps3
    go_wp2_with fail
    refine (up_any _).mono ?_
    rintro e w1 ⟨rfl, hb1⟩
    go_wp2_with fail
    refine (new_no n _ HN.out).mono ?_
    rintro e w2 ⟨rfl, rfl⟩
    have he := HE.out
    go_wp2
    go_ret
    exact ⟨rfl, hb1⟩
end Go.Proofs.Yteognjhbgimgpaa
