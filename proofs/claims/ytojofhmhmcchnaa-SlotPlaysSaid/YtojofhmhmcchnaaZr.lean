/- SlotPlays: the law's pick; both rows of slots side by side, and a deed's box. No condition. -/
import Derived.Test.YtojofhmhmcchnaaZm
import Derived.Test.YtojofhmhmcchnaaZq
namespace Go.Proofs.Ytojofhmhmcchnaa
open Go.RowKit
set_option linter.unusedVariables false
set_option maxRecDepth 100000

/-- What pick takes of a raw number, modulo m. -/
def pk (c m : Int) : Int := (if c < 0 then -(c + 1) else c) % m
theorem pk_lt (c m : Int) (hm : 0 < m) : 0 ≤ pk c m ∧ pk c m < m := by
  unfold pk
  exact ⟨Int.emod_nonneg _ (by omega), Int.emod_lt_of_pos _ hm⟩
set_option maxHeartbeats 400000 in
theorem pick_any (c m r : Int) (w : World) (h1 : -9223372036854775808 ≤ c) (h2 : c ≤ 9223372036854775807) (hm : 1 ≤ m) (hm2 : m ≤ 1000) (hr : pk c m = r) :
    Calls Try.prog 9 #[.int .i64 c, .int .i64 m] w fun e w' => e = .returned (.int .i64 r) ∧ w = w' := by
  subst hr
  by_cases hc : c < 0
  · have hv : -(c + 1).tmod m = pk c m := by
      unfold pk
      rw [if_pos hc, ← Int.neg_tmod, Int.tmod_eq_emod_of_nonneg (by omega)]
    have HV := Lib.hid hv
    clear hv
    go_enter Try.func9, Try.ntmps9
    go_wp2
    go_ret
    exact ⟨ret_int HV.out, rfl⟩
  · have hv : c % m = pk c m := by
      unfold pk
      rw [if_neg hc]
    have HV := Lib.hid hv
    clear hv
    go_enter Try.func9, Try.ntmps9
    go_wp2
    go_ret
    exact ⟨ret_int HV.out, rfl⟩

theorem sm_new (n : Nat) : SmL (List.replicate n sl0) := fun j => by rw [sl_new]; decide
theorem SmL.set {L : List Sl} (h : SmL L) {i : Nat} (hi : i < L.length) {x : Sl} (hx : smallQ x.r = true) : SmL (L.set i x) := fun j => by
  rw [sl_set hi]
  split
  · exact hx
  · exact h j
theorem sm_post {L : List Sl} (h : SmL L) {r : Rq} (hr : smallQ r = true) : SmL (postL L r) := by
  unfold postL
  split
  · rename_i hk
    obtain ⟨-, -, i, e, hi, -⟩ := postK_zero hk
    rw [e, Int.toNat_natCast]
    exact h.set hi hr
  · exact h
theorem sm_turn {L : List Sl} (h : SmL L) (i t a b : Int) : SmL (turnL L i t a b) := by
  unfold turnL
  split
  · rename_i hk
    obtain ⟨j, rfl, hj, -⟩ := turnK_zero hk
    rw [Int.toNat_natCast]
    exact h.set hj (h j)
  · exact h
theorem sm_ans {L : List Sl} (h : SmL L) (i : Int) (x : An) : SmL (ansL L i x) := by
  unfold ansL
  split
  · rename_i hk
    obtain ⟨j, rfl, hj, -⟩ := turnK_zero hk
    rw [Int.toNat_natCast]
    exact h.set hj (h j)
  · exact h
theorem sm_take {L : List Sl} (h : SmL L) (i c q : Int) : SmL (takeL L i c q) := by
  unfold takeL
  split
  · rename_i hk
    obtain ⟨j, rfl, hj⟩ := takeK_in (L := L) (i := i) (c := c) (q := q) (by omega)
    rw [Int.toNat_natCast]
    exact h.set hj (by decide)
  · exact h

/-- The blocks that the program's own slots may lead to. -/
def Cp (B p b m : Nat) (k : Nat) : Prop := B ≤ k ∧ k ≠ p ∧ k ≠ b ∧ k ≠ m
/-- The program's slots, and the document's own, side by side. -/
structure PS (w : World) (p b m n : Nat) (L1 L2 : List Sl) (wx : World) : Prop where
  slots : SlO (Cp w.heap.size p b m) wx p b n L1
  doc : SlM (fun k => k < w.heap.size) wx 51 m n L2
  ok1 : OkL L1
  ok2 : OkL L2
  sm1 : SmL L1
  sm2 : SmL L2
  below : Below w.heap.size w wx
  lp : w.heap.size ≤ p
  lb : w.heap.size ≤ b
  lm : w.heap.size ≤ m
  mp : m ≠ p
  mb : m ≠ b
theorem PS.cb {w wx : World} {p b m n : Nat} {L1 L2 : List Sl} (H : PS w p b m n L1 L2 wx) : ¬ Cp w.heap.size p b m b := fun h => h.2.2.1 rfl
theorem PS.cm {w wx : World} {p b m n : Nat} {L1 L2 : List Sl} (H : PS w p b m n L1 L2 wx) : ¬ ((fun k => k < w.heap.size) m) := by
  have := H.lm
  show ¬ (m < w.heap.size)
  omega
theorem PS.cn {w wx : World} {p b m n : Nat} {L1 L2 : List Sl} (H : PS w p b m n L1 L2 wx) : ∀ k, wx.heap.size ≤ k → Cp w.heap.size p b m k := fun k hk => by
  have h1 := H.slots.lt
  have h2 := H.slots.2.2.2.lt
  have h3 := H.doc.lt
  have h4 := H.below.size
  exact ⟨by omega, by omega, by omega, by omega⟩
theorem PS.n32 {w wx : World} {p b m n : Nat} {L1 L2 : List Sl} (H : PS w p b m n L1 L2 wx) : n ≤ 32 := H.slots.2.2.1
theorem PS.prog {w wx wy : World} {p b m n : Nat} {L1 L2 L' : List Sl} (H : PS w p b m n L1 L2 wx) (hs : SlO (Cp w.heap.size p b m) wy p b n L') (hc : Chg b wx wy) (hok : OkL L') (hsm : SmL L') : PS w p b m n L' L2 wy := by
  have hlb := H.lb
  refine ⟨hs, H.doc.keep (hc.agree (fun h => by have h' : b < w.heap.size := h; omega)) (hc.block m H.doc.lt H.mb), hok, H.ok2, hsm, H.sm2, H.below.trans (hc.below hlb H.below.size), H.lp, H.lb, H.lm, H.mp, H.mb⟩
theorem PS.dc {w wx wy : World} {p b m n : Nat} {L1 L2 L' : List Sl} (H : PS w p b m n L1 L2 wx) (hs : SlM (fun k => k < w.heap.size) wy 51 m n L') (hc : Chg m wx wy) (hok : OkL L') (hsm : SmL L') : PS w p b m n L1 L' wy := by
  have hlm := H.lm
  refine ⟨H.slots.keep (hc.agree (fun h => h.2.2.2 rfl)) (hc.block p H.slots.lt (Ne.symm H.mp)) (hc.block b H.slots.2.2.2.lt (Ne.symm H.mb)), hs, H.ok1, hok, H.sm1, hsm, H.below.trans (hc.below hlm H.below.size), H.lp, H.lb, H.lm, H.mp, H.mb⟩
theorem PS.more {w wx wy : World} {p b m n : Nat} {L1 L2 : List Sl} (H : PS w p b m n L1 L2 wx) (hb : Below wx.heap.size wx wy) : PS w p b m n L1 L2 wy :=
  ⟨H.slots.below hb, H.doc.below hb, H.ok1, H.ok2, H.sm1, H.sm2, H.below.trans (hb.mono H.below.size), H.lp, H.lb, H.lm, H.mp, H.mb⟩

/-- A deed's box. -/
def BoxD (w : World) (b : Nat) (h : Qh) (k : Sh) (x : De) : Prop := w.heap[b]? = some (.cells (deC h k x).toArray 39 (0, 0))
theorem BoxD.lt {w : World} {b : Nat} {h : Qh} {k : Sh} {x : De} (hb : BoxD w b h k x) : b < w.heap.size := (Array.getElem?_eq_some_iff.1 hb).1
theorem BoxD.at_ {w : World} {b : Nat} {h : Qh} {k : Sh} {x : De} (hb : BoxD w b h k x) : DeAt w b 0 h k x := by
  unfold BoxD at hb
  have hc : ∀ t, w.cell? ⟨b, 0 + t, none⟩ = (deC h k x)[t]? := fun t => by simp [World.cell?, hb]
  exact ⟨hc 0, hc 1, hc 2, hc 3, hc 4, hc 5, hc 6, hc 7, hc 8, hc 9, hc 10, hc 11, hc 12, hc 13, hc 14, hc 15, hc 16⟩
/-- Both rows, and a deed in its box. -/
structure RD (w : World) (p b m n : Nat) (L1 L2 : List Sl) (g : Nat) (h : Qh) (k : Sh) (x : De) (wx : World) : Prop where
  ps : PS w p b m n L1 L2 wx
  box : BoxD wx g h k x
  gb : b ≠ g
  gm : m ≠ g
theorem RD.prog {w wx wy : World} {p b m n g : Nat} {L1 L2 L' : List Sl} {h : Qh} {k : Sh} {x : De} (H : RD w p b m n L1 L2 g h k x wx) (hs : SlO (Cp w.heap.size p b m) wy p b n L') (hc : Chg b wx wy) (hok : OkL L') (hsm : SmL L') : RD w p b m n L' L2 g h k x wy :=
  ⟨H.ps.prog hs hc hok hsm, (hc.block g H.box.lt (Ne.symm H.gb)).trans H.box, H.gb, H.gm⟩
theorem RD.dc {w wx wy : World} {p b m n g : Nat} {L1 L2 L' : List Sl} {h : Qh} {k : Sh} {x : De} (H : RD w p b m n L1 L2 g h k x wx) (hs : SlM (fun k => k < w.heap.size) wy 51 m n L') (hc : Chg m wx wy) (hok : OkL L') (hsm : SmL L') : RD w p b m n L1 L' g h k x wy :=
  ⟨H.ps.dc hs hc hok hsm, (hc.block g H.box.lt (Ne.symm H.gm)).trans H.box, H.gb, H.gm⟩
theorem RD.more {w wx wy : World} {p b m n g : Nat} {L1 L2 : List Sl} {h : Qh} {k : Sh} {x : De} (H : RD w p b m n L1 L2 g h k x wx) (hb : Below wx.heap.size wx wy) : RD w p b m n L1 L2 g h k x wy :=
  ⟨H.ps.more hb, (hb.block g H.box.lt).trans H.box, H.gb, H.gm⟩
/-- What the switch leaves. -/
def Dun (w : World) (p b m n g : Nat) (h : Qh) (k : Sh) (x : De) (c f : Value) (wx : World) : Prop :=
  ∃ L kk, c = .int .i64 kk ∧ f = errV kk ∧ 0 ≤ kk ∧ kk ≤ 11 ∧ RD w p b m n L L g h k x wx
end Go.Proofs.Ytojofhmhmcchnaa
