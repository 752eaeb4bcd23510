/- The law's head (the document's example): it returns true; nothing that was there is changed. No condition. -/
import Derived.Test.YtojofhmhmcchnaaZl
import Derived.Lib.SlBytesConst
import Derived.Lib.SmallJoins
namespace Go.Proofs.Ytojofhmhmcchnaa
open Go.RowKit
set_option linter.unusedVariables false
set_option maxRecDepth 100000

theorem spost_lit {C : Nat → Prop} {w : World} {p b n : Nat} {L : List Sl} {h : Qh} {r : Rq} (hS : SlO C w p b n L) (hC : ¬ C b) (hCn : ∀ k, w.heap.size ≤ k → C k) (hr : RqR w h r) (hs : smallQ r = true) :
    Calls Try.prog 10 #[.pointer (some ⟨p, 0, none⟩), .agg #[.int .i64 r.cl, .int .i64 r.sq, .int .i64 r.kind, .slice h.A h.n h.c, .slice h.B h.m h.d, .slice h.C h.o h.p, .slice h.D h.q h.s, .int .i64 r.limit]] w (PostO C w p b n L r) := spost_any hS hC hCn hr hs
theorem sans_lit {C : Nat → Prop} {w : World} {p b n : Nat} {L : List Sl} {h : Sh} {a : An} (hS : SlO C w p b n L) (hok : OkL L) (hC : ¬ C b) (hCn : ∀ k, w.heap.size ≤ k → C k) (i : Int) (hr : On (fun k => k ≠ b) w (AnR · h a)) (hs : SmA a) :
    Calls Try.prog 14 #[.pointer (some ⟨p, 0, none⟩), .int .i64 i, .agg #[.int .i64 a.code, .bool a.found, .slice h.A h.n h.c, .slice h.B h.m h.d, .int .u64 a.stamp]] w (AnsO C w p b n L i a) := sans_any hS hok hC hCn i hr hs
/-- What Take tells, written out. -/
theorem take_lit {C : Nat → Prop} {w : World} {p b n : Nat} {L : List Sl} (h : SlO C w p b n L) (hok : OkL L) (hC : ¬ C b) (i c q : Int) :
    Calls Try.prog 16 #[.pointer (some ⟨p, 0, none⟩), .int .i64 i, .int .i64 c, .int .i64 q] w fun e w' =>
      ∃ h : Sh, e = .returned (.tuple #[.agg #[.int .i64 (takeA L i c q).code, .bool (takeA L i c q).found, .slice h.A h.n h.c, .slice h.B h.m h.d, .int .u64 (takeA L i c q).stamp], errV (takeK L i c q)]) ∧ On C w' (AnR · h (takeA L i c q)) ∧ SlO C w' p b n (takeL L i c q) ∧ Chg b w w' := take_any h hok hC i c q

def upR : Rq := ⟨1, 2, 1, [97], [], [], [], 0⟩
def upA : An := ⟨0, true, [], [], 0⟩
def upL0 : List Sl := List.replicate 2 sl0
def upL1 : List Sl := postL upL0 upR
def upL2 : List Sl := turnL upL1 0 2 1 1
def upL3 : List Sl := ansL upL2 0 upA
theorem up14_facts : postK upL0 upR = 0 ∧ postI upL0 upR = 0 ∧ turnK upL1 0 1 1 = 0 ∧ turnK upL2 0 2 2 = 0 ∧ takeK upL3 0 1 2 = 0 ∧ (takeA upL3 0 1 2).found = true ∧ stOf (takeL upL3 0 1 2) 0 = 0 ∧ smallQ upR = true := by decide
theorem up14_ok : OkL upL0 ∧ OkL upL1 ∧ OkL upL2 ∧ OkL upL3 := by
  have h0 := ok_new 2
  have h1 := ok_post h0 upR
  have h2 := ok_turn h1 0 2 1 1 (by omega) (by omega)
  exact ⟨h0, h1, h2, ok_ans h2 0 upA⟩
theorem up14_sm : SmA upA := ⟨by decide, by decide, fun p hp => by cases hp⟩
theorem byt_lit (w : World) (u : UInt8) (x : Int) (hx : x = (u.toNat : Int)) (fr : Nat × Nat) : Byt (w.alloc (.cells #[.int .u8 x] 5 fr)) (some ⟨w.heap.size, 0, none⟩) 1 [u] := by
  refine ⟨rfl, fun _ => ⟨_, rfl, by simp, fun j hj => ?_⟩⟩
  obtain rfl : j = 0 := by simp at hj; omega
  have := World.cell?_alloc_mark w #[.int .u8 x] 5 fr 0
  simpa [Addr.add, hx] using this

set_option maxHeartbeats 4000000 in
theorem up_any (w : World) : Calls Try.prog 5 #[] w fun e w' => e = .returned (.bool true) ∧ Below w.heap.size w w' := by
  have HN := Lib.hid (show Calls Try.prog 6 #[.int .i64 2] w _ from new_yes (w.heap.size + 1 + 1 ≤ ·) w (n := 2) (by omega) (by omega))
  have hc : ¬ ((fun k => w.heap.size + 1 + 1 ≤ k) w.heap.size) := by show ¬ (w.heap.size + 1 + 1 ≤ w.heap.size); omega
  have HC := Lib.hid hc
  clear hc
  have ee := fun w => eql_err 1 1 w
  have kc := fun (w : World) (C : Array Value) (n c g : Nat) (hg : g = w.heap.size) => Joins.run_convert_bytes_const_at (P := Try.prog) w 31 5 C n c g hg Try.underlying31 Try.underlying5
  go_enter Try.func5, Try.ntmps5
  go_wp2_with fail
  refine HN.out.mono ?_
  rintro e w1 ⟨rfl, h1, hb1⟩
  have HS1 := Lib.hid (show SlO (w.heap.size + 1 + 1 ≤ ·) w1 (w.heap.size + 1) w.heap.size 2 upL0 from h1)
  have HB1 := Lib.hid hb1
  have HNO := Lib.hid (new_no w1 (i := 0) (.inl (by omega)))
  clear h1 hb1 HN
  go_wp2_with fail
  refine HNO.out.mono ?_
  rintro e w2 ⟨rfl, rfl⟩
  clear HNO
  obtain ⟨w2, hw2⟩ : ∃ w2, w2 = w1.alloc (.cells #[.int .u8 97] 5 (1, 2)) := ⟨_, rfl⟩
  have ha : Byt w2 (some ⟨w1.heap.size, 0, none⟩) 1 [97] := by rw [hw2]; exact byt_lit w1 97 97 rfl (1, 2)
  have hb2 : Below w1.heap.size w1 w2 := by rw [hw2]; exact (Below.refl _ _).alloc (Nat.le_refl _) _
  have hs2 : w1.heap.size < w2.heap.size := by rw [hw2]; simp
  have hl1 := HS1.out.lt
  have HW2 := Lib.hid hw2
  have HB2 := Lib.hid (HB1.out.trans (hb2.mono HB1.out.size))
  have HP := Lib.hid (show Calls Try.prog 10 #[.pointer (some ⟨w.heap.size + 1, 0, none⟩), .agg #[.int .i64 1, .int .i64 2, .int .i64 1, .slice (some ⟨w1.heap.size, 0, none⟩) 1 1, .slice none 0 0, .slice none 0 0, .slice none 0 0, .int .i64 0]] w2 _ from
    spost_lit (h := ⟨some ⟨w1.heap.size, 0, none⟩, 1, 1, none, 0, 0, none, 0, 0, none, 0, 0⟩) (r := upR) (HS1.out.below hb2) HC.out (fun k hk => by show w.heap.size + 1 + 1 ≤ k; omega) ⟨ha, byt_none _, byt_none _, byt_none _⟩ up14_facts.2.2.2.2.2.2.2)
  unfold PostO at HP
  rw [up14_facts.1, up14_facts.2.1, errV_zero] at HP
  have HL2 := Lib.hid (show w.heap.size + 1 + 1 ≤ w2.heap.size by omega)
  clear ha hb2 hs2 hl1 hw2
  go_wp2_with fail
  rw [← HW2.out]
  refine HP.out.mono ?_
  rintro e w3 ⟨rfl, h3, hc3⟩
  have HS3 := Lib.hid (show SlO (w.heap.size + 1 + 1 ≤ ·) w3 (w.heap.size + 1) w.heap.size 2 upL1 from h3)
  have HB3 := Lib.hid (HB2.out.trans (hc3.below (Nat.le_refl _) HB2.out.size))
  have HL3 := Lib.hid (Nat.le_trans HL2.out hc3.size)
  have HCL := Lib.hid (claim_any h3 up14_ok.2.1 HC.out 0)
  unfold TurnO at HCL
  rw [show postL upL0 upR = upL1 from rfl, up14_facts.2.2.1, errV_zero] at HCL
  clear h3 hc3 HP HS1 HW2 HB1 HB2 HL2
  go_wp2_with fail
  refine HCL.out.mono ?_
  rintro e w4 ⟨rfl, h4, hc4⟩
  have HS4 := Lib.hid (show SlO (w.heap.size + 1 + 1 ≤ ·) w4 (w.heap.size + 1) w.heap.size 2 upL2 from h4)
  have HB4 := Lib.hid (HB3.out.trans (hc4.below (Nat.le_refl _) HB3.out.size))
  have HL4 := Lib.hid (Nat.le_trans HL3.out hc4.size)
  have HAN := Lib.hid (show Calls Try.prog 14 #[.pointer (some ⟨w.heap.size + 1, 0, none⟩), .int .i64 0, .agg #[.int .i64 0, .bool true, .slice none 0 0, .slice none 0 0, .int .u64 0]] w4 _ from
    sans_lit (h := sh0) (a := upA) HS4.out up14_ok.2.2.1 HC.out (fun k hk => Nat.le_trans HL4.out hk) 0 (fun v hv => ⟨byt_none v, prs_nil v⟩) up14_sm)
  unfold AnsO at HAN
  rw [up14_facts.2.2.2.1, errV_zero] at HAN
  clear h4 hc4 HCL HS3 HB3 HL3
  go_wp2_with fail
  refine HAN.out.mono ?_
  rintro e w5 ⟨rfl, h5, hc5⟩
  have HS5 := Lib.hid (show SlO (w.heap.size + 1 + 1 ≤ ·) w5 (w.heap.size + 1) w.heap.size 2 upL3 from h5)
  have HB5 := Lib.hid (HB4.out.trans (hc5.below (Nat.le_refl _) HB4.out.size))
  have HTK := Lib.hid (take_lit h5 up14_ok.2.2.2 HC.out 0 1 2)
  rw [show ansL upL2 0 upA = upL3 from rfl, up14_facts.2.2.2.2.1, errV_zero] at HTK
  clear h5 hc5 HAN HS4 HB4 HL4
  go_wp2_with fail
  refine HTK.out.mono ?_
  rintro e w6 ⟨h6, rfl, ho6, hs6, hc6⟩
  have HS6 := Lib.hid hs6
  have HB6 := Lib.hid (HB5.out.trans (hc6.below (Nat.le_refl _) HB5.out.size))
  rw [up14_facts.2.2.2.2.2.1]
  generalize hta : takeA upL3 0 1 2 = ta
  generalize htl : takeL upL3 0 1 2 = tl at HS6
  have hst : stOf tl 0 = 0 := by rw [← htl]; exact up14_facts.2.2.2.2.2.2.1
  have HX := Lib.hid (show ∃ W, W = w6.alloc (.cells #[.int .i64 ta.code, .bool true, .slice h6.A h6.n h6.c, .slice h6.B h6.m h6.d, .int .u64 ta.stamp] 37) ∧ Below w6.heap.size w6 W ∧ W.cell? ⟨w6.heap.size, 1, none⟩ = some (.bool true) from ⟨_, rfl, (Below.refl _ _).alloc (Nat.le_refl _) _, by simp⟩)
  clear ho6 hs6 hc6 HTK HS5 HB5 hta htl
  go_upto_region 9 with fail
  obtain ⟨W, hW, hWB, hWc⟩ := HX.out
  rw [← hW]
  have HST := state_any (HS6.out.below hWB) 0
  rw [hst] at HST
  have HST := Lib.hid HST
  have HBW := Lib.hid (HB6.out.trans (hWB.mono HB6.out.size))
  clear hW hWB HX hst
  go_wp2_with fail
  refine HST.out.mono ?_
  rintro e w7 ⟨rfl, rfl⟩
  go_wp2
  go_ret
  exact ⟨rfl, HBW.out⟩
end Go.Proofs.Ytojofhmhmcchnaa
